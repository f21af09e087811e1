import Derived.Test.YtenobhkjiebhaaaGreatDoorULeadS18
import Derived.Deep.CutRange
open Array renaming replicate_succ->yw,replicate_zero->yv
open Bool renaming false->Y,true->zq
open Int renaming natCast_nonneg->yr,toNat_natCast->ya
open List renaming length->Z,getElem?_eq_getElem->zg,getElem?_append_left->zf,getElem?_append_right->zc,length_cons->zb,length_append->z7,length_nil->yy,replicate->yx,map_append->yu,append_toArray->yt,getElem?_eq_some_iff->yp,drop_eq_getElem_cons->yo,size_toArray->yn,push_toArray->ym,cons_append->yk,nil_append->yi,mem_cons_of_mem->yg,getElem?_set_ne->yf,flatten_cons->y4
open Nat renaming le_trans->zj,le_refl->zi,lt_of_lt_of_le->za,le_of_lt->z6,reduceAdd->ye,reduceSub->yd,le_total->y3
open Option renaming some->V,none->zl,map_eq_some_iff->yj
open Or renaming inr->zd,inl->z9
open Prod renaming snd->zm
namespace Go.Proofs.YtenobhkjiebhaaaGreatDoor
open CallsIn renaming inRound->yh
open Go renaming World->zw,Value->zt
open Oper renaming semAt_some->yz
open _root_.Go.Proofs.Tryz renaming prog->ze,results94->z8,results95->yq,underlying50->yl,func152->yb
open Value renaming ownBlock->U
open World renaming grownBy->zu,frozen?->zs,setCell->zr,cell?_setCell_same'->zp,block_lt_of_cell?->zo,cell?->zn,frozen?_setCell->zk,ownsRow->zh,frozen?_of_block->z5
open Go.RowKit Go.Shelf Go.WideMaps
set_option maxHeartbeats 2000000
set_option maxRecDepth 100000
variable{S:List Int}{C F:List Nat}{xs:List zt}{B B1 N0 n p ra rb:Nat}{rt:Nat->Nat}{e:TypeId}{ve vl vm vn:zt}{W W' w w2 w3:zw}
section
theorem aBs(w:zw)(a:zt)(b:TypeId):zn (w.alloc (.cells #[a] b)) (aQ w.heap.size 0)=V a/\zs (w.alloc (.cells #[a] b)) (aQ w.heap.size 0)=false:=by simp_all
theorem aIc(w:zw)(a c f:zt)(b d i:TypeId):∃W,W=((w.alloc (.cells #[a] b)).alloc (.cells #[c] d)).alloc (.cells #[f] i)/\aB w W/\cQ W w.heap.size 0 a/\zs W (aQ w.heap.size 0)=Y/\cQ W (w.heap.size+1) 0 c/\cQ W (w.heap.size+1+1) 0 f/\W.heap.size=w.heap.size+3:=by
 refine⟨_,rfl,((aI _ _).alloc (by simp) _).alloc (by simp;omega) _,?_,?_,?_,?_,by simp⟩
 .have g:=(aBs w a b).1;have j:=Below.at' ((Below.refl _ (w.alloc (.cells #[a] b))).alloc (zi _) (.cells #[c] d)) (zi _) g;exact Below.at' ((Below.refl _ ((w.alloc (.cells #[a] b)).alloc (.cells #[c] d))).alloc (zi _) (.cells #[f] i)) (zi _) j
 .have k:Below (w.alloc (.cells #[a] b)).heap.size (w.alloc (.cells #[a] b)) (((w.alloc (.cells #[a] b)).alloc (.cells #[c] d)).alloc (.cells #[f] i)):=(aI _ _).alloc (by simp) _;rw[k.frozen (p:=(aQ w.heap.size 0)) (by simp)];exact(aBs w a b).2
 .have g:=(aBs (w.alloc (.cells #[a] b)) c d).1;rw[World.size_alloc]at g;exact Below.at' ((Below.refl _ ((w.alloc (.cells #[a] b)).alloc (.cells #[c] d))).alloc (zi _) (.cells #[f] i)) (zi _) g
 have g:=(aBs ((w.alloc (.cells #[a] b)).alloc (.cells #[c] d)) f i).1;simp_all
theorem cE.ends{tb:Nat}{f:zt}{a:List Nd}(d:cE w B tb vn ve vl f vm a F S)(j:0<Z a):∃b c,ve=sQ b (Z a) c/\∀p,p<Z a->cQ w b p (iQ (p+aM (a.drop p) 1)):=by obtain⟨g,i,e,k⟩:=aI7 d.re (pT a);grind[aI6,pT,aM,gA]
theorem oH.of{b:Nat}{q:zt}{a:List Nd}{d f g k c:Nat}(i:cE w B b vn (sQ g (Z a) k) vl q vm a F S)(m:0<Z a)(j:cQ w d 0 (iQ c))(l:cQ w f 0 (pQ b)):oH w d f b g a c:=by obtain⟨s,r,e,o⟩:=i.ends m;simp at e;obtain⟨rfl,rfl⟩:=e;exact⟨j,l,⟨_,i.c1⟩,o⟩
theorem aId{b:List Nat}{c:zw}(d:aB w c)(f:∀a∈b,a<w.heap.size):lG b w c:=λa g=>d.block a (f a g)
structure JC(L:List Nd)(rt:Nat->Nat)(a b:Nat)(Bs Q:Nat->Nat->Prop):Prop where
 sound:∀i j,rt i=rt j->Cl (aF L) Bs i j
 ab:Cl (aF L) Bs a b
 mod:fP (aF L) (λi j=>rt i=rt j) (xH Q a b)
def oY(a:List Nd)(rb k:Nat):Nat:=rb+1+aM (a.drop (rb+1)) k
theorem bE6:∀(b:Nat) (d:List Nd) (c a:Nat),a<b->(gE d b c)[a]?=V (c+aM d a):=by
 intro b;induction b with
 |zero=>intro d c a f;omega
 |succ b ih=>
  intro d c a f;rw[oT];cases a with
  |zero=>simp
  |succ a=>
   rw[List.getElem?_cons_succ,ih _ _ a (by omega),show a+1=1+a by omega,xC];simp;omega
theorem aIe{a:List Nd}{n:Nd}(c:a[p]?=V n){b:Nat}(d:b<bI n):((aF a).ch p)[b]?=V (oY a p b):=by rw[jE c,bE6 _ _ _ _ d];rfl
theorem aQa{a:List Nd}{n:Nd}(b:a[p]?=V n):Z ((aF a).ch p)=bI n:=by rw[jE b,yG]
theorem aQb{a:List Nd}(c:dV a){p:Nat}{n:Nd}(b:a[p]?=V n){k:Nat}(d:k<bI n):oY a p k<Z a/\oY a p (k+1)=oY a p k+aM (a.drop (oY a p k)) 1:=by obtain⟨f,g⟩:=aQt (c p n b) d;grind[oY,List.drop_drop,List.length_drop]
theorem aIf{a:List Nd}(g:dV a){p:Nat}{n:Nd}(b:a[p]?=V n):∀f∈(aF a).ch p,f<Z a:=by
 intro f i;obtain⟨k,c,rfl⟩:=List.getElem_of_mem i;have d:k<bI n:=by rw[<-aQa b];exact c
 have:=aIe b d;rw[zg c]at this;simp at this;rw[this];exact(aQb g b d).1
structure aBt(w:zw)(B tb gl cl:Nat)(vn ve vs vm:zt)(L:List Nd)(F0:List Nat)(S:List Int)(rt cA:Nat->Nat)(a b ra rb ob N0:Nat)(C pre:List Nat)(W:zw):Prop where
 big:N0<=W.heap.size
 st:∃F' rt' d',cE W B tb vn ve (sQ gl (Z L) cl) vs vm L F' S/\jP F' rt' d'/\nD L rt'/\pS F'<=pS F0/\(∀i j,cA i=cA j->rt' i=rt' j)/\
  (pre <+: C->∀Bs Q,JC L rt a b Bs Q->(∀i j,rt' i=rt' j->Cl (aF L) Bs i j)/\fP (aF L) (λi j=>rt' i=rt' j) (tA (aF L) Q ra rb (Z pre)))
 far:zu w W (V gl)
 x3:zn W (aQ w.heap.size 0)=V (pQ tb)
 x6:zn W (aQ (w.heap.size+1) 0)=V (.bool Y)
 f6:zs W (aQ (w.heap.size+1) 0)=Y
 o0:zn W (aQ ob 0)=V (iQ (oY L rb (Z pre)))
 of:zs W (aQ ob 0)=Y
structure aEm(w:zw)(B tb gl cl:Nat)(vn ve vs vm:zt)(L:List Nd)(F0:List Nat)(S:List Int)(rt cA:Nat->Nat)(a b:Nat)(C:List Nat)(c:Code)(pre:List Nat)(W:zw):Prop where
 ret:c=.ret
 st:∃F' rt' d',cE W B tb vn ve (sQ gl (Z L) cl) vs vm L F' S/\jP F' rt' d'/\nD L rt'/\pS F'<=pS F0/\(∀i j,cA i=cA j->rt' i=rt' j)
 no:pre <+: C->∀Bs Q,JC L rt a b Bs Q->¬fU (aF L) (Cl (aF L) Bs)
 far:zu w W (V gl)
 x6:zn W (aQ (w.heap.size+1) 0)=V (.bool Y)
theorem rH{f i:Option Nat}(a:zu w W f)(b:zu W W' i)(k:∀g,i=V g->w.heap.size<=g):zu w W' f:=
 ⟨b.os.trans a.os,b.tape.trans a.tape,b.output.trans a.output,zj a.size b.size,λc d j=>by
  rw[b.block c (za d a.size) (λe=>by have:=k c e.symm;omega),a.block c d j]⟩
section
variable {w:zw}{B tb gl cl:Nat}{vn ve vs vm:zt}{L:List Nd}{F0:List Nat}{S:List Int}{rt cA:Nat->Nat}{a b ra rb ob N N0:Nat}{C:List Nat}
theorem aBt.own(s:w.heap.size<=N):OwnFrom N (λ(pre:List (rF C)) W=>aBt w B tb gl cl vn ve vs vm L F0 S rt cA a b ra rb ob N0 C (pre.map λx=>x.1) W):=by
 intro pre W W' q c d i;have f:∀g,q=V g->∃j:Obj,W.heap[g]?=V j/\j.isCells=false:=λg e=>(i g e).2
 obtain⟨k,r,l,m,o⟩:=c.st;exact⟨zj c.big d.size,⟨k,r,l,m.others d f,o⟩,rH c.far d (λg e=>by have:=(i g e).1;omega),cell_kept c.x3 d f,cell_kept c.x6 d f,(frozen_kept c.x6 d f).trans c.f6,cell_kept c.o0 d f,(frozen_kept c.o0 d f).trans c.of⟩
theorem aEm.own(t:w.heap.size<=N)(l:Code):OwnFrom N (λ(pre:List (rF C)) W=>aEm w B tb gl cl vn ve vs vm L F0 S rt cA a b C l (pre.map λx=>x.1) W):=by
 intro pre W W' r d f g;have i:∀c,r=V c->∃j:Obj,W.heap[c]?=V j/\j.isCells=false:=λc e=>(g c e).2
 obtain⟨k,s,m,o,q⟩:=d.st;exact⟨d.ret,⟨k,s,m,o.others f i,q⟩,d.no,rH d.far f (λc e=>by have:=(g c e).1;omega),cell_kept d.x6 f i⟩
end
structure aEn(w W:zw)(tb gl ge ce ob:Nat)(L:List Nd)(o:Nat)(ks:List Nat)(B0:Nat)(W':zw):Prop where
 x3:zn W' (aQ w.heap.size 0)=V (pQ tb)
 x6:zn W' (aQ (w.heap.size+1) 0)=V (.bool Y)
 f6:zs W' (aQ (w.heap.size+1) 0)=Y
 o0:zn W' (aQ ob 0)=V (iQ o)
 of:zs W' (aQ ob 0)=Y
 c1:zn W' (aQ tb 1)=V (sQ ge (Z L) ce)
 en:zn W' (aQ ge o)=V (iQ (o+aM (L.drop o) 1))
 kp:lG ks W W'
 kf:KeepsFrom B0 W W'
 far:zu w W' (V gl)
theorem aBu{g:Nat}(f:Nat)(c:zu W W' (V g))(k:∃b:Obj,W.heap[g]?=V b/\b.isCells=zq):KeepsFrom f W W':=by obtain⟨m,i,j⟩:=k;exact⟨c.size,λl b _ a d=>(c.block l (bA a) (λe=>by simp at e;subst e;rw[i]at a;simp at a;subst a;rw[j]at d;cases d)).trans a⟩
theorem xI{g:Nat}(b:Nat){d:zt}(a:zn W (aQ g 0)=V d)(v:zt):KeepsFrom b W (zr W (aQ g 0) v):=by
 refine aBu b (cD W (aQ g 0) v) ?_;unfold zn at a;simp only at a;split at a
 .rename_i f e i c;exact⟨_,c,rfl⟩
 cases a
theorem aIg{f:List Nat}{b:Nat}(g:zu W W' (V b))(c:∀a∈f,a<W.heap.size/\a≠b):lG f W W':=λa d=>g.block a (c a d).1 (λe=>(c a d).2 (by simpa using e))
theorem aEn.make{i b o g j:Nat}{t:zt}{a:List Nd}{v:List Nat}{z:Nat->Nat}{x y k:Nat}{l:List Nat}{u:List Nat}(d:aBt w B i b o vn (sQ g (Z a) j) t vm a v S rt z x y ra rb k N0 C l W)(f:cE W B i vn (sQ g (Z a) j) (sQ b (Z a) o) t vm a u S)
  {W':zw} (c:zu W W' (V b)) (Q:w.heap.size<=k) (P:b<w.heap.size) (I:oY a rb (Z l)<Z a) {s:List Nat} (E:∀r∈s,r<W.heap.size/\r≠b) (m:Nat):aEn w W i b g j k a (oY a rb (Z l)) s m W':=by
 obtain⟨N,M,e,D⟩:=f.ends (by omega);simp at e;obtain⟨rfl,rfl⟩:=e;have H:g≠b:=λe=>f.ab (by simp[U,e])
 have J:i≠b:=λe=>eX f.rl f.box (by decide) (by simp[U,e])
 have q:∀{p:Addr}{L:zt},zn W p=V L->p.block≠b->zs W' p=zs W p:=λA G=>z5 (c.block _ (zo W _ A) (λe=>G (by simpa using e)))
 exact⟨c.cell d.x3 (by simp;omega),c.cell d.x6 (by simp;omega),(q d.x6 (by simp;omega)).trans d.f6,c.cell d.o0 (by simp;omega),(q d.o0 (by simp;omega)).trans d.of,c.cell f.c1 (by simpa using J),c.cell (D _ I) (by simpa using H),aIg c E,aBu m c (aBp f.rl rfl),d.far.trans c⟩
theorem aQc{c:Type}{a:c->Nat}{b:List c}{d:c}(f:(b++[d]).map a <+: C):b.map a <+: C/\C[b.length]?=V (a d):=by obtain⟨g,rfl⟩:=f;grind
theorem oI.part{a:List Nd}{f g:Nat->Nat}{o q k m:Nat}{l:Bool}{d i:Nat->Nat->Prop}(j:JC a rt o q d i)(z:rt o=rt ra)(A:rt q=rt rb)(E:(aF a).named ra)(G:(aF a).named rb)(D:∀b c,f b=f c->Cl (aF a) d b c)(y:fP (aF a) (λb c=>f b=f c) (tA (aF a) i ra rb k))(r:((aF a).ch ra)[k]?=V p)(s:((aF a).ch rb)[k]?=V m)(t:oI a f g p m l):(l=zq->(∀b c,g b=g c->Cl (aF a) d b c)/\fP (aF a) (λb c=>g b=g c) (tA (aF a) i ra rb (k+1)))/\(l=Y->¬fU (aF a) (Cl (aF a) d)):=by
 have x:Cl (aF a) d p m:=Cl.down (k:=k) ((j.sound _ _ z.symm).trans (j.ab.trans (j.sound _ _ A))) E G r s;obtain⟨u,v⟩:=t d (tA (aF a) i ra rb (k+1)) D x (y.part r s);exact⟨λe=>(u e).2,v⟩
attribute [local go_sem] yz
theorem yM{c:Func}{b:Ending->zw->Prop}{a:Act}{v:zt}(f:a.defers=[])(g:(results c a.tmps).run ze w=.ok v w)(d:b (.returned v) w):bodyPostM Fence.wide n ze c b .ret a w:=by show LeavesInM Fence.wide n ze c a.tmps b a.defers .returning w;rw[f];exact⟨v,g,d⟩
theorem bE7{c:Nat->Nat}(a:jP F rt c){p:Nat}(b:p<Z F):0<pS F:=by unfold pS;rw[List.countP_pos_iff];exact⟨rt p,by simpa using a.rt_lt b,by simp[a.rootAt b]⟩
theorem cE.node{f:Nat}{g:zt}{a:List Nd}(d:cE w B f vn ve vl g vm a F S){p:Nat}{n:Nd}(l:a[p]?=V n):∃b c,vn=sQ b (Z a) c/\cQ w b (p*2) (.string n.1)/\cQ w b (p*2+1) (iQ n.2):=by obtain⟨i,j,e,k⟩:=aN0 d.rn;grind
theorem cE.leader{k:Nat}{l:zt}{b:List Nd}(a:cE w B k vn ve vl l vm b F S){p:Nat}(q:p<Z b):∃c f,vl=sQ c (Z b) f/\(∃u,cQ w c p u)/\zs w (aQ c p)=false:=by obtain⟨m,d,e,j⟩:=aI7 a.rl a.lf;have o:=a.lf;obtain⟨g,rfl,i⟩:=j p (by omega);subst e;exact⟨g,d,rfl,⟨_,i⟩,a.rl.frozenAt p⟩
theorem aQd{b:zw}{i a:Nat}{v u q d:zt}(c:aB b w2)(r:cQ b w.heap.size 0 d)(j:cQ b (w.heap.size+1) 0 u)(l:zs b (aQ (w.heap.size+1) 0)=Y)(f:cQ b a p q)(m:zs b (aQ a p)=Y)(k:cQ b i 2 vl)(t:a<w.heap.size):cQ w2 i 2 vl/\cQ w2 w.heap.size 0 d/\(∃s,cQ w2 a p s)/\zs w2 (aQ a p)=Y/\zn (zr w2 (aQ a p) v) (aQ w.heap.size 0)=V d/\zn (zr w2 (aQ a p) v) (aQ (w.heap.size+1) 0)=V u/\zs (zr w2 (aQ a p) v) (aQ (w.heap.size+1) 0)=false:=by
 have g:=aC c r;have o:=aC c j;refine⟨aC c k,g,⟨_,aC c f⟩,(c.frozen (p:=(aQ a p)) (zo _ _ f)).trans m,jF g (by omega),jF o (by omega),?_⟩;rw[zk];exact(c.frozen (p:=(aQ (w.heap.size+1) 0)) (zo _ _ j)).trans l
theorem cE.lts{c:Nat}{d:zt}{f:List Nd}(b:cE w B c vn ve vl d vm f F S){a:Nat}(g:w.heap.size<=a):V a≠V c/\U vn≠V a/\U ve≠V a/\U vl≠V a/\U d≠V a:=by
 refine⟨λe=>?_,λe=>?_,λe=>?_,λe=>?_,λe=>?_⟩
 .have:=(bA b.box);simp at e;omega
 .have:=(bS b.rn a e).2;omega
 .have:=(bS b.re a e).2;omega
 .have:=(bS b.rl a e).2;omega
 have:=(bS b.rs a e).2;omega
theorem cE.boxed{a:Nat}{b:zt}{L:List Nd}{c:List Nat}{d:List Int}(j:cE w3 B a vn ve vl b vm L F S)(k:cE w B a vn ve vl b vm L c d){g:Nat}(l:w.heap.size<=g)(f:Nat)(i:zt):cE (zr w3 (aQ g f) i) B a vn ve vl b vm L F S:=by grind[cE.grown,cE.lts,cD]
theorem aBv{a:Option Nat}(b:aB w w2)(c:zu w2 w3 a):zu w w3 a:=(jL b).trans c
theorem pW{i:Option Nat}(a:zu w w3 i){g:Nat}(l:w.heap.size<=g)(d:Nat)(j:zt):zu w (zr w3 (aQ g d) j) i:=by
 have b:=cD w3 (aQ g d) j;exact⟨b.os.trans a.os,b.tape.trans a.tape,b.output.trans a.output,zj a.size b.size,λf c k=>by
  rw[b.block f (za c a.size) (λe=>by simp at e;omega),a.block f c k]⟩
structure JW(w:zw)(B tb:Nat)(gn cn gl cl:Nat)(ve vs vm:zt)(L:List Nd)(F:List Nat)(S:List Int)(ra rb:Nat)(na nb:Nd)(wx:zw):Prop where
 tm:cE wx B tb (sQ gn (Z L) cn) ve (sQ gl (Z L) cl) vs vm L F S
 far:zu w wx (V gl)
 x3:zn wx (aQ w.heap.size 0)=V (pQ tb)
 x6:zn wx (aQ (w.heap.size+1) 0)=V (.bool Y)
 f6:zs wx (aQ (w.heap.size+1) 0)=Y
 c0:zn wx (aQ tb 0)=V (sQ gn (Z L) cn)
 y0:zn wx (aQ gn (ra*2))=V (.string na.1)
 y1:zn wx (aQ gn (ra*2+1))=V (iQ na.2)
 z0:zn wx (aQ gn (rb*2))=V (.string nb.1)
 z1:zn wx (aQ gn (rb*2+1))=V (iQ nb.2)
theorem JW.mk'{f l i d g:Nat}{q:zt}{a:List Nd}{m o:Nd}{b:zw}(c:cE b B f (sQ l (Z a) i) ve (sQ d (Z a) g) q vm a F S)(s:zu w b (V d))(t:a[ra]?=V m)(u:a[rb]?=V o)
  (v:cQ b w.heap.size 0 (pQ f)) (x:cQ b (w.heap.size+1) 0 (.bool Y)) (r:zs b (aQ (w.heap.size+1) 0)=Y):JW w B f l i d g ve q vm a F S ra rb m o b:=by
 obtain⟨H,E,j,y,z⟩:=c.node t;obtain⟨I,G,k,A,D⟩:=c.node u;simp at j k;obtain⟨rfl,rfl⟩:=j;obtain⟨rfl,rfl⟩:=k;exact⟨c,s,v,x,r,c.c0,y,z,A,D⟩
theorem JW.below{tb g d f c:Nat}{l:zt}{b:List Nd}{i j:Nd}{wx m:zw}(a:JW w B tb g d f c ve l vm b F S ra rb i j wx)(k:aB wx m):JW w B tb g d f c ve l vm b F S ra rb i j m:=
 ⟨a.tm.below k,a.far.trans (jL k),aC k a.x3,aC k a.x6,(k.frozen (p:=(aQ (w.heap.size+1) 0)) (zo _ _ a.x6)).trans a.f6,aC k a.c0,aC k a.y0,aC k a.y1,aC k a.z0,aC k a.z1⟩
theorem bE8(B c:Nat)(vn ve vl c6 vm:zt)(a:List Nd)(S:List Int)(g9:dV a):∀(f9:Nat) (F:List Nat) (rt T:Nat->Nat) (z E:Nat) (w:zw),pS F<=f9->cE w B c vn ve vl c6 vm a F S->jP F rt T->nD a rt->z<Z a->E<Z a->
  Calls ze 94 #[pQ c,iQ z,iQ E] w λe s6=>∃b4 a7 b5 P,e=.returned (.bool b4)/\bFg w B c vn ve vl c6 vm a F S rt z E b4 s6 a7 b5 P:=by
 intro f9;induction f9 with
 |zero=>
  intro F rt T z E w c5 a9 d3 _ l1 _;have:=bE7 d3 (p:=z) (by rw[a9.lf];exact l1);omega
 |succ f9 ih=>
  intro F rt T z E w c5 a9 d3 l0 l1 u4;have h2:aB w ((w.alloc (.cells #[pQ c] 113)).alloc (.cells #[.bool Y] 4)):=(aI _ _).alloc (by simp) _;have j6:=O (λP (p:Nat) (d9:p<Z a)=>aI8 B c vn ve vl c6 vm a F S rt T p (((w.alloc (.cells #[pQ c] 113)).alloc (.cells #[.bool Y] 4)).drewN P) ((a9.below h2).drewN P) d3 d9);have i:=O a9;have r:=O d3;have c9:=O l0;have o1:=O c5;have k0:=O h2;have o4:=O ih;clear a9 d3 l0 c5 h2 ih;refine(callsIn_wide (n:=3)).1 ?_;refine callsIn_of_wp_marks Tryz.func94 rfl trivial ?_;simp only[Tryz.ntmps94,yn,zb,yy,ye,yd,yw,yv,ym,yt,yi,yk];refine wpIn_wide.2 ?_;go_wp2;go_quiet ((go_at_call 128;exact Calls.quiet_of_same (aD j6 _ _ (by assumption))));have l2:aB w (((w.alloc (.cells #[pQ c] 113)).alloc (.cells #[.bool Y] 4)).drewN nq):=bE k0.o (aN ⟨nq,rfl⟩);have n4:zn (((w.alloc (.cells #[pQ c] 113)).alloc (.cells #[.bool Y] 4)).drewN nq) (aQ w.heap.size 0)=V (pQ c):=by simp
  have j5:zn (((w.alloc (.cells #[pQ c] 113)).alloc (.cells #[.bool Y] 4)).drewN nq) (aQ (w.heap.size+1) 0)=V (.bool Y):=by simp
  have k9:zs (((w.alloc (.cells #[pQ c] 113)).alloc (.cells #[.bool Y] 4)).drewN nq) (aQ (w.heap.size+1) 0)=false:=by simp
  generalize ((w.alloc (.cells #[pQ c] 113)).alloc (.cells #[.bool Y] 4)).drewN nq=w1 at *;have H:=O l2;clear j6 k0 l2;obtain⟨ra,i3⟩:∃ra,ra=rt z:=⟨_,rfl⟩;obtain⟨rb,i4⟩:∃rb,rb=rt E:=⟨_,rfl⟩;rw[<-i3,<-i4];have x:=O i3;have y:=O i4;clear i3 i4;by_cases d4:ra=rb
  .have p5:((ra:Int)==(rb:Int))=true:=by rw[d4];simp
   have n6:=O d4;clear d4;go_wp2;have Q:=zp w1 (aQ (w.heap.size+1) 0) (.bool zq) (by rw[j5];rfl);refine yM (v:=.bool zq) rfl (by simp[results,z8,go_sem,Q]) ?_;have l3:aB w (zr w1 (aQ (w.heap.size+1) 0) (.bool zq)):=H.o.setCell (by simp) _;exact⟨zq,F,rt,T,rfl,⟨i.o.below l3,r.o,c9.o,zi _,jL l3,λ_ _ e=>e,oI.same (by rw[<-x.o,<-y.o,n6.o])⟩⟩
  have p5:((ra:Int)==(rb:Int))=false:=by rw[beq_eq_false_iff_ne];omega
  have h7:=i.o.lf;have l7:ra<Z a:=by rw[x.o,<-h7];exact r.o.rt_lt (by omega)
  have l9:rb<Z a:=by rw[y.o,<-h7];exact r.o.rt_lt (by omega)
  have l6:F[ra]?=V ra:=by rw[x.o];exact r.o.rootAt (by omega)
  have l8:F[rb]?=V rb:=by rw[y.o];exact r.o.rootAt (by omega)
  obtain⟨r4,h8⟩:∃n,a[ra]?=V n:=⟨a[ra],zg l7⟩;obtain⟨r5,h9⟩:∃n,a[rb]?=V n:=⟨a[rb],zg l9⟩;have f1:=i.o.below H.o;obtain⟨g7,g6,rfl,s8,s9⟩:=f1.node h8;obtain⟨t5,t3,k8,t0,t1⟩:=f1.node h9;simp at k8;obtain⟨rfl,rfl⟩:=k8;have t2:=f1.c0;obtain⟨D,L⟩:=r4;obtain⟨J,a0⟩:=r5;simp only at s8 s9 t0 t1;have u8:(ra:Int)<(Z a:Int):=by omega
  have u9:(rb:Int)<(Z a:Int):=by omega
  have p6:=i.o.few;have g3:=O l6;have g4:=O l8;have u:=O h8;have I:=O h9;have e7:=O d4;have e5:=O (λs4 l j4=>sJ s4 l j4);have m0:=H.o.size;clear h7 l6 l8 h8 h9 f1 d4;by_cases f6:D.toList.isEmpty=zq
  .have a3:=O (show aK (D,L)=zq from f6);obtain⟨q,e9,rfl,⟨s5,e2⟩,d5⟩:=(i.o.below H.o).leader l7;have d2:=(i.o.below H.o).c2;have M:=O (aD e5 D L);rw[f6]at M;have f3:q<w.heap.size:=(bS i.o.rl q rfl).2;have b6:=O (λ(w2:zw) (d:aB w1 w2)=>aQd (v:=iQ (rb:Int)) (u:=.bool Y) d n4 j5 k9 e2 d5 d2 f3);have n7:=O (λ(w2:zw) (d:aB w1 w2)=>((i.o.below H.o).below d).lead ra rb);clear d5 e2 d2;go_wp2_with(first
    |(go_at_call 89;refine(aD M _).mono ?_;rintro e w2 ⟨rfl,d⟩;obtain⟨i8,j1,⟨j0,h6⟩,i9,v2,r0,v3⟩:=b6.o w2 d;have k1:=O d;clear d)
    |go_in)
   have Q:=zp (zr w2 (aQ q ra) (iQ (rb:Int))) (aQ (w.heap.size+1) 0) (.bool zq) (by rw[r0];rfl);refine yM (v:=.bool zq) rfl (by simp[results,z8,go_sem,Q]) ?_;obtain⟨q3,p7⟩:=n7.o w2 k1.o;have e1:=q3.boxed i.o (g:=w.heap.size+1) (by omega) 0 (.bool zq);have d6:=pW (aBv (H.o.trans (k1.o.mono m0)) p7) (g:=w.heap.size+1) (by omega) 0 (.bool zq);refine⟨zq,F.set ra rb,jQ rt ra rb,dJ rt T ra rb,rfl,⟨e1,r.o.join g3.o g4.o e7.o,c9.o.join (λl5=>?_),z6 (aQ0 g3.o e7.o),d6,aBy rt ra rb,oI.var (bFh x.o y.o) (z9 (c9.o.var ?_))⟩⟩
   .rw[iF u.o,a3.o]at l5;cases l5
   rw[<-x.o,iF u.o,a3.o];simp
  have a3:=O (show aK (D,L)=Y by simpa[aK]using f6);have q5:D.toList.isEmpty=false:=by simpa using f6
  obtain⟨q,e9,rfl,⟨s5,e2⟩,d5⟩:=(i.o.below H.o).leader l9;have d2:=(i.o.below H.o).c2;have M:=O (aD e5 D L);rw[q5]at M;have f3:q<w.heap.size:=(bS i.o.rl q rfl).2;have b6:=O (λ(w2:zw) (d:aB w1 w2)=>aQd (v:=iQ (ra:Int)) (u:=.bool Y) d n4 j5 k9 e2 d5 d2 f3);have g1:=O (λ(w2:zw) (d:aB w1 w2)=>(show JW w B c g7 g6 q e9 ve c6 vm a (F.set rb ra) S ra rb (D,L) (J,a0) (zr w2 (aQ q rb) (iQ (ra:Int))) from by
   obtain⟨_,_,_,_,q8,q9,r1⟩:=b6.o w2 d;obtain⟨q2,h4⟩:=((i.o.below H.o).below d).lead rb ra;exact JW.mk' q2 (aBv (H.o.trans (d.mono m0)) h4) u.o I.o q8 q9 r1))
  have g0:=O (r.o.join g4.o g3.o (λe=>e7.o e.symm));have d1:=O (aQ0 g4.o (λe=>e7.o e.symm));have g2:=O (c9.o.join (u:=rb) (v:=ra) (λ_=>by rw[iF u.o];exact a3.o));clear d5 e2 d2;by_cases f7:J.toList.isEmpty=zq
  .have b7:=O (show aK (J,a0)=zq from f7);have R:=O (aD e5 J a0);rw[f7]at R;go_wp2_with(first
    |(go_at_call 89;refine(aD M _).mono ?_;clear M;rintro e w2 ⟨rfl,d⟩;obtain⟨i8,j1,⟨j0,h6⟩,i9,_⟩:=b6.o w2 d;have f:=g1.o w2 d;have m1:=f.x3;have m2:=f.c0;have m3:=f.z0;have m4:=f.z1;have c8:=O f;clear f d)
    |(go_at_call 89;refine(aD R _).mono ?_;clear R;rintro e w3 ⟨rfl,a6⟩;have b:=c8.o.below a6;have e3:=b.x6;have j2:=b.f6;have a8:=O b;clear b a6)
    |go_in)
   have Q:=zp w3 (aQ (w.heap.size+1) 0) (.bool zq) (by rw[e3];rfl);refine yM (v:=.bool zq) rfl (by simp[results,z8,go_sem,Q]) ?_;have e1:=a8.o.tm.boxed i.o (g:=w.heap.size+1) (by omega) 0 (.bool zq);have d6:=pW a8.o.far (g:=w.heap.size+1) (by omega) 0 (.bool zq);refine⟨zq,F.set rb ra,jQ rt rb ra,dJ rt T rb ra,rfl,⟨e1,g0.o,g2.o,z6 d1.o,d6,aBy rt rb ra,oI.var (aIo y.o x.o) (zd (c9.o.var ?_))⟩⟩;rw[<-y.o,iF I.o,b7.o];simp
  have b7:=O (show aK (J,a0)=Y by simpa[aK]using f7);have q6:J.toList.isEmpty=false:=by simpa using f7
  have R:=O (aD e5 J a0);rw[q6]at R;have q1:=rZ D J L a0;have q0:=tJ;have f4:=rY (D,L) (J,a0);simp only at f4;by_cases c4:(D,L)=(J,a0)
  .rw[fL c4]at f4;have e6:=O c4;clear c4;go_wp2_with(first
    |(go_at_call 89;refine(aD M _).mono ?_;clear M;rintro e w2 ⟨rfl,d⟩;obtain⟨i8,j1,⟨j0,h6⟩,i9,_⟩:=b6.o w2 d;have f:=g1.o w2 d;have m1:=f.x3;have m2:=f.c0;have m3:=f.z0;have m4:=f.z1;have c8:=O f;clear f d)
    |(go_at_call 89;refine(aD R _).mono ?_;clear R;rintro e w3 ⟨rfl,a6⟩;have b:=c8.o.below a6;have e3:=b.x6;have j2:=b.f6;have m5:=b.x3;have m6:=b.c0;have m7:=b.y0;have m8:=b.y1;have m9:=b.z0;have n0:=b.z1;have a8:=O b;clear b a6)
    |go_in)
   go_quiet (fail);have b0:=a8.o.below (aN (w1:=w3.drewN nq) ⟨_,rfl⟩);generalize w3.drewN nq=w4 at *;have n1:=b0.x3;have r2:=zo _ _ b0.x6;simp only at r2;have r3:=λo7=>aC (aI w4 o7) n1
   have n9:=O b0;have j8:=O (λj4=>aIp c ra j4);clear b0 e3 j2 m5 m6 m7 m8 m9 n0 a8 q1 q0 f4;go_wp2_with(first
    |(go_at_call 129;refine(aD j8 _).mono ?_;rintro e v8 ⟨rfl,rfl⟩)
    |go_in)
   clear r3 j8 n1;obtain⟨C,c0⟩:∃C,(aF a).ch ra=C:=⟨_,rfl⟩;obtain⟨t,g5,rfl,_⟩:=i.o.ends (by omega);obtain⟨c7,Q,p3,r6,r9,s0,r8,v5⟩:=aIc w4 (iQ ((rb:Int)+1)) (pQ c) (iQ ra) 3 113 3;rw[<-Q];clear Q;have a5:=n9.o.below p3;have p0:oH c7 (w4.heap.size+1+1) (w4.heap.size+1) c t a ra:=oH.of a5.tm (by omega) r8 s0;have v0:=(bA a5.tm.box);have u5:=(bS a5.tm.re t rfl).2;have l4:∀k∈[w4.heap.size+1+1,w4.heap.size+1,c,t],k<c7.heap.size:=by intro k m;simp at m;rcases m with rfl|rfl|rfl|rfl<;>omega
   refine(wpIn_wide (n:=3)).1 ?_;refine wpIn_rangeFunc_ownG rfl (by omega) (gf:=152) (lb:=#[pQ (w4.heap.size+1+1),pQ (w4.heap.size+1)]) rfl trivial (enters_of yb (by kernel_rfl) rfl)
    (encs:=λl:rF C=>#[iQ (l.1:Nat)]) (Kp:=lG [w4.heap.size+1+1,w4.heap.size+1,c,t]) (S:=λxs=>xs.map (λl=>l.1)=C) (Sp:=λo=>o.map (λl=>l.1) <+: C) (N:=Z C) (w0:=c7)
    (λf8 o5 o6 W p1 f t7 p2 h0=>by
     have:=aIa 2 f8 (w4.heap.size+1+1) (w4.heap.size+1) c t a ra (D,L) C c0 (by omega) g9 p6 u.o o5 o6 _ f p2 W (p0.kept (aId p1 l4)) h0;simpa using this)
    (λa9 k=>a9.trans k) (lG.put l4) (dP) (λ_=>rfl)
    (λo W=>aBt w B c q e9 (sQ g7 (Z a) g6) (sQ t (Z a) g5) c6 vm a (F.set rb ra) S rt (jQ rt rb ra) z E ra rb w4.heap.size c7.heap.size C (o.map λl=>l.1) W)
    (λe8 o W=>aEm w B c q e9 (sQ g7 (Z a) g6) (sQ t (Z a) g5) c6 vm a (F.set rb ra) S rt (jQ rt rb ra) z E C e8 (o.map λl=>l.1) W)
    (aBt.own (by omega)) (λe8=>aEm.own (by omega) e8) ?h0 ?a1 ?assign ?body ?done ?stop
   case h0=>
    have c5:=aIo (a:=z) (b:=E) y.o x.o;refine⟨zi _,⟨F.set rb ra,jQ rt rb ra,dJ rt T rb ra,a5.tm,g0.o,g2.o,zi _,λ_ _ e=>e,λ_ a1 a4 A=>⟨c5.sound A.sound (λ_ _=>Cl.symm) (λ_ _ _=>Cl.trans) A.ab,?_⟩⟩,a5.far,a5.x3,a5.x6,a5.f6,?_,r9⟩
    .refine A.mod.name (vN rt) c5 (sZ a) ?_ ?_ ?_ ?_ ?_
     .show rt z=rt ra;rw[x.o,r.o.rt_rt]
     .show rt E=rt rb;rw[y.o,r.o.rt_rt]
     .rw[iF u.o];exact a3.o
     .rw[iF I.o];exact b7.o
     rw[pR u.o,pR I.o];exact e6.o
    rw[r6];simp[oY]
   case assign=>
    intro f8 l W K hK;gi_wp2
    exact hK
   case body=>
    rintro f8 o l W j u6;obtain⟨a7,b5,P,G,c1,c2,c3,b1,f5⟩:=j.st;have q7:l.1<Z a:=aIf g9 u.o l.1 (by rw[c0];exact l.2);have t6:Z C=bI (D,L):=by rw[<-c0];exact aQa u.o
    have v1:bI (J,a0)=bI (D,L):=by rw[e6.o]
    have e0:Z (o.map λl=>l.1)=Z o:=by simp
    have d8:=aQb g9 I.o (k:=Z o) (by omega);have j7:=o4.o a7 b5 P l.1 (oY a rb (Z o)) W (by have:=d1.o;have:=o1.o;omega) G c1 c2 q7 d8.1;have v9:=j.x3;have r7:=j.o0;rw[e0]at r7;have u3:=j.far.size;have q4:=(bA G.box);have p8:=(bS G.re t rfl).2;have u2:w4.heap.size+1+1<W.heap.size:=by have:=j.big;omega
    have h5:∀k∈[w4.heap.size+1+1,w4.heap.size+1,c,t],k<W.heap.size/\k≠q:=by
     intro k m;simp at m;have b8:c≠q:=λe=>eX G.rl G.box (by decide) (by simp[U,e])
     have b9:t≠q:=λe=>G.ab (by simp[U,e])
     rcases m with rfl|rfl|rfl|rfl
     .exact⟨by omega,by omega⟩
     .exact⟨by omega,by omega⟩
     .exact⟨q4,b8⟩
     exact⟨p8,b9⟩
    have o2:=O (λ(W':zw) (h4:zu W W' (V q))=>(show aEn w W c q t g5 w4.heap.size a (oY a rb (Z o)) [w4.heap.size+1+1,w4.heap.size+1,c,t] c7.heap.size W' from by have:=aEn.make j G h4 (by omega) f3 (by rw[e0];exact d8.1) h5 c7.heap.size;rw[e0]at this;exact this));have k4:=O e0;have o0:=O (λk m=>(h5 k m).1);have n8:=O j;have k6:=O f5;have k2:=O b1;have k5:=O c3;have o3:=O d8;have t8:oY a rb (Z o)<Z a:=d8.1;have n5:=O j7;generalize hoe:oY a rb (Z o)=oe at *;have k3:=O hoe;clear j f5 b1 c3 d8 j7 G c1 c2 h5 e0 hoe;gi_wp2_with (first
     |(refine⟨trivial,?_⟩;gi_at_call 94;refine(yh f8 (callsIn_wide.2 (aD n5))).mono ?_;rintro e W' ⟨b4,j9,n3,k7,rfl,i5⟩;have X:=o2.o W' i5.far;have s:=O i5;have s1:=X.x3;have j3:=X.x6;have s2:=X.f6;have n2:=X.o0;have s3:=X.of;have v6:=X.c1;have v7:=X.en;have d0:=O X;clear X i5)
     |fail)
    .have i0:b4=false:=by simpa using ‹(!b4)=zq›
     refine⟨d0.o.kf.trans (xI _ j3 _),⟨rfl,⟨j9,n3,k7,s.o.tm.boxed i.o (by omega) 0 _,s.o.forest,s.o.named,zj s.o.fewer k5.o,λb2 b3 e=>s.o.mono _ _ (k2.o b2 b3 e)⟩,λd9 a1 a4 A=>?_,pW d0.o.far (by omega) 0 _,zp _ _ _ (by rw[j3];rfl)⟩⟩;obtain⟨i1,i2⟩:=aQc d9;obtain⟨i7,d7⟩:=k6.o i1 a1 a4 A;rw[k4.o]at d7;refine(oI.part A (by rw[x.o,r.o.rt_rt]) (by rw[y.o,r.o.rt_rt]) (by rw[iF u.o];exact a3.o) (by rw[iF I.o];exact b7.o) i7 d7 (by rw[c0];exact i2) ?_ s.o.sem).2 i0;rw[aIe I.o (by omega),k3.o]
    have i0:b4=true:=by simpa using ‹(!b4)=Y›
    have u7:Tryz.prog.follows .mixedOrders=true:=by kernel_rfl
    have t9:(oe:Int)<(Z a:Int):=by omega
    have u1:(0:Int)<=(oe:Int):=yr _;have u0:((oe:Int)).toNat=oe:=ya _;gi_region_with_o (fail)
    all_goals
     gi_wp2
     have f2:Below (zr W' (aQ w4.heap.size 0) (iQ ((oe:Int)+(aM (a.drop oe) 1:Nat)))).heap.size (zr W' (aQ w4.heap.size 0) (iQ ((oe:Int)+(aM (a.drop oe) 1:Nat)))) (zr W' (aQ w4.heap.size 0) (iQ ((oe:Int)+(aM (a.drop oe) 1:Nat)))).drew:=aN ⟨1,rfl⟩;have p9:∀k∈[w4.heap.size+1+1,w4.heap.size+1,c,t],k≠w4.heap.size:=by have b8:=(bA i.o.box);have b9:=(bS i.o.re t rfl).2;intro k m;simp at m;rcases m with rfl|rfl|rfl|rfl<;>omega
     refine⟨d0.o.kf.trans ((xI _ n2 _).trans ⟨f2.size,λk v4 _ m _=>(f2.block k (bA m)).trans m⟩),d0.o.kp.trans (λk m=>(cD W' (aQ w4.heap.size 0) _).block k ?_ (by simpa using p9 k m)),⟨?_,⟨j9,n3,k7,(s.o.tm.boxed i.o (g:=w4.heap.size) (by omega) 0 _).below f2,s.o.forest,s.o.named,zj s.o.fewer k5.o,λb2 b3 e=>s.o.mono _ _ (k2.o b2 b3 e),λd9 a1 a4 A=>?_⟩,(pW d0.o.far (by omega) 0 _).trans (jL f2),jF s1 (by omega),jF j3 (by omega),?_,?_,?_⟩⟩
     .exact za (o0.o k m) s.o.far.size
     .have b8:=n8.o.big;have b9:=s.o.far.size;have o8:=(cD W' (aQ w4.heap.size 0) (iQ ((oe:Int)+(aM (a.drop oe) 1:Nat)))).size;exact zj b8 (zj b9 o8)
     .obtain⟨i1,i2⟩:=aQc d9;obtain⟨i7,d7⟩:=k6.o i1 a1 a4 A;rw[k4.o]at d7;have:=(oI.part A (by rw[x.o,r.o.rt_rt]) (by rw[y.o,r.o.rt_rt]) (by rw[iF u.o];exact a3.o) (by rw[iF I.o];exact b7.o) i7 d7 (by rw[c0];exact i2) (by rw[aIe I.o (by omega),k3.o]) s.o.sem).1 i0;simpa using this
     .show (W'.setCell _ _).frozen? _=Y;rw[zk];exact s2
     .show (W'.setCell _ _).cell? _=_;rw[zp W' (aQ w4.heap.size 0) _ (by rw[n2];rfl)];have:=o3.o.2;simp only[List.length_map,z7,zb,yy];rw[show Z o+(0+1)=Z o+1 by omega,this];simp
     show (W'.setCell _ _).frozen? _=Y;rw[zk];exact s3
   case done=>
    rintro a2 w5 W o9 f0 j hK;obtain⟨a7,b5,P,G,c1,c2,c3,b1,f5⟩:=j.st;have s7:=j.x6;have t4:=j.f6;go_wp2;have g8:=(KeepsOthers.setCell W (aQ (w.heap.size+1) 0) (.bool zq)).same a2 _ hK rfl;refine⟨by simp,.inl ⟨_,_,rfl,run_takeDeferred g8,?_⟩⟩;have h3:=cell_kept (zp W (aQ (w.heap.size+1) 0) (.bool zq) (by rw[s7];rfl)) (grownBy_putObj' _ a2 (.deferred zl)) (λe4 e=>by cases e;exact⟨_,g8,rfl⟩);refine⟨.bool zq,?_,?_⟩
    .simp[results,z8,go_sem,h3]
    refine⟨zq,a7,b5,P,rfl,⟨(G.boxed i.o (g:=w.heap.size+1) (by omega) 0 (.bool zq)).others (grownBy_putObj' _ a2 (.deferred zl)) (λe4 e=>by cases e;exact⟨_,g8,rfl⟩),c1,c2,zj c3 (z6 d1.o),rH (pW j.far (g:=w.heap.size+1) (by omega) 0 (.bool zq)) (grownBy_putObj' _ a2 (.deferred zl)) (λe4 e=>by cases e;omega),λb2 b3 e=>b1 _ _ (aBy rt rb ra b2 b3 e),λa1 a4 i6 h1 A=>⟨λ_=>?_,λe=>by cases e⟩⟩⟩;obtain⟨b8,b9⟩:=f5 (by rw[f0];exact List.prefix_refl _) a1 a4 ⟨i6,h1,A⟩;exact⟨b1 z E ((aIo (a:=z) (b:=E) y.o x.o).ab (vN rt)),b8,b9.allParts (by rw[c0];have:=congrArg Z f0;omega)⟩
   case stop=>
    rintro a2 e8 o W o9 f0 j hK;have p4:=j.ret;subst p4;refine wpIn_wide.2 ?_;go_wp2;refine⟨by simp,.inl ⟨_,_,rfl,run_takeDeferred hK,?_⟩⟩;have h3:=cell_kept j.x6 (grownBy_putObj' _ a2 (.deferred zl)) (λe4 e=>by cases e;exact⟨_,hK,rfl⟩);refine⟨.bool Y,?_,?_⟩
    .simp[results,z8,go_sem,h3]
    obtain⟨a7,b5,P,G,c1,c2,c3,b1⟩:=j.st;exact⟨Y,a7,b5,P,rfl,⟨G.others (grownBy_putObj' _ a2 (.deferred zl)) (λe4 e=>by cases e;exact⟨_,hK,rfl⟩),c1,c2,zj c3 (z6 d1.o),rH j.far (grownBy_putObj' _ a2 (.deferred zl)) (λe4 e=>by cases e;omega),λb2 b3 e=>b1 _ _ (aBy rt rb ra b2 b3 e),λa1 a4 i6 h1 A=>⟨λe=>(by cases e),λ_=>j.no f0 a1 a4 ⟨i6,h1,A⟩⟩⟩⟩
  rw[gG c4]at f4;have e6:=O c4;clear c4;go_wp2_with(first
   |(go_at_call 89;refine(aD M _).mono ?_;clear M;rintro e w2 ⟨rfl,d⟩;obtain⟨i8,j1,⟨j0,h6⟩,i9,_⟩:=b6.o w2 d;have f:=g1.o w2 d;have m1:=f.x3;have m2:=f.c0;have m3:=f.z0;have m4:=f.z1;have c8:=O f;clear f d)
   |(go_at_call 89;refine(aD R _).mono ?_;clear R;rintro e w3 ⟨rfl,a6⟩;have b:=c8.o.below a6;have e3:=b.x6;have j2:=b.f6;have m5:=b.x3;have m6:=b.c0;have m7:=b.y0;have m8:=b.y1;have m9:=b.z0;have n0:=b.z1;have a8:=O b;clear b a6)
   |go_in)
  go_quiet (fail);go_wp2;have Q:=zp (w3.drewN nq) (aQ (w.heap.size+1) 0) (.bool Y) (by simp[e3]);refine yM (v:=.bool Y) rfl (by simp[results,z8,go_sem,Q]) ?_;have b0:=a8.o.below (aN (w1:=w3.drewN nq) ⟨_,rfl⟩);have e1:=b0.tm.boxed i.o (g:=w.heap.size+1) (by omega) 0 (.bool Y);have d6:=pW b0.far (g:=w.heap.size+1) (by omega) 0 (.bool Y);refine⟨Y,F.set rb ra,jQ rt rb ra,dJ rt T rb ra,rfl,⟨e1,g0.o,g2.o,z6 d1.o,d6,aBy rt rb ra,oI.clash r.o.rt_rt ?_ ?_ ?_⟩⟩
  .rw[<-x.o,iF u.o];exact a3.o
  .rw[<-y.o,iF I.o];exact b7.o
  rw[<-x.o,<-y.o,pR u.o,pR I.o];exact e6.o
end
inductive iH(G:Gr)(E:Nat->Nat->Prop):Nat->Nat->Prop
 |step {x j p y:Nat}:E x j->G.named j->p∈G.ch j->E p y->iH G E x y
 |trans {x y z:Nat}:iH G E x y->iH G E y z->iH G E x z
section
variable {G:Gr}{E:Nat->Nat->Prop}
theorem iH.left(k:gL G E){g f i:Nat}(j:iH G E g i)(e:E f g):iH G E f i:=by
 induction j generalizing f with
 |step a b c d=>exact iH.step (k.trans _ _ _ e a) b c d
 |trans _ h2 ih _=>exact iH.trans (ih e) h2
theorem iH.right(k:gL G E){g i f:Nat}(j:iH G E g i)(e:E i f):iH G E g f:=by
 induction j generalizing f with
 |step a b c d=>exact iH.step a b c (k.trans _ _ _ d e)
 |trans h1 _ _ ih=>exact iH.trans h1 (ih e)
theorem iH.first(g:gL G E){x y:Nat}(f:iH G E x y):∃j p,E x j/\G.named j/\p∈G.ch j/\(E p y\/iH G E p y):=by
 induction f with
 |step a b c d=>exact⟨_,_,a,b,c,z9 d⟩
 |@trans x y z h1 h2 ih _=>
  obtain⟨j,p,a,b,c,d⟩:=ih;refine⟨j,p,a,b,c,zd ?_⟩;rcases d with d|d
  .exact h2.left g d
  exact iH.trans d h2
theorem bZ.irrefl(a:gL G E){b:Nat}(j:bZ G E b):¬iH G E b b:=by
 induction j with
 |mk b _ ih=>
  intro i;obtain⟨k,p,c,f,g,d⟩:=i.first a
  refine ih k c f p g ?_;rcases d with d|d
  .exact(i.left a d).right a (a.symm _ _ d)
  exact iH.trans d (iH.step c f g (a.refl p))
theorem aQe(g:fP G E λ_ _=>False)(a:yL E):gL G E/\fU G E:=
 ⟨⟨a.refl,a.symm,a.trans,λb c k p l hij d f i j=>((g b c hij d f).2 k p l i j).le a.refl a.symm a.trans λb c hij=>by
  rcases hij with hij|hij
  .exact hij
  exact hij.elim⟩,λb c hij d f=>(g b c hij d f).1⟩
theorem bE9(a:gL G E)(j:fU G E)(i:G.Arity){d c:Nat}(t:E d c)(s:∀p∈G.ch c,bZ G E p)(m:∀b,E d b->G.named b->G.named c):bZ G E d:=by refine⟨_,λb f g p o=>?_⟩;have l:=m b f g;have k:=aA8 a j i (a.trans _ _ _ (a.symm _ _ t) f) l g;obtain⟨u,q,r⟩:=k.mem_right o;exact(s u q).same a r
theorem bEa{b:Nat->Nat}{xs:List Nat}{a:List (List Nd)}(c:aU (λf d=>aX G E b [f] d) xs a):aX G E b xs a.flatten:=by
 induction c with
 |nil=>exact aX.nil
 |cons h1 _ ih=>exact h1.append ih
end
def tZ(L:List Nd)(rt:Nat->Nat)(S:List Int):Prop:=∀(p:Nat) (n:Int),S[p]?=V n->n=0\/n=-1\/(bZ (aF L) (λi j=>rt i=rt j) p/\∃l,aX (aF L) (λi j=>rt i=rt j) rt [p] l/\n=(min 501 (Z l):Nat))
def nV(S:List Int):Nat:=S.countP λa=>a==0
theorem bEb(S:List Int):∀(p:Nat) (v:Int),S[p]?=V 0->v≠0->nV (S.set p v)<nV S:=by grind[nV]
theorem bEc(S:List Int):∀(p:Nat) (a:Int),a≠0->nV (S.set p a)<=nV S:=by
 induction S with
 |nil=>intro p a _;simp[nV]
 |cons x r ih=>
  intro p a b;unfold nV at ih ⊢;cases p with
  |zero=>
   grind
  |succ p=>
   grind
theorem cE.sized{g:Nat}{f:List Nd}{b i:Nat}(a:cE w B g vn ve vl (sQ b (Z f) i) vm f F S)(p:Nat)(d:Int):cE (zr w (aQ b p) (iQ d)) B g vn ve vl (sQ b (Z f) i) vm f F (S.set p d)/\zu w (zr w (aQ b p) (iQ d)) (V b):=by
 have c:=cD w (aQ b p) (iQ d);refine⟨⟨?_,a.high,eW a.rn c (dC a.rn a.rs (by decide)),eW a.re c (zd a.ac),eW a.rl c (zd a.bc),?_,a.lf,by rw[List.length_set];exact a.ls,a.few,a.short,a.ab,a.ac,a.bc⟩,c⟩
 .rw[c.block g (bA a.box) (λe=>eX a.rs a.box (by decide) e.symm),a.box]
 have j:=(a.rs.stored p (iQ d)).1;rw[<-List.map_set]at j;exact j
theorem cE.size{tb:Nat}{i:zt}{L:List Nd}(b:cE w B tb vn ve vl i vm L F S){p:Nat}(m:p<Z L):∃d cs n,i=sQ d (Z L) cs/\S[p]?=V n/\cQ w d p (iQ n)/\zs w (aQ d p)=false:=by
 obtain⟨a,c,e,k⟩:=bDu b.rs b.ls;have l:=b.ls;have f:p<Z S:=by omega
 obtain⟨g,rfl,j⟩:=k p f;subst e;exact⟨g,c,S[p],rfl,zg f,j,b.rs.frozenAt p⟩
theorem aQf(w:zw)(a b f:zt)(c d g:TypeId):∃W,W=((w.alloc (.cells #[a] c)).alloc (.cells #[b] d)).alloc (.cells #[f] g)/\aB w W/\cQ W w.heap.size 0 a/\cQ W (w.heap.size+1) 0 b/\cQ W (w.heap.size+1+1) 0 f/\zs W (aQ (w.heap.size+1) 0)=Y/\zs W (aQ (w.heap.size+1+1) 0)=Y/\W.heap.size=w.heap.size+3:=by
 obtain⟨W,i,j,k,_,l,m,o⟩:=aIc w a b f c d g;refine⟨W,i,j,k,l,m,?_,?_,o⟩
 .subst i;have q:Below ((w.alloc (.cells #[a] c)).alloc (.cells #[b] d)).heap.size ((w.alloc (.cells #[a] c)).alloc (.cells #[b] d)) (((w.alloc (.cells #[a] c)).alloc (.cells #[b] d)).alloc (.cells #[f] g)):=aI _ _;rw[q.frozen (p:=(aQ (w.heap.size+1) 0)) (by simp)];simp_all
 subst i;have:=(aBs ((w.alloc (.cells #[a] c)).alloc (.cells #[b] d)) f g).2;simp_all
structure bEd(w:zw)(B tb:Nat)(vn ve vl vs vm:zt)(L:List Nd)(F:List Nat)(S:List Int)(rt:Nat->Nat)(a:Nat)(n:Int)(b:Bool)(w':zw)(S':List Int):Prop where
 tm:cE w' B tb vn ve vl vs vm L F S'
 far:zu w w' (U vs)
 few:nV S'<=nV S
 yes:b=zq->tZ L rt S'/\(∀p:Nat,S'[p]?=V (-1)↔S[p]?=V (-1))/\bZ (aF L) (λi j=>rt i=rt j) a/\∃l,aX (aF L) (λi j=>rt i=rt j) rt [a] l/\n=(min 501 (Z l):Nat)
 no:b=Y->n=0/\¬bZ (aF L) (λi j=>rt i=rt j) a
structure aBw(w:zw)(B tb gs cs:Nat)(vn ve vl vm:zt)(L:List Nd)(F:List Nat)(S0:List Int)(rt:Nat->Nat)(cb N0:Nat)(pre:List Nat)(W:zw):Prop where
 big:N0<=W.heap.size
 st:∃S',cE W B tb vn ve vl (sQ gs (Z L) cs) vm L F S'/\nV S'<=nV S0/\tZ L rt S'/\(∀p:Nat,S'[p]?=V (-1)↔S0[p]?=V (-1))
 pts:∃ls,aU (λx l=>aX (aF L) (λi j=>rt i=rt j) rt [x] l) pre ls/\(∀x∈pre,bZ (aF L) (λi j=>rt i=rt j) x)/\zn W (aQ cb 0)=V (iQ ((min 501 (1+(ls.map Z).sum):Nat):Int))
 far:zu w W (V gs)
 x0:zn W (aQ w.heap.size 0)=V (pQ tb)
 x1:zn W (aQ (w.heap.size+1) 0)=V (iQ 0)
 x2:zn W (aQ (w.heap.size+1+1) 0)=V (.bool Y)
 f1:zs W (aQ (w.heap.size+1) 0)=Y
 f2:zs W (aQ (w.heap.size+1+1) 0)=Y
 cf:zs W (aQ cb 0)=Y
structure aEo(w:zw)(B tb gs cs:Nat)(vn ve vl vm:zt)(L:List Nd)(F:List Nat)(S0:List Int)(rt:Nat->Nat)(c:Code)(pre:List Nat)(W:zw):Prop where
 ret:c=.ret
 st:∃S',cE W B tb vn ve vl (sQ gs (Z L) cs) vm L F S'/\nV S'<=nV S0
 no:∃x∈pre,¬bZ (aF L) (λi j=>rt i=rt j) x
 far:zu w W (V gs)
 x1:zn W (aQ (w.heap.size+1) 0)=V (iQ 0)
 x2:zn W (aQ (w.heap.size+1+1) 0)=V (.bool Y)
section
variable {w:zw}{B tb gs cs:Nat}{vn ve vl vm:zt}{L:List Nd}{F:List Nat}{S0:List Int}{rt:Nat->Nat}{cb N0 N:Nat}{C:List Nat}
theorem aBw.own(s:w.heap.size<=N):OwnFrom N (λ(pre:List (rF C)) W=>aBw w B tb gs cs vn ve vl vm L F S0 rt cb N0 (pre.map λx=>x.1) W):=by
 intro pre W W' r a b g;have c:∀d,r=V d->∃i:Obj,W.heap[d]?=V i/\i.isCells=false:=λd e=>(g d e).2
 obtain⟨j,k,l⟩:=a.st;obtain⟨q,m,o,f⟩:=a.pts;exact⟨zj a.big b.size,⟨j,k.others b c,l⟩,⟨q,m,o,cell_kept f b c⟩,rH a.far b (λd e=>by have:=(g d e).1;omega),cell_kept a.x0 b c,cell_kept a.x1 b c,cell_kept a.x2 b c,(frozen_kept a.x1 b c).trans a.f1,(frozen_kept a.x2 b c).trans a.f2,(frozen_kept f b c).trans a.cf⟩
theorem aEo.own(o:w.heap.size<=N)(j:Code):OwnFrom N (λ(pre:List (rF C)) W=>aEo w B tb gs cs vn ve vl vm L F S0 rt j (pre.map λx=>x.1) W):=by
 intro pre W W' m a c f;have d:∀b,m=V b->∃g:Obj,W.heap[b]?=V g/\g.isCells=false:=λb e=>(f b e).2
 obtain⟨i,k,l⟩:=a.st;exact⟨a.ret,⟨i,k.others c d,l⟩,a.no,rH a.far c (λb e=>by have:=(f b e).1;omega),cell_kept a.x1 c d,cell_kept a.x2 c d⟩
end
abbrev cX(a:List Tg)(b c:Nat):Nat->Nat->Prop:=Cl (aF (a.map zm)) λi j=>cA a i=cA a j\/(i=b/\j=c)
section
variable {M:List Tg}{o:Int}{t:List Nd}{a b:Nat}
theorem tC(M:List Tg)(o:Int)(t:List Nd):(M++t.map λn=>(o,n)).map zm=M.map zm++t:=by
 rw[yu,List.map_map];congr 1
 exact List.map_id _
theorem aIh(c:p<Z M):cA M p<Z M:=by have:=(aIr M).rt_lt (p:=p) (by rw[rJ];exact c);rwa[rJ]at this
theorem aIi(M:List Tg)(p:Nat):cA M (cA M p)=cA M p:=(aIr M).rt_rt p
theorem bEe{c d:Nat}(f:cA M c=cA M d):cA (M++t.map λn=>(o,n)) c=cA (M++t.map λn=>(o,n)) d:=by grind[aIq,aIh,aAa]
theorem vO(c:(aF (M.map zm)).named p):p<Z M/\(aF (M.map zm++t)).named p/\(aF (M.map zm++t)).lab p=(aF (M.map zm)).lab p:=by grind[iF,pR,nC,zf,yp]
theorem xJ(d:p<Z M)(c:(aF (M.map zm++t)).named p):(aF (M.map zm)).named p:=by grind[iF,nC,zf]
theorem aIj(g:dV (M.map zm)){p d:Nat}(i:(aF (M.map zm)).named p)(f:d∈(aF (M.map zm)).ch p):d<Z M:=by obtain⟨n,c,_⟩:=nC i;have k:p<Z (M.map zm):=(eE c);rw[jE c]at f;have j:=(sY _ _ _ (g p _ c) d f).2;grind[aM,oC,yo,yp]
theorem aIk(f:dV (M.map zm)){c d:Nat}(i:cX M a b c d):cX (M++t.map λn=>(o,n)) a b c d:=by
 unfold cX;rw[tC];refine Cl.le (R:=Cl (aF (M.map zm++t)) λc d=>cA (M++t.map λn=>(o,n)) c=cA (M++t.map λn=>(o,n)) d\/(c=a/\d=b)) ⟨Cl.refl,λ_ _=>Cl.symm,λ_ _ _=>Cl.trans,?_⟩ ?_ i
 .intro c d v p x g j k l m;obtain⟨q,r,_⟩:=vO (t:=t) j;obtain⟨s,u,_⟩:=vO (t:=t) k;exact Cl.down g r u (by rw[pY f (by simpa using q)];exact l) (by rw[pY f (by simpa using s)];exact m)
 rintro c d (e|e)
 .exact Cl.base (z9 (bEe e))
 exact Cl.base (zd e)
theorem bEf(c:dV (M.map zm)){p:Nat}(d:bZ (aF (M.map zm++t)) (cX (M++t.map λn=>(o,n)) a b) p):bZ (aF (M.map zm)) (cX M a b) p:=by
 induction d with
 |mk i _ ih=>
  refine⟨_,λk f g q j=>?_⟩;obtain⟨l,m,_⟩:=vO (t:=t) g;exact ih k (aIk c f) m q (by rw[pY c (by simpa using l)];exact j)
theorem bEg(f:dV (M.map zm))(d:fU (aF (M.map zm++t)) (cX (M++t.map λn=>(o,n)) a b)):fU (aF (M.map zm)) (cX M a b):=by intro j m c g i;obtain⟨_,k,l⟩:=vO (t:=t) g;obtain⟨_,q,r⟩:=vO (t:=t) i;rw[<-l,<-r];exact d j m (aIk f c) k q
end
structure iJ(M:List Tg)(a b:Nat)(F:List Nat)(rt d:Nat->Nat)(S:List Int):Prop where
 whole:dV (M.map zm)
 lf:Z F=Z M
 ls:Z S=Z M
 forest:jP F rt d
 named:nD (M.map zm) rt
 cl:fP (aF (M.map zm)) (λi j=>rt i=rt j) λ_ _=>False
 iff:∀i j,rt i=rt j↔cX M a b i j
 sz:tZ (M.map zm) rt S
 none:∀r:Nat,S[r]?≠V (-1)
 ha:a<Z M
 hb:b<Z M
def eR(M a:List Tg)(rt:Nat->Nat)(p:Nat):Nat:=if cA a p<Z M then rt (cA a p) else cA a p
def dX(M a:List Tg)(b:Nat->Nat)(p:Nat):Nat:=if p<Z M then b p else if cA a p=p then 0 else if cA a p<Z M then b (cA a p)+1 else 1
section
variable {M:List Tg}{o:Int}{t:List Nd}{a b:Nat}{F:List Nat}{rt d:Nat->Nat}{S:List Int}
theorem iJ.rt_lt(c:iJ M a b F rt d S){p:Nat}(f:p<Z M):rt p<Z M:=by have:=c.forest.rt_lt (p:=p) (by rw[c.lf];exact f);rwa[c.lf]at this
theorem iJ.old(f:iJ M a b F rt d S){p:Nat}(c:p<Z M):eR M (M++t.map λn=>(o,n)) rt p=rt p:=by unfold eR;rw[aIq c,aT (aIh c)];exact(f.iff _ _).2 (Cl.base (z9 (aIi M p)))
theorem iJ.new(_h:iJ M a b F rt d S){p:Nat}(f:Z M<=p)(c:(aF (M.map zm++t)).named p):eR M (M++t.map λn=>(o,n)) rt p=p:=by grind[nC,cA,xK,eR,tC,yj]
theorem iJ.up(c:iJ M a b F rt d S){g f:Nat}(e:rt g=rt f):eR M (M++t.map λn=>(o,n)) rt g=eR M (M++t.map λn=>(o,n)) rt f:=by
 by_cases l:g<Z M
 .by_cases j:f<Z M
  .rw[c.old l,c.old j,e]
  have k:=c.forest.out f (by rw[c.lf];omega);have i:=c.rt_lt l;omega
 have k:=c.forest.out g (by rw[c.lf];omega);by_cases j:f<Z M
 .have i:=c.rt_lt j;omega
 have i:=c.forest.out f (by rw[c.lf];omega);rw[k,i]at e;rw[e]
theorem iJ.in(f:iJ M a b F rt d S){c j:Nat}(g:c<Z M)(e:eR M (M++t.map λn=>(o,n)) rt c=eR M (M++t.map λn=>(o,n)) rt j)(i:(aF (M.map zm++t)).named j):j<Z M/\rt c=rt j:=by grind[iJ.new,iJ.old,iJ.rt_lt]
theorem iJ.ends(f:iJ M a b F rt d S){p:Nat}(s:bZ (aF (M.map zm)) (λc j=>rt c=rt j) p):p<Z M->bZ (aF (M.map zm++t)) (λc j=>eR M (M++t.map λn=>(o,n)) rt c=eR M (M++t.map λn=>(o,n)) rt j) p:=by
 induction s with
 |mk c _ ih=>
  intro m;refine⟨_,λj q i x g=>?_⟩;obtain⟨l,r⟩:=f.in m q i;have k:=xJ l i;rw[pY f.whole (by simpa using l)]at g;exact ih j r k x g (aIj f.whole k g)
theorem iJ.exp(c:iJ M a b F rt d S){l:List Nat}{g:List Nd}(v:aX (aF (M.map zm)) (λi j=>rt i=rt j) rt l g):(∀i∈l,i<Z M)->aX (aF (M.map zm++t)) (λi j=>eR M (M++t.map λn=>(o,n)) rt i=eR M (M++t.map λn=>(o,n)) rt j) (eR M (M++t.map λn=>(o,n)) rt) l g:=by
 induction v with
 |nil=>intro _;exact aX.nil
 |@var i r g h1 _ ih=>
  intro f;have m:=f i (by simp);rw[<-c.old (t:=t) (o:=o) m];refine aX.var (λj x y=>?_) (ih λk hq=>f k (by simp[hq]));grind[iJ.in,xJ,Gr.named,aF,eR]
 |@name i j r g h1 h2 _ ih=>
  intro f;obtain⟨q,s,u⟩:=vO (t:=t) h2;rw[<-u];refine aX.name (c.up h1) s ?_;rw[pY c.whole (by simpa using q)];refine ih λk hq=>?_
  rcases List.mem_append.1 hq with hq|hq
  .exact aIj c.whole h2 hq
  exact f k (by simp[hq])
theorem iJ.add(c:iJ M a b F rt d S)(a8:aP t 1=zq):iJ (M++t.map λn=>(o,n)) a b (F++kR M o t (Z t)) (eR M (M++t.map λn=>(o,n)) rt) (dX M (M++t.map λn=>(o,n)) d) (S++yx (Z t) 0):=by
 have a4:dV (M.map zm++t):=c.whole.append (tD a8);have a7:Z (kR M o t (Z t))=Z t:=by simp[kR]
 have m:Z (M++t.map λn=>(o,n))=Z M+Z t:=by simp
 have J:∀p,Z M<=p->p<Z M+Z t->(F++kR M o t (Z t))[p]?=V (cA (M++t.map λn=>(o,n)) p):=by intro p l r;have:=aC0 (M:=M++t.map λn=>(o,n)) (p:=p) (by rw[m];exact r);rw[aQv,zc (by rw[rJ];exact l),rJ]at this;rw[zc (by rw[c.lf];exact l),c.lf];exact this
 have I:∀p,p<Z M->(F++kR M o t (Z t))[p]?=F[p]?:=λp g=>zf (by rw[c.lf];exact g)
 have v:Z (F++kR M o t (Z t))=Z M+Z t:=by rw[z7,a7,c.lf]
 have a6:∀p,p<Z M+Z t->cA (M++t.map λn=>(o,n)) p<Z M+Z t:=λp g=>by
  have:=aIh (M:=M++t.map λn=>(o,n)) (p:=p) (by rw[m];exact g);rwa[m]at this
 have T:∀p,cX (M++t.map λn=>(o,n)) a b p (eR M (M++t.map λn=>(o,n)) rt p):=by
  intro p;have l:cX (M++t.map λn=>(o,n)) a b p (cA (M++t.map λn=>(o,n)) p):=Cl.base (z9 (aIi _ p).symm);by_cases f:cA (M++t.map λn=>(o,n)) p<Z M
  .have r:cX M a b (cA (M++t.map λn=>(o,n)) p) (rt (cA (M++t.map λn=>(o,n)) p)):=(c.iff _ _).1 (c.forest.rt_rt _).symm;have e:eR M (M++t.map λn=>(o,n)) rt p=rt (cA (M++t.map λn=>(o,n)) p):=aT f;rw[e];exact l.trans (aIk c.whole r)
  have e:eR M (M++t.map λn=>(o,n)) rt p=cA (M++t.map λn=>(o,n)) p:=aS f;rw[e];exact l
 have Q:fP (aF (M.map zm++t)) (λj k=>eR M (M++t.map λn=>(o,n)) rt j=eR M (M++t.map λn=>(o,n)) rt k) λ_ _=>False:=by
  intro L N e A D;by_cases x:L<Z M
  .obtain⟨u,E⟩:=c.in x e D;obtain⟨a1,a2⟩:=c.cl L N E (xJ x A) (xJ u D);refine⟨?_,λX p s g f=>?_⟩
   .rw[(vO (t:=t) (xJ x A)).2.2,(vO (t:=t) (xJ u D)).2.2];exact a1
   rw[pY c.whole (by simpa using x)]at g;rw[pY c.whole (by simpa using u)]at f;refine fZ.mono (λj k hij=>?_) (a2 X p s g f);rcases hij with hij|hij
   .exact fZ.base (z9 (c.up hij))
   exact hij.elim
  have u:¬N<Z M:=λu=>x (c.in u e.symm A).1
  have G:=c.new (t:=t) (o:=o) (by omega) A;have H:=c.new (t:=t) (o:=o) (by omega) D;have:L=N:=by rw[<-G,<-H];exact e
  subst this;refine⟨rfl,λX p s g f=>?_⟩;rw[g]at f;simp at f;subst f;exact fZ.refl _
 have a5:=Q.done (B:=λj k=>cA (M++t.map λn=>(o,n)) j=cA (M++t.map λn=>(o,n)) k\/(j=a/\k=b)) (vN _) (λj k e=>by
   have l:=T j;have r:=T k;unfold cX at l r;rw[tC]at l r;have E:eR M (M++t.map λn=>(o,n)) rt j=eR M (M++t.map λn=>(o,n)) rt k:=e;rw[E]at l;exact l.trans r.symm) (λj k e=>by
   rcases e with e|⟨rfl,rfl⟩
   .show eR M (M++t.map λn=>(o,n)) rt j=eR M (M++t.map λn=>(o,n)) rt k;unfold eR;rw[e]
   show eR M (M++t.map λn=>(o,n)) rt j=eR M (M++t.map λn=>(o,n)) rt k;rw[c.old c.ha,c.old c.hb];exact(c.iff _ _).2 (Cl.base (zd ⟨rfl,rfl⟩)))
 refine⟨by rw[tC];exact a4,by rw[v,m],by rw[z7,List.length_replicate,c.ls,m],⟨?_,?_,?_,?_⟩,?_,by rw[tC];exact Q,?_,?_,?_,by rw[m];have:=c.ha;omega,by rw[m];have:=c.hb;omega⟩
 .intro p s f;have g:=(eE f);rw[v]at g ⊢;by_cases i:p<Z M
  .rw[I p i]at f;have:=c.forest.lt p s f;rw[c.lf]at this;omega
  rw[J p (by omega) g]at f;simp at f;subst f;exact a6 p g
 .intro p f;have g:=(eE f);rw[v]at g;by_cases i:p<Z M
  .rw[I p i]at f;rw[c.old i];exact c.forest.root p f
  rw[J p (by omega) g]at f;simp at f;unfold eR;rw[f,aS (by omega)]
 .intro p s f R;have g:=(eE f);rw[v]at g;by_cases i:p<Z M
  .rw[I p i]at f;have q:=c.forest.lt p s f;rw[c.lf]at q;rw[c.old i,c.old q];unfold dX;rw[aT i,aT q];exact c.forest.step p s f R
  rw[J p (by omega) g]at f;simp at f;subst f;have P:=aIi (M++t.map λn=>(o,n)) p;refine⟨by unfold eR;rw[P],?_⟩;unfold dX;rw[aS i,aS R];by_cases q:cA (M++t.map λn=>(o,n)) p<Z M
  .rw[aT q,aT q];omega
  rw[aS q,aT P,aS q];omega
 .intro p g;rw[v]at g;unfold eR;rw[aAa (M:=M++t.map λn=>(o,n)) (by rw[m];exact g),aS (by omega)]
 .rw[tC];intro p g;by_cases i:p<Z M
  .rw[c.old i];exact(vO (t:=t) (c.named p (xJ i g))).2.1
  rw[c.new (by omega) g];exact g
 .intro j k;unfold cX;rw[tC];exact a5.1 j k
 .rw[tC];intro p n y;by_cases i:p<Z S
  .rw[zf i]at y;rw[c.ls]at i;rcases c.sz p n y with e|e|⟨G,a9,H,a3⟩
   .exact z9 e
   .exact zd (z9 e)
   exact zd (zd ⟨c.ends G i,a9,c.exp H (by simpa using i),a3⟩)
  rw[zc (by omega)]at y;have:=(List.getElem?_eq_some_iff.1 y).2;simp at this;exact z9 this.symm
 intro a0 z;by_cases i:a0<Z S
 .rw[zf i]at z;exact c.none a0 z
 rw[zc (by omega)]at z;have:=(List.getElem?_eq_some_iff.1 z).2;simp at this
end
theorem bEh{c:List Nd}{f:Nat->Nat->Prop}(u:∀s,f s s):∀(d:List Nd) (b a:Nat),d=c.drop a->eY d b->(∀j∈gE d b a,bZ (aF c) f j)->∀p,a<=p->p<a+aM d b->bZ (aF c) f p:=by
 intro d;induction d with
 |nil=>
  intro b a _ _ _ p t g;cases b<;>simp[aM]at g<;>omega
 |cons n r ih=>
  intro b a m k q p t g;cases b with
  |zero=>simp at g;omega
  |succ b=>
   have i:c[a]?=V n:=by have:=congrArg (λy=>y[0]?) m;simpa using this.symm
   have l:r=c.drop (a+1):=by have:=congrArg List.tail m;simpa using this
   have z:=(eE i);have o:bZ (aF c) f a:=q a (by rw[oT];simp);by_cases x:p=a
   .subst x;exact o
   simp only[eY]at k;simp only[aM]at g;refine ih (b+bI n) (a+1) l k (λj hxm=>?_) p (by omega) (by omega);rw[Nat.add_comm b,aPo]at hxm;rcases List.mem_append.1 hxm with hxm|hxm
   .cases hv:aK n
    .refine o.parts (u a) ((iF i).2 hv) ?_;rw[jE i,<-l];exact hxm
    rw[kE hv]at hxm;simp[gE]at hxm
   refine q j ?_;rw[oT];refine yg _ ?_;have v:aM (n::r) 1=1+aM r (bI n):=by simp[aM]
   rw[v,Nat.add_comm 1,List.drop_succ_cons,show a+(aM r (bI n)+1)=a+1+aM r (bI n) by omega];exact hxm
theorem aQg{a:List Nd}{b:Nat->Nat->Prop}(f:∀i,b i i)(g:dV a){i:Nat}(j:i<Z a)(d:bZ (aF a) b i):∀p,i<=p->p<i+aM (a.drop i) 1->bZ (aF a) b p:=
 bEh f _ 1 i rfl (g.one j) λk c=>by
  simp[gE]at c;subst c;exact d
def aL(rest:List (Int×Lt)):List Tg:=rest.flatMap λr=>r.2.2.map λn=>(r.1,n)
def bO:Nat->List (Int×Lt)->List Nat
 |_,[]=>[]
 |n,r::rs=>n::bO (n+Z r.2.2) rs
def dS(rest:List (Int×Lt))(ls:List (List Nd)):List Lt:=List.zipWith (λb a=>(b.2.1,a)) rest ls
def nW(a:List Tg)(b c:Nat):Prop:=fU (aF (a.map zm)) (cX a b c)/\∀p,p<Z a->bZ (aF (a.map zm)) (cX a b c) p
def fD(a:List Tg)(b c:Nat)(rest:List (Int×Lt))(d:List Lt)(g:Bool)(e:Int):Prop:=
 (¬nW (a++aL rest) b c/\d=[]/\g=Y/\e=0)\/
 (nW (a++aL rest) b c/\∃(f:Nat->Nat) (ls:List (List Nd)),(∀p i,f p=f i↔cX (a++aL rest) b c p i)/\aU (λp j=>aX (aF ((a++aL rest).map zm)) (cX (a++aL rest) b c) f [p] j) (bO (Z a) rest) ls/\
  ((500<aY (bB (dS rest ls))/\d=[]/\g=Y/\e=4)\/(aY (bB (dS rest ls))<=500/\d=bB (dS rest ls)/\g=zq/\e=0)))
theorem yN:∀(n:Nat) (a:List (Int×Lt)),Z (bO n a)=Z a
 |_,[]=>rfl
 |n,r::rs=>by simp[bO,yN _ rs]
theorem bEi{f:Gr}{g:Nat->Nat->Prop}{k rd:Nat->Nat}{l:List Nat}{c:List Nd}(e:aX f g k l c):∃d,aX f g rd l d/\aU (gK λa b=>∃p,a=(k p:Int)/\b=(rd p:Int)) c d:=by
 induction e with
 |nil=>exact⟨[],aX.nil,aU.nil⟩
 |@var i r c h1 _ ih=>
  obtain⟨d,a,b⟩:=ih;exact⟨_,aX.var h1 a,aU.cons (z9 ⟨oF _,oF _,rfl,i,rfl,rfl⟩) b⟩
 |@name i j r c h1 h2 _ ih=>
  obtain⟨d,a,b⟩:=ih;exact⟨_,aX.name h1 h2 a,aU.cons (zd ⟨h2,rfl⟩) b⟩
theorem aEp{b:Int->Int->Prop}:∀(f:List (Int×Lt)) {c d:List (List Nd)},aU (λg i=>aU (gK b) g i) c d->aU (kH b) (dS f c) (dS f d)
 |[],_,_,_=>aU.nil
 |_::_,_,_,aU.nil=>aU.nil
 |_::rs,_,_,aU.cons a h=>aU.cons ⟨rfl,a⟩ (aEp rs h)
theorem aEq{f:List Tg}{o q:Nat}{b:List (Int×Lt)}{G H:List Lt}{d A:Bool}{e D:Int}(v:fD f o q b G d e)(j:fD f o q b H A D):G=H/\d=A/\e=D:=by
 rcases v with⟨s,rfl,rfl,rfl⟩|⟨s,m,r,E,R,N⟩
 .rcases j with⟨_,rfl,rfl,rfl⟩|⟨x,_⟩
  .exact⟨rfl,rfl,rfl⟩
  exact absurd x s
 rcases j with⟨x,_⟩|⟨_,i,l,z,T,y⟩
 .exact absurd s x
 have P:gL (aF ((f++aL b).map zm)) (cX (f++aL b) o q):=Cl.isDown _ _;have Q:lW λa d=>∃p,a=(m p:Int)/\d=(i p:Int):=by
  rintro a d a4 A ⟨p,rfl,rfl⟩ ⟨u,rfl,rfl⟩;constructor
  .intro e;have:i p=i u:=(z _ _).2 ((E p u).1 (by omega));omega
  intro e;have:m p=m u:=(E _ _).2 ((z p u).1 (by omega));omega
 have X:aU (λg t=>aU (gK λa d=>∃p,a=(m p:Int)/\d=(i p:Int)) g t) r l:=by
  have a3:∀{a:List Nat}{r l:List (List Nd)},aU (λp g=>aX (aF ((f++aL b).map zm)) (cX (f++aL b) o q) m [p] g) a r->aU (λp g=>aX (aF ((f++aL b).map zm)) (cX (f++aL b) o q) i [p] g) a l->aU (λg t=>aU (gK λa d=>∃p,a=(m p:Int)/\d=(i p:Int)) g t) r l:=by
   intro a r l v;induction v generalizing l with
   |nil=>intro j;cases j;exact aU.nil
   |cons c _ ih=>
    intro j;cases j with
    |cons c' k=>
     refine aU.cons ?_ (ih k);obtain⟨t,L,M⟩:=bEi (rd:=i) c;have:=aX.one P s.1 (sZ _) (λa1 a2 e=>(z a1 a2).2 e) L _ c';subst this;exact M
  exact a3 R T
 have a0:=aF5 Q (aEp b X);rw[<-a0]at y;rcases N with⟨I,rfl,rfl,rfl⟩|⟨I,rfl,rfl,rfl⟩
 .rcases y with⟨_,rfl,rfl,rfl⟩|⟨J,_⟩
  .exact⟨rfl,rfl,rfl⟩
  omega
 rcases y with⟨J,_⟩|⟨_,rfl,rfl,rfl⟩
 .omega
 exact⟨rfl,rfl,rfl⟩
section
variable {M:List Tg}{o:Int}{t:List Nd}{a b:Nat}{F:List Nat}{rt d:Nat->Nat}{S:List Int}
theorem iJ.endsAll(f:iJ M a b F rt d S)(G:aP t 1=zq)(r:∀p,p<Z M->bZ (aF (M.map zm)) (λm c=>rt m=rt c) p):∀(j p:Nat),p+j=Z M+Z t->bZ (aF (M.map zm++t)) (λm c=>eR M (M++t.map λn=>(o,n)) rt m=eR M (M++t.map λn=>(o,n)) rt c) p:=by
 have y:dV (M.map zm++t):=f.whole.append (tD G);intro j;induction j using Nat.strongRecOn with
 |_ j ih=>
  intro p J;by_cases v:p<Z M
  .exact f.ends (r p v) v
  refine⟨_,λc z l k i=>?_⟩;have A:eR M (M++t.map λn=>(o,n)) rt p=eR M (M++t.map λn=>(o,n)) rt c:=z;by_cases s:c<Z M
  .have E:=xJ s l;rw[pY f.whole (by simpa using s)]at i;have x:=aIj f.whole E i;exact f.ends (r k x) x
  rw[f.new (by omega) l]at A;obtain⟨L,g,I⟩:=nC l;have D:c=p:=by
   grind[iJ.rt_lt,xK,aAa,aBz,eR,tC,aK,List.getElem?_eq_none_iff,yj]
  subst D;rw[jE g]at i;have H:=sY _ _ _ (y c _ g) k i;have u:c<Z (M.map zm++t):=(eE g);have q:aM ((M.map zm++t).drop c) 1<=Z ((M.map zm++t).drop c):=oC _ _;rw[yo u,(List.getElem?_eq_some_iff.1 g).2]at q;simp[aM]at q;simp at u;exact ih (Z M+Z t-k) (by omega) k (by omega)
end
section
attribute [local go_sem] yz
theorem bEj{a:Int}(b:0<=a)(c:a<=1000000):wrap64 a=a:=by unfold wrap64;omega
theorem bEk(b a:Nat):min (wrap64 (((min 501 (1+b):Nat):Int)+((min 501 a:Nat):Int))) 501=((min 501 (1+(b+([a]:List Nat).sum)):Nat):Int):=by
 have d:min 501 (1+b)<=501:=Nat.min_le_left _ _;have f:min 501 a<=501:=Nat.min_le_left _ _;have c:([a]:List Nat).sum=a:=by simp
 rw[bEj (by omega) (by omega),c];rcases y3 501 (1+b)with ha|ha<;>rcases y3 501 a with hb|hb<;>rcases y3 501 (1+(b+a))with hc|hc<;>simp only[Nat.min_eq_left,Nat.min_eq_right,ha,hb,hc]<;>omega
theorem bEl{x b s:Nat}{q:List Nd}{r:List Int}{d:Nat}{v:List Nat}{o:zt}(a:aBw w B x b s vn ve vl vm q F r rt d N0 v W)(j:cQ W d 0 o){W':zw}(c:zu W W' (V b))(A:b<w.heap.size){l:List Nat}(t:∀k∈l,k<W.heap.size/\k≠b)(g:∃m:Obj,W.heap[b]?=V m/\m.isCells=zq)(i:Nat)(z:w.heap.size<=d:=by omega):cQ W' (w.heap.size+1) 0 (iQ 0)/\cQ W' (w.heap.size+1+1) 0 (.bool Y)/\zs W' (aQ (w.heap.size+1) 0)=Y/\zs W' (aQ (w.heap.size+1+1) 0)=Y/\cQ W' d 0 o/\zs W' (aQ d 0)=Y/\lG l W W'/\KeepsFrom i W W'/\zu w W' (V b):=by
 have f:∀{p:Addr}{y:zt},zn W p=V y->p.block≠b->zs W' p=zs W p:=λg u=>z5 (c.block _ (zo W _ g) (λe=>u (by simpa using e)))
 exact⟨c.cell a.x1 (by simp;omega),c.cell a.x2 (by simp;omega),(f a.x1 (by simp;omega)).trans a.f1,(f a.x2 (by simp;omega)).trans a.f2,c.cell j (by simp;omega),(f j (by simp;omega)).trans a.cf,aIg c t,aBu i c g,a.far.trans c⟩
theorem bEm{a:List Nd}{b:Nat}{s:Nd}{r:List (List Nd)}(k:a[b]?=V s)(f:(aF a).ch b=C)(o:aU (λm d=>aX (aF a) (λc j=>rt c=rt j) rt [m] d) C r)(x:∀m∈C,bZ (aF a) (λc j=>rt c=rt j) m)(u:nD a rt)(g:gL (aF a) λc j=>rt c=rt j)(v:fU (aF a) λc j=>rt c=rt j)(y:rt b=b):bZ (aF a) (λc j=>rt c=rt j) b/\∃d,aX (aF a) (λc j=>rt c=rt j) rt [b] d/\Z d=1+(r.map Z).sum:=by
 have q:∀j,rt b=rt j->(aF a).named j->(aF a).named b:=by intro j e i;have:=u j i;rwa[<-e,y]at this
 refine⟨bE9 g v (sZ a) (g.refl b) (by rw[f];exact x) q,?_⟩;cases hv:aK s with
 |false=>
  have l:(aF a).named b:=by rw[iF k];exact hv
  refine⟨_,aX.name (g.refl b) l (by rw[List.append_nil,f];exact bEa o),?_⟩;simp[List.length_flatten];omega
 |true=>
  have l:¬(aF a).named b:=by rw[iF k,hv];simp
  refine⟨_,aX.var (λj e i=>l (q j e i)) aX.nil,?_⟩;have t:C=[]:=by rw[<-f,jE k,kE hv];rfl
  subst t;cases o;simp
theorem bEn{a:List Nd}(g:tZ a rt S){d:Nat}{n:Int}(i:bZ (aF a) (λb c=>rt b=rt c) d/\∃f,aX (aF a) (λb c=>rt b=rt c) rt [d] f/\n=(min 501 (Z f):Nat)):tZ a rt (S.set d n):=by grind[tZ,aF]
theorem bEo{b:List Int}{a:Nat}{n:Int}(f:n≠-1)(d:S[a]?=V 0)(c:∀p:Nat,b[p]?=V (-1)↔(S.set a (-1))[p]?=V (-1)):∀p:Nat,(b.set a n)[p]?=V (-1)↔S[p]?=V (-1):=by grind
theorem aQh(B j:Nat)(vn ve vl f4 vm:zt)(b:List Nd)(F:List Nat)(rt h1:Nat->Nat)(h4:dV b)(a8:jP F rt h1)(h5:nD b rt)(z:fP (aF b) (λq r=>rt q=rt r) λ_ _=>False):∀(c1:Nat) (S:List Int) (f:Nat) (w:zw),nV S<c1->cE w B j vn ve vl f4 vm b F S->tZ b rt S->(∀a:Nat,S[a]?=V (-1)->iH (aF b) (λq r=>rt q=rt r) a f)->f<Z b->
  Calls ze 95 #[pQ j,iQ f] w λe c2=>∃n I y,e=.returned (.tuple #[iQ n,.bool I])/\bEd w B j vn ve vl f4 vm b F S rt f n I c2 y:=by
 obtain⟨b5,h6⟩:=aQe z (vN rt);intro c1;induction c1 with
 |zero=>intro S f w d9;omega
 |succ c1 ih=>
  intro S f w d9 v h8 h7 i1;have m:=O v;have r3:=O a8;have l4:=O h5;have l3:=O d9;have c7:=O h8;have g4:=O h7;have E:=O b5;have l5:=O h6;have m2:=O ih;obtain⟨H,e8,b7,r0,k3,k4,n1,n3,p5⟩:=aQf w (pQ j) (iQ 0) (.bool Y) 113 3 4;have a5:=O (aI8 B j vn ve vl f4 vm b F S rt h1 f H (v.below b7) a8 i1);have a6:=O b7;have Q:rt f<Z b:=by rw[<-v.lf];exact a8.rt_lt (by rw[v.lf];exact i1)
  have e6:=a8.rt_rt f;obtain⟨c,g9,D,rfl,e0,m6,m7⟩:=(v.below b7).size Q;have r8:=(v.below b7).c3;have o6:=v.few;clear v a8 h5 d9 h8 h7 b5 h6 ih z;refine(callsIn_wide (n:=3)).1 ?_;refine callsIn_of_wp_marks Tryz.func95 rfl trivial ?_;simp only[Tryz.ntmps95,yn,zb,yy,ye,yd,yw,yv,ym,yt,yi,yk];refine wpIn_wide.2 ?_;obtain⟨a,e4⟩:∃a,a=rt f:=⟨_,rfl⟩;rw[<-e4]at Q e6 e0 m6 m7 a5;have a7:=O e4;have X:=O e6;have b2:=O e0;have t0:(a:Int)<(Z b:Int):=by omega
  clear e4 e6 e0;by_cases e3:D=-1
  .subst e3;have l6:aE (¬bZ (aF b) (λq r=>rt q=rt r) f):=O (λd7=>d7.irrefl E.o ((g4.o a b2.o).left E.o (by show rt f=rt a;rw[X.o,a7.o])));subst e8;go_wp2_with(first
    |(go_at_call 128;refine(aD a5).mono ?_;rintro e c2 ⟨rfl,rfl⟩)
    |go_in)
   refine yM (v:=.tuple #[iQ 0,.bool Y]) rfl (by simp[results,yq,go_sem,k3,k4]) ?_;exact⟨0,Y,S,rfl,⟨m.o.below a6.o,jL a6.o,zi _,λe=>(by cases e),λ_=>⟨rfl,l6.o⟩⟩⟩
  by_cases e2:D=0
  .subst e2;have c9:=O (bEb S a (-1) b2.o (by decide));have l9:=O (m.o.below a6.o);have g5:=O ((m.o.below a6.o).sized a (-1));have p2:c<w.heap.size:=(bS m.o.rs c rfl).2;subst e8;go_upto_region 6 with(first
    |(go_at_call 128;refine(aD a5).mono ?_;rintro e c2 ⟨rfl,rfl⟩)
    |go_in)
   clear a5;generalize ((w.alloc (.cells #[pQ j] 113)).alloc (.cells #[iQ 0] 3)).alloc (.cells #[.bool Y] 4)=H at *;obtain⟨j1,b9⟩:=g5.o;have j3:=jF (j:=a) (v:=iQ (-1)) r0 (by omega:w.heap.size≠c);have j4:=jF (j:=a) (v:=iQ (-1)) k3 (by omega:w.heap.size+1≠c);have j5:=jF (j:=a) (v:=iQ (-1)) k4 (by omega:w.heap.size+1+1≠c);have q2:zs (zr H (aQ c a) (iQ (-1))) (aQ (w.heap.size+1) 0)=false:=by rw[zk];exact n1
   have q3:zs (zr H (aQ c a) (iQ (-1))) (aQ (w.heap.size+1+1) 0)=false:=by rw[zk];exact n3
   have q1:(zr H (aQ c a) (iQ (-1))).heap.size=w.heap.size+3:=by rw[<-p5];simp[zr]
   have m0:=O j1;have k9:=O (aBv a6.o b9);have g1:=O (λq9=>aIp j a q9);have q4:=λm5=>Below.at' ((Below.refl (zr H (aQ c a) (iQ (-1))).heap.size (zr H (aQ c a) (iQ (-1)))).alloc (zi _) m5) (zi _) j3
   clear j1 b9 g5 l9;go_wp2_with(first
    |(go_at_call 129;refine(aD g1 _).mono ?_;rintro e t7 ⟨rfl,rfl⟩)
    |go_in)
   clear q4 g1;generalize zr H (aQ c a) (iQ (-1))=w4 at *;obtain⟨C,z⟩:∃C,(aF b).ch a=C:=⟨_,rfl⟩;obtain⟨t,g8,rfl,_⟩:=m.o.ends (by omega);obtain⟨b1,j2,L,j7,j9,k0,j8,q5⟩:=aIc w4 (iQ 1) (pQ j) (iQ a) 3 113 3;rw[<-j2];clear j2;rw[q1]at j7 j9 k0 j8 q5;have h9:=m0.o.below L;have n7:oH b1 (w.heap.size+3+1+1) (w.heap.size+3+1) j t b a:=oH.of h9 (by omega) j8 k0;have t4:=(bA m.o.box);have s5:=(bS m.o.re t rfl).2;have i8:∀k∈[w.heap.size+3+1+1,w.heap.size+3+1,j,t],k<b1.heap.size:=by intro k o;simp at o;rcases o with rfl|rfl|rfl|rfl<;>omega
   obtain⟨f1,M⟩:∃n,b[a]?=V n:=⟨b[a],zg Q⟩;have l0:=O (k9.o.trans (jL L));have k5:=aC L j3;have f8:=aC L j4;have f9:=aC L j5;have r1:=(L.frozen (p:=(aQ (w.heap.size+1) 0)) (zo _ _ j4)).trans q2;have r2:=(L.frozen (p:=(aQ (w.heap.size+1+1) 0)) (zo _ _ j5)).trans q3;refine(wpIn_wide (n:=3)).1 ?_;refine wpIn_rangeFunc_ownG rfl (by omega) (gf:=152) (lb:=#[pQ (w.heap.size+3+1+1),pQ (w.heap.size+3+1)]) rfl trivial (enters_of yb (by kernel_rfl) rfl)
    (encs:=λi:rF C=>#[iQ (i.1:Nat)]) (Kp:=lG [w.heap.size+3+1+1,w.heap.size+3+1,j,t]) (S:=λxs=>xs.map (λi=>i.1)=C) (Sp:=λR=>R.map (λi=>i.1) <+: C) (N:=Z C) (w0:=b1)
    (λA m3 m4 W o1 n8 s0 o2 h0=>by
     have:=aIa 2 A (w.heap.size+3+1+1) (w.heap.size+3+1) j t b a f1 C z (by omega) h4 o6 M m3 m4 _ n8 o2 W (n7.kept (aId o1 i8)) h0;simpa using this)
    (λv k=>v.trans k) (lG.put i8) (dP) (λ_=>rfl)
    (λR W=>aBw w B j c g9 vn (sQ t (Z b) g8) vl vm b F (S.set a (-1)) rt (w.heap.size+3) b1.heap.size (R.map λi=>i.1) W)
    (λb4 R W=>aEo w B j c g9 vn (sQ t (Z b) g8) vl vm b F (S.set a (-1)) rt b4 (R.map λi=>i.1) W)
    (aBw.own (by omega)) (λb4=>aEo.own (by omega) b4) ?h0 ?a1 ?assign ?body ?done ?stop
   case h0=>
    refine⟨zi _,⟨_,h9,zi _,?_,λ_=>Iff.rfl⟩,⟨[],aU.nil,by simp,j7⟩,l0.o,k5,f8,f9,r1,r2,j9⟩;intro p n P;rw[List.getElem?_set]at P;split at P
    .split at P
     .simp at P;exact zd (z9 P.symm)
     cases P
    exact c7.o p n P
   case assign=>
    intro A i W K hK;gi_wp2
    exact hK
   case body=>
    rintro A R i W d s6;obtain⟨y,l,J,a9,a0⟩:=d.st;obtain⟨b0,a2,a1,b8⟩:=d.pts;have q0:i.1<Z b:=aIf h4 M i.1 (by rw[z];exact i.2);have c0:(aF b).named a:=by
     rw[iF M];cases a3:aK f1 with
     |false=>rfl
     |true=>
      have u:C=[]:=by rw[<-z,jE M,kE a3];rfl
      have G:=i.2;simp[u]at G
    have e7:iH (aF b) (λq r=>rt q=rt r) a i.1:=iH.step (j:=a) rfl c0 (by rw[z];exact i.2) rfl;have i2:∀a4:Nat,y[a4]?=V (-1)->iH (aF b) (λq r=>rt q=rt r) a4 i.1:=by
     intro a4 p4;have u:=(a0 a4).1 p4;by_cases i9:a4=a
     .subst i9;exact e7
     rw[yf (λe=>i9 e.symm)]at u;exact iH.trans ((g4.o a4 u).right E.o (by show rt f=rt a;rw[X.o,a7.o])) e7
    have g0:=m2.o y i.1 W (by have:=c9.o;have:=l3.o;omega) l a9 i2 q0;have s2:=d.far.size;have s1:=d.big;have p6:=(bA l.box);have p1:=(bS l.re t rfl).2;have d8:∀k∈[w.heap.size+3+1+1,w.heap.size+3+1,j,t],k<W.heap.size/\k≠c:=by
     intro k o;simp at o;have u:j≠c:=λe=>eX l.rs l.box (by decide) (by simp[U,e])
     have G:t≠c:=λe=>l.ac (by simp[U,e])
     rcases o with rfl|rfl|rfl|rfl
     .exact⟨by omega,by omega⟩
     .exact⟨by omega,by omega⟩
     .exact⟨p6,u⟩
     exact⟨p1,G⟩
    have l7:=O (λ(W':zw) (o8:zu W W' (V c))=>bEl d b8 o8 p2 d8 (aBp l.rs rfl) b1.heap.size);have k2:=d.x0;have c4:=O d;have c6:=O a2;have c3:=O a1;have g6:=O J;have k7:=O a0;have k8:=O g0;have l1:=O (λk o=>(d8 k o).1);generalize hsm:(b0.map Z).sum=sm at *;have c8:=O hsm;clear hsm;clear d a2 a1 b8 J a0 a9 l g0 i2 e7 c0 d8;gi_wp2_with (first
     |(refine⟨trivial,?_⟩;gi_at_call 95;refine(yh A (callsIn_wide.2 (aD k8))).mono ?_;rintro e W' ⟨n,I,g7,rfl,e5⟩;obtain⟨f2,f3,q6,q7,k1,q8,i7,i6,i5⟩:=l7.o W' e5.far;have x:=O e5;have l2:=O i7;have g3:=O i6;have g2:=O i5;clear e5 i7 i6 i5)
     |fail)
    .have o3:I=false:=by simpa using ‹(!I)=zq›
     obtain⟨_,e1⟩:=x.o.no o3;refine⟨g3.o.trans ((xI _ f2 _).trans (xI _ (jF f3 (by omega)) _)),⟨rfl,⟨g7,(x.o.tm.boxed m.o (by omega) 0 _).boxed m.o (by omega) 0 _,zj x.o.few g6.o⟩,⟨i.1,by simp,e1⟩,pW (pW g2.o (by omega) 0 _) (by omega) 0 _,?_,?_⟩⟩
     .exact jF (zp _ _ _ (by rw[f2];rfl)) (by omega)
     exact zp _ _ _ (by rw[jF f3 (by omega)];rfl)
    have o4:I=true:=by simpa using ‹(!I)=Y›
    obtain⟨u,G,d2,f0,n5,n6⟩:=x.o.yes o4;have p8:min (wrap64 (((min 501 (1+sm):Nat):Int)+n)) 501=((min 501 (1+((b0++[f0]).map Z).sum):Nat):Int):=by rw[n6,yu,List.sum_append,c8.o];exact bEk sm (Z f0)
    rw[p8];have p3:∀k∈[w.heap.size+3+1+1,w.heap.size+3+1,j,t],k≠w.heap.size+3:=by intro k o;simp at o;rcases o with rfl|rfl|rfl|rfl<;>omega
    refine⟨g3.o.trans (xI _ k1 _),l2.o.trans (λk o=>(cD W' (aQ (w.heap.size+3) 0) _).block k (za (l1.o k o) x.o.far.size) (by simpa using p3 k o)),⟨?_,⟨g7,x.o.tm.boxed m.o (by omega) 0 _,zj x.o.few g6.o,u,λp=>(G p).trans (k7.o p)⟩,⟨b0++[f0],?_,?_,zp _ _ _ (by rw[k1];rfl)⟩,pW g2.o (by omega) 0 _,jF ?_ (by omega),jF f2 (by omega),jF f3 (by omega),?_,?_,?_⟩⟩
    .exact zj c4.o.big (zj x.o.far.size (cD W' (aQ (w.heap.size+3) 0) _).size)
    .rw[yu];exact c6.o.snoc n5
    .intro f7 hy;rw[yu,List.mem_append]at hy;rcases hy with hy|hy
     .exact c3.o f7 hy
     simp at hy;subst hy;exact d2
    .exact x.o.far.cell k2 (by intro e;simp[U]at e;omega)
    .rw[zk];exact q6
    .rw[zk];exact q7
    rw[zk];exact q8
   case done=>
    rintro s t8 W b5 d3 d hK;obtain⟨y,l,J,a9,a0⟩:=d.st;obtain⟨b0,a2,a1,b8⟩:=d.pts;have s4:=d.cf;rw[d3]at a2 a1;have k2:=d.x0;have f5:=d.x1;have f6:=d.x2;have n2:=d.f1;have n4:=d.f2;have r4:=l.c3;obtain⟨r9,r7,t6,h2,s7,r5,r6⟩:=l.size Q;simp at h2;obtain⟨rfl,rfl⟩:=h2;generalize hsm:(b0.map Z).sum=sm at *;have c8:=O hsm;have c4:=O d;have b3:=O l;have c6:=O a2;have c3:=O a1;have c5:=O hK;have m1:=O J;have l8:=O a9;have k6:=O a0;have t2:(0:Int)<=(a:Int):=yr _;have t1:((a:Int)).toNat=a:=ya _;obtain⟨T,a3⟩:∃T,T=iQ ((min 501 (1+sm):Nat):Int):=⟨_,rfl⟩;have d0:=jF (j:=a) (v:=T) f5 (by omega:w.heap.size+1≠c);have d1:=jF (j:=a) (v:=T) f6 (by omega:w.heap.size+1+1≠c);have m8:=jF (j:=a) (v:=T) b8 (by omega:w.heap.size+3≠c);have m9:zs (zr W (aQ c a) T) (aQ (w.heap.size+1) 0)=false:=by rw[zk];exact n2
    have n0:zs (zr W (aQ c a) T) (aQ (w.heap.size+1+1) 0)=false:=by rw[zk];exact n4
    rw[a3]at d0 d1 m8 m9 n0;clear hsm d l a2 a1 hK J a9 a0 a3;go_wp2;go_region;all_goals
     go_wp2;obtain⟨h3,j6,i0,d4⟩:=bEm M z c6.o c3.o l4.o E.o l5.o X.o;rw[c8.o]at d4;have j0:rt a=rt f:=by rw[X.o,a7.o]
     have t5:(1:Nat)<=min 501 (1+sm):=by rw[Nat.le_min];omega
     have o0:KeepsFrom 0 W (zr (zr (zr W (aQ c a) (iQ ((min 501 (1+sm):Nat):Int))) (aQ (w.heap.size+1) 0) (iQ ((min 501 (1+sm):Nat):Int))) (aQ (w.heap.size+1+1) 0) (.bool zq)):=(aBu 0 (b3.o.sized a ((min 501 (1+sm):Nat):Int)).2 (aBp b3.o.rs rfl)).trans ((xI 0 d0 _).trans (xI 0 (jF d1 (by omega)) _));have n9:=o0.same s _ (Nat.zero_le _) c5.o rfl;have o9:=zp (zr W (aQ c a) (iQ ((min 501 (1+sm):Nat):Int))) (aQ (w.heap.size+1) 0) (iQ ((min 501 (1+sm):Nat):Int)) (by rw[d0];rfl);have p0:=jF (j:=0) (v:=.bool zq) o9 (by omega:w.heap.size+1≠w.heap.size+1+1);have b9:=zp (zr (zr W (aQ c a) (iQ ((min 501 (1+sm):Nat):Int))) (aQ (w.heap.size+1) 0) (iQ ((min 501 (1+sm):Nat):Int))) (aQ (w.heap.size+1+1) 0) (.bool zq) (by rw[jF d1 (by omega)];rfl);have p7:=((b3.o.sized a ((min 501 (1+sm):Nat):Int)).1.boxed m.o (g:=w.heap.size+1) (by omega) 0 (iQ ((min 501 (1+sm):Nat):Int))).boxed m.o (g:=w.heap.size+1+1) (by omega) 0 (.bool zq);have o7:=pW (pW (c4.o.far.trans (b3.o.sized a ((min 501 (1+sm):Nat):Int)).2) (g:=w.heap.size+1) (by omega) 0 (iQ ((min 501 (1+sm):Nat):Int))) (g:=w.heap.size+1+1) (by omega) 0 (.bool zq);generalize zr (zr (zr W (aQ c a) (iQ ((min 501 (1+sm):Nat):Int))) (aQ (w.heap.size+1) 0) (iQ ((min 501 (1+sm):Nat):Int))) (aQ (w.heap.size+1+1) 0) (.bool zq)=WF at *;have b6:WF.drew.heap[s]?=V (.deferred (V [])):=n9;refine⟨by simp,.inl ⟨_,_,rfl,run_takeDeferred b6,?_⟩⟩;have d5:=cell_kept (show WF.drew.cell? _=_ from p0) (grownBy_putObj' WF.drew s (.deferred zl)) (λa e=>by cases e;exact⟨_,b6,rfl⟩);have d6:=cell_kept (show WF.drew.cell? _=_ from b9) (grownBy_putObj' WF.drew s (.deferred zl)) (λa e=>by cases e;exact⟨_,b6,rfl⟩);refine⟨.tuple #[iQ ((min 501 (1+sm):Nat):Int),.bool zq],by simp[results,yq,go_sem,d5,d6],?_⟩;have i4:aB WF WF.drew:=aN ⟨1,rfl⟩;have s3:=c9.o;refine⟨_,zq,y.set a ((min 501 (1+sm):Nat):Int),rfl,⟨(p7.below i4).others (grownBy_putObj' WF.drew s (.deferred zl)) (λa e=>by cases e;exact⟨_,b6,rfl⟩),rH (o7.trans (jL i4)) (grownBy_putObj' WF.drew s (.deferred zl)) (λa e=>by cases e;omega),?_,λ_=>⟨bEn l8.o ⟨h3,j6,i0,by rw[d4]⟩,bEo (by omega) b2.o k6.o,h3.same E.o j0,j6,i0.same E.o (λ_ _ e=>e) [f] (aU.cons j0 aU.nil),by rw[d4]⟩,λe=>(by cases e)⟩⟩;have u:=bEc y a ((min 501 (1+sm):Nat):Int) (by omega);have G:=m1.o;omega
   case stop=>
    rintro s b4 R W b5 d3 d hK;have o5:=d.ret;subst o5;obtain⟨y,l,J⟩:=d.st;obtain⟨f7,hy,e1⟩:=d.no;have f5:=d.x1;have f6:=d.x2;refine wpIn_wide.2 ?_;go_wp2;refine⟨by simp,.inl ⟨_,_,rfl,run_takeDeferred hK,?_⟩⟩;have d5:=cell_kept f5 (grownBy_putObj' _ s (.deferred zl)) (λa e=>by cases e;exact⟨_,hK,rfl⟩);have d6:=cell_kept f6 (grownBy_putObj' _ s (.deferred zl)) (λa e=>by cases e;exact⟨_,hK,rfl⟩);refine⟨.tuple #[iQ 0,.bool Y],by simp[results,yq,go_sem,d5,d6],?_⟩;refine⟨0,Y,y,rfl,⟨l.others (grownBy_putObj' _ s (.deferred zl)) (λa e=>by cases e;exact⟨_,hK,rfl⟩),rH d.far (grownBy_putObj' _ s (.deferred zl)) (λa e=>by cases e;omega),zj J (z6 c9.o),λe=>(by cases e),λ_=>⟨rfl,λd7=>e1 ?_⟩⟩⟩;have e9:f7∈(aF b).ch a:=by rw[z];exact d3.subset hy
    have c0:(aF b).named a:=by
     rw[iF M];cases a3:aK f1 with
     |false=>rfl
     |true=>rw[jE M,kE a3]at e9;simp at e9
    exact d7.parts (j:=a) (by show rt f=rt a;rw[X.o,a7.o]) c0 e9
  have c5:=O (show bZ (aF b) (λq r=>rt q=rt r) f/\∃A,aX (aF b) (λq r=>rt q=rt r) rt [f] A/\D=(min 501 (Z A):Nat) from by
   have Q:rt a=rt f:=by rw[X.o,a7.o]
   rcases c7.o a D b2.o with e|e|⟨u,A,G,d2⟩
   .exact absurd e e2
   .exact absurd e e3
   exact⟨u.same E.o Q,A,G.same E.o (λ_ _ e=>e) [f] (aU.cons Q aU.nil),d2⟩)
  have s9:((D:Int)==-1)=false:=by simpa using e3
  have s8:((D:Int) != 0)=true:=by simpa using e2
  obtain⟨w2,p9,i3,k5,f8,f9,_,_,t3⟩:=aQf w (pQ j) (iQ D) (.bool zq) 113 3 4;subst e8;go_wp2_with(first
   |(go_at_call 128;refine(aD a5).mono ?_;rintro e c2 ⟨rfl,rfl⟩)
   |go_in)
  subst p9;refine yM (v:=.tuple #[iQ D,.bool zq]) rfl (by simp[results,yq,go_sem,f8,f9]) ?_;exact⟨D,zq,S,rfl,⟨m.o.below i3,jL i3,zi _,λ_=>⟨c7.o,λ_=>Iff.rfl,c5.o⟩,λe=>(by cases e)⟩⟩
end
section
theorem aQi(w:zw)(m:TypeId)(i:Nat)(d:zt)(b:List Nd)(u:zh w i 52 2 d (Z b) (aV b))(M:U d≠zl)(N:Z b<=1000000)(I:i<=w.heap.size)(f l:Nat)(a:Nd)(J:cQ w f 0 (.string a.1))(L:cQ w f 1 (iQ a.2)):∃g j,(Builtin.append_ #[50,50] m #[d,sQ f 1 l]).run ze w=.ok g j/\zh j i 52 2 g (Z b+1) (aV (b++[a]))/\zu w j (U d)/\(U g=U d\/U g=V w.heap.size):=by
 obtain⟨D,r,A,x,z⟩:=info_parts kK;have t:∀(k:Nat) (o:zt),[Value.string a.1,iQ a.2][k]?=V o->zn w (((aQ f 0):Addr).add k)=V o:=by
  intro k o c;have s:=(eE c);simp at s;match k,s,c with
  |0,_,c=>simp at c;subst c;exact J
  |1,_,c=>simp at c;subst c;exact L
 have q:∀E∈[Value.string a.1,iQ a.2],E.oneCell'=true:=by intro E y;simp at y;rcases y with rfl|rfl<;>rfl
 obtain⟨g,j,v,G,H,_⟩:=run_append_own (P:=ze) w i 50 m 52 D (.agg #[.string ⟨#[]⟩,iQ 0]) 2 24 yl r A x z rfl (by decide) d (Z b) (aV b) u (aQ f 0) 1 l [.string a.1,iQ a.2] rfl t q (by unfold maxLen;omega) (by omega) I;exact⟨g,j,v,by rw[sA];exact G,H,aB9 w i 50 m 52 D (.agg #[.string ⟨#[]⟩,iQ 0]) 2 24 yl r A x z (by decide) d (Z b) (aV b) u M (aQ f 0) 1 l [.string a.1,iQ a.2] rfl t q (by unfold maxLen;omega) (by omega) v⟩
theorem bEp{m:Array Oper}{a:Oper}{b:Act}{w:zw}{K:Act->zw->Prop}{s:Exit->Act->zw->Prop}{r:Prop}(z:a.guard=zl)(o q:Operand)
  (D:a.op=.call {callee:=.builtin .append,args:=#[o,q],argTypes:=#[50,50]}) (i:Nat) (d:zt) (c:List Nd) (H:b.eval o=d) (E:zh w i 52 2 d (Z c) (aV c)) (L:U d≠zl) (A:Z c<=1000000) (y:i<=w.heap.size)
  (j l:Nat) (k:Nd) (N:b.eval q=sQ j 1 l) (I:cQ w j 0 (.string k.1)) (J:cQ w j 1 (iQ k.2))
  (t:∀f g,zh g i 52 2 f (Z c+1) (aV (c++[k]))->zu w g (U d)->(U f=U d\/U f=V w.heap.size)->K (b.put a.dst f) g):if Region.wanted a (yielded m b.tmps)=zq then Oper.wp ze a b w K s else r:=by
 have M:Region.wanted a (yielded m b.tmps)=true:=by simp[Region.wanted,z]
 rw[aT M];obtain⟨f,g,G,u,v,x⟩:=aQi w a.type i d c E L A y j l k I J;unfold Oper.wp execOp;simp only[D,resolve,invoke,builtin,Sem.run_bind,Sem.run_pure,Result.andThen_ok,List.map_toArray,List.map_cons,List.map_nil,H,N,G];exact t f g u v x
structure aQj(w:zw)(B tb:Nat)(vn ve vl vs vm:zt)(L:List Nd)(F:List Nat)(S:List Int)(B1:Nat)(v:zt)(out:List Nd)(v':zt)(w':zw):Prop where
 tm:cE w' B tb vn ve vl vs vm L F S
 row:zh w' B1 52 2 v' (Z out) (aV out)
 some:U v'≠zl
 far:zu w w' (U v)
 moved:dM w v v'
structure pX(w:zw)(B tb:Nat)(vn ve vl vs vm:zt)(L:List Nd)(F:List Nat)(S:List Int)(B1:Nat)(v:zt)(out:List Nd)(ex:Nat->List Nd)(nb N0:Nat)(pre:List Nat)(W:zw):Prop where
 big:N0<=W.heap.size
 tm:cE W B tb vn ve vl vs vm L F S
 st:∃v',zn W (aQ nb 0)=V v'/\zh W B1 52 2 v' (Z (out++(pre.map ex).flatten)) (aV (out++(pre.map ex).flatten))/\U v'≠zl/\dM w v v'/\U v'≠V nb/\U v'≠V w.heap.size/\(∀k,N0<=k+2->k<N0->U v'≠V k)
 nf:zs W (aQ nb 0)=Y
 far:zu w W (U v)
 x0:zn W (aQ w.heap.size 0)=V (pQ tb)
theorem aQk{g:zw}{d:Nat}{f:zt}{b:Option Nat}(a:zh w B e d f n xs)(j:zu w g b)(k:∀c,b=V c->∃i:Obj,w.heap[c]?=V i/\i.isCells=Y):zh g B e d f n xs:=eW a j (aBq a k)
theorem pX.own{r:Nat}{u:zt}{j:List Nd}{s:zt}{o:List Nd}{ex:Nat->List Nd}{m N:Nat}(v:w.heap.size<=N):OwnFrom N (λ(pre:List (rF C)) W=>pX w B r vn ve vl u vm j F S B1 s o ex m N0 (pre.map λx=>x.1) W):=by
 intro pre W W' q b a g;have d:∀c,q=V c->∃i:Obj,W.heap[c]?=V i/\i.isCells=false:=λc e=>(g c e).2
 obtain⟨t,f,k,l⟩:=b.st;exact⟨zj b.big a.size,b.tm.others a d,⟨t,cell_kept f a d,aQk k a d,l⟩,(frozen_kept f a d).trans b.nf,rH b.far a (λc e=>by have:=(g c e).1;omega),cell_kept b.x0 a d⟩
theorem aQl{d:Gr}{f:Nat->Nat->Prop}{j:Nat->Nat}(x:gL d f)(v:fU d f)(u:d.Arity)(y:∀a b,f a b->j a=j b){g:List Nat}{i:List Nd}(k:aX d f j g i):∃c:Nat->List Nd,(∀a∈g,aX d f j [a] (c a))/\(∀a∈g,Z (c a)<=Z i)/\(g.map c).flatten=i:=by
 induction g generalizing i with
 |nil=>cases k;exact⟨λ_=>[],by simp,by simp,rfl⟩
 |cons a r ih=>
  obtain⟨l,A,rfl,t,m⟩:=k.split [a] r rfl;obtain⟨c,o,q,s⟩:=ih m;have z:∀b∈r,b=a->c b=l:=by grind[aX.one]
  refine⟨λb=>if b=a then l else c b,?_,?_,?_⟩;all_goals grind[y4,List.map_congr_left]
attribute [local go_sem] yz
theorem aEr{i:Nat}{b:zt}(f:zh w B e i b n xs)(g:U b≠zl):∃a c,b=sQ a n c:=by
 obtain⟨_,⟨rfl,_⟩|⟨a,d,j,rfl,_⟩⟩:=f
 .exact absurd rfl g
 exact⟨a,d,rfl⟩
theorem aQm(w:zw)(a b:zt)(c d:TypeId):∃W,W=(w.alloc (.cells #[a] c)).alloc (.cells #[b] d)/\aB w W/\cQ W w.heap.size 0 a/\cQ W (w.heap.size+1) 0 b/\zs W (aQ (w.heap.size+1) 0)=Y/\W.heap.size=w.heap.size+2:=by refine⟨_,rfl,(aI _ _).alloc (by simp) _,?_,?_,?_,by simp⟩;all_goals simp_all
def aQn(b:Exit->Act->zw->Prop):Exit->Act->zw->Prop
 | .panic _,_,_=>False
 |e,a,w=>b e a w
theorem bEq{d:Code}{c:Exit->Act->zw->Prop}{b:Act}(a:d.wp ze (aQn c) b w):d.wp ze c b w:=
 Code.wp_mono (λe b w a=>by cases e<;>first|exact a|exact False.elim a) a
theorem aQo{a:Nat}{j k:zt}{d:Obj}(c:zu (w2.drew.alloc d) w3 (V a))(o:cQ w2 w.heap.size 0 j)(i:cQ w2 (w.heap.size+1) 0 k)(q:zs w2 (aQ (w.heap.size+1) 0)=Y)(l:w.heap.size≠a)(f:w.heap.size+1≠a):cQ w3 w.heap.size 0 j/\cQ w3 (w.heap.size+1) 0 k/\zs w3 (aQ (w.heap.size+1) 0)=false:=by
 have b:aB w2 (w2.drew.alloc d):=(aN (w1:=w2.drew) ⟨1,rfl⟩).alloc (zi _) d;have m:=aC b o;have g:=aC b i;refine⟨c.cell m (by simpa using l),c.cell g (by simpa using f),?_⟩;rw[z5 (c.block _ (zo _ _ g) (by simpa using f)),b.frozen (p:=(aQ (w.heap.size+1) 0)) (zo _ _ i)];exact q
theorem bEr{a:Exit->Act->zw->Prop}{b:Act}(c:a .normal b w):aQn a .normal b w:=c
theorem bEs{t:zw}{i:Nat}{l:zt}{j:List Nd}{d cv a c:Nat}{b:List Nd}{s:Nd}{ex:Nat->List Nd}{f:Obj}(G:cE t B i vn ve vl l vm j F S)(m:cE w B i vn ve vl l vm j F S)(I:aB w w2)(H:t.heap.size<=B1)(M:B1<=d/\d<w.heap.size)(g:zu (w2.drew.alloc f) w3 (V d))(R:cQ w2 w.heap.size 0 (pQ i)){X:zt}(r:cQ w2 (w.heap.size+1) 0 X)(T:zs w2 (aQ (w.heap.size+1) 0)=Y)
  (N:zh w3 B1 52 2 (sQ a (Z b+1) c) (Z b+1) (aV (b++[s]))) (k:U (sQ a (Z b+1) c)=V d\/U (sQ a (Z b+1) c)=V (w2.drew.alloc f).heap.size):pX w B i vn ve vl l vm j F S B1 (sQ d (Z b) cv) (b++[s]) ex (w.heap.size+1) (w.heap.size+2) [] (zr w3 (aQ (w.heap.size+1) 0) (sQ a (Z b+1) c)):=by
 have J:aB w2 (w2.drew.alloc f):=(aN (w1:=w2.drew) ⟨1,rfl⟩).alloc (zi _) f;have o:aB w (w2.drew.alloc f):=bE I J;obtain⟨y,z,A,D,E⟩:=G.lts (zj H M.1);have Q:=(m.below o).grown g y (zd z) (zd A) (zd D) (zd E);obtain⟨u,v,x⟩:=aQo g R r T (by omega) (by omega);have a2:w.heap.size+1<w2.heap.size:=zo _ _ r;have a3:=g.size;have P:(w2.drew.alloc f).heap.size=w2.heap.size+1:=by simp
 have L:a=d\/a=w2.heap.size+1:=by simp only[U,Option.some.injEq]at k;rw[P]at k;exact k
 have q:a≠w.heap.size+1/\a≠w.heap.size:=by omega
 have a4:(zr w3 (aQ (w.heap.size+1) 0) (sQ a (Z b+1) c)).heap.size=w3.heap.size:=by simp[zr]
 refine⟨by omega,Q.boxed m (by omega) 0 _,⟨_,zp _ _ _ (by rw[v];rfl),?_,by simp[U],?_,by simpa[U]using q.1,by simpa[U]using q.2,?_⟩,?_,pW (aBv o g) (by omega) 0 _,jF u (by omega)⟩
 .have:=uX N (p:=(aQ (w.heap.size+1) 0)) (by simp[U];omega) (sQ a (Z b+1) c);simpa using this
 .rcases L with e|e
  .exact z9 (by simp[U,e])
  exact zd ⟨a,rfl,by omega⟩
 .intro a5 a0 a1 e;simp[U]at e;omega
 rw[zk];exact x
theorem bEt{f:Nat}{a:zt}(g:zh w B e f a n xs)(i:U a≠zl):∃c d b,a=sQ c d b:=by grind[aEr]
theorem bEu{ex:Nat->List Nd}(c:∀a∈C,1<=Z (ex a)):Z C<=Z ((C.map ex).flatten)/\∀b∈C,Z (ex b)+Z C<=Z ((C.map ex).flatten)+1:=by
 induction C with
 |nil=>simp
 |cons a C ih=>
  grind
theorem bEv{pre:List Nat}{ex:Nat->List Nd}{M:Nat}(b:∀a∈pre,Z (ex a)<=M):Z ((pre.map ex).flatten)<=Z pre*M:=by
 induction pre with
 |nil=>simp
 |cons a C ih=>
  grind[y4,z7,zb,yg,Nat.add_mul]
theorem bEw{j k M e:Nat}(b:j<k)(c:k+M=n)(a:e<=M):1+j*M+e*e<=n*n:=by subst c;have d:e*e<=M*M:=Nat.mul_le_mul a a;have f:j*M<=k*M:=Nat.mul_le_mul_right _ (z6 b);have g:0<k*k:=Nat.mul_pos (by omega) (by omega);grind
theorem pX.boxes{c:zw}{l:Nat}{o:zt}{f:List Nd}{m:zt}{k:List Nd}{g:Nat->List Nd}{d:Nat}(b:pX w B l vn ve vl o vm f F S B1 m k g d N0 [] W)(a:aB W c)(y:c.heap.size=W.heap.size+2):pX w B l vn ve vl o vm f F S B1 m k g d c.heap.size [] c:=by
 obtain⟨v,i,j,q,r,s,t,x⟩:=b.st;refine⟨zi _,b.tm.below a,⟨v,aC a i,bF j a (zi _),q,r,s,t,?_⟩,(a.frozen (p:=(aQ d 0)) (zo _ _ i)).trans b.nf,aMz b.far (dM.refl _ _) ?_,aC a b.x0⟩
 .intro u z A e;have:=(bS j u e).2;omega
 exact jL a
theorem pX.next{o:Nat}{q:zt}{j:List Nd}{s:zt}{g:List Nd}{c:Nat->List Nd}{a x:Nat}{i:List Nat}(D:cE w B o vn ve vl q vm j F S)(f:pX w B o vn ve vl q vm j F S B1 s g c a N0 i W)(Q:w.heap.size<a)(N:a<N0){b n l:Nat}{v2:zt}(t:cQ W a 0 (sQ b n l))(z:dM w s (sQ b n l))(L:b≠a)(M:b≠w.heap.size)(E:∀k,N0<=k+2->k<N0->b≠k)
  (d:aQj W B o vn ve vl q vm j F S B1 (sQ b n l) (g++(i.map c).flatten++c x) v2 W'):pX w B o vn ve vl q vm j F S B1 s g c a N0 (i++[x]) (zr W' (aQ a 0) v2)/\cQ W' a 0 (sQ b n l)/\zs W' (aQ a 0)=false:=by
 have m:zu W W' (V b):=d.far;have T:=m.size;have P:=f.big;have u:=m.cell t (by simp;omega);have v:zs W' (aQ a 0)=false:=(z5 (m.block a (zo W (aQ a 0) t) (by simp;omega))).trans f.nf;have r:U v2=V b\/∃k,U v2=V k/\W.heap.size<=k:=d.moved;have R:(zr W' (aQ a 0) v2).heap.size=W'.heap.size:=by simp[zr]
 have A:U v2≠V a:=by rcases r with e|⟨k,e,y⟩<;>rw[e]<;>simp<;>omega
 have G:U v2≠V w.heap.size:=by rcases r with e|⟨k,e,y⟩<;>rw[e]<;>simp<;>omega
 have H:=f.far.size;refine⟨⟨by omega,d.tm.boxed D (by omega) 0 _,⟨v2,zp _ _ _ (by rw[u];rfl),?_,d.some,z.trans d.moved H,A,G,?_⟩,?_,pW (aMz f.far z d.far) (by omega) 0 _,jF (m.cell f.x0 (by simp;omega)) (by omega)⟩,u,v⟩
 .have:=uX d.row (p:=(aQ a 0)) (λe=>A e.symm) v2;have e:g++((i++[x]).map c).flatten=g++(i.map c).flatten++c x:=by simp
  rw[e];exact this
 .intro k I J;rcases r with e|⟨X,e,y⟩<;>rw[e]<;>simp
  .exact E k I J
  omega
 rw[zk];exact v
theorem bEx(B k:Nat)(vn ve vl R vm:zt)(b:List Nd)(F:List Nat)(S:List Int)(rt g2:Nat->Nat)(g7:dV b)(a5:jP F rt g2)(g8:nD b rt)(g5:fP (aF b) (λE i=>rt E=rt i) λ_ _=>False)(k4:zw)(h0:cE k4 B k vn ve vl R vm b F S)(B1:Nat)(g4:k4.heap.size<=B1):∀(d0:Nat) (o:Nat) (m c:List Nd) (z:zt) (w:zw),Z m<d0->aX (aF b) (λE i=>rt E=rt i) rt [o] m->cE w B k vn ve vl R vm b F S->zh w B1 52 2 z (Z c) (aV c)->U z≠zl->B1<=w.heap.size->Z c+Z m*Z m<=1000000->o<Z b->
  Calls ze 130 #[pQ k,z,iQ o] w λe f0=>∃Q,e=.returned Q/\aQj w B k vn ve vl R vm b F S B1 z (c++m) Q f0:=by
 obtain⟨c3,g9⟩:=aQe g5 (vN rt);intro d0;induction d0 with
 |zero=>intro o m c z w e3;omega
 |succ d0 ih=>
  intro o m c z w e3 c4 t c7 j7 r3 e6 h4;have o7:Z c+Z m<=1000000:=zj (Nat.add_le_add_left (Nat.le_mul_self _) _) e6;have m2:=O e6;clear e6;obtain⟨A,c1,rfl⟩:=aEr c7 j7;have h8:=bS c7 A rfl;obtain⟨k5,j8,a6,q7,f1,n4,s2⟩:=aQm w (pQ k) (sQ A (Z c) c1) 113 50;have b5:=O (aI8 B k vn ve vl R vm b F S rt g2 o k5 (t.below a6) a5 h4);have j3:rt o<Z b:=by rw[<-t.lf];exact a5.rt_lt (by rw[t.lf];exact h4)
  have e5:=a5.rt_rt o;obtain⟨q2,D⟩:∃n,b[rt o]?=V n:=⟨b[rt o],zg j3⟩;obtain⟨g3,g1,rfl,d6,d7⟩:=(t.below a6).node D;have m8:=(t.below a6).c0;have o4:=t.few;have c0:=O t;have a0:=O a6;have f9:=O c4;have f6:=O c7;have b6:=O c3;have b8:=O g9;have l6:=O g8;have q9:=O a5;have m4:=O ih;have l3:=O e3;obtain⟨g,l⟩:=q2;simp only at d6 d7;obtain⟨d,b1⟩:∃d,d=rt o:=⟨_,rfl⟩;rw[<-b1]at j3 e5 D d6 d7 b5;have d4:=O b1;have d3:=O e5;have b9:=O D;have s0:(d:Int)<(Z b:Int):=by omega
  have T:=O (λb4=>sJ g l b4);clear t a6 c4 c7 j7 c3 g9 g8 a5 ih e3 b1 e5 D g5;refine(callsIn_wide (n:=3)).1 ?_;refine callsIn_of_wp_marks Tryz.func130 rfl trivial ?_;simp only[Tryz.ntmps130,yn,zb,yy,ye,yd,yw,yv,ym,yt,yi,yk];refine wpIn_wide.2 ?_;by_cases c8:g.toList.isEmpty=zq
  .rw[c8]at T;have c9:aK (g,l)=true:=c8;have a9:∀i,rt d=rt i->¬(aF b).named i:=by
    intro i e e0;have:=l6.o i e0;rw[<-e,d3.o,iF b9.o,c9]at this;cases this
   have e2:m=[(⟨#[]⟩,(d:Int))]:=by have a4:aX (aF b) (λE i=>rt E=rt i) rt [o] [(⟨#[]⟩,((rt o:Nat):Int))]:=aX.var (λi e e0=>a9 i (by rw[d3.o,d4.o];exact e) e0) aX.nil;have c2:=f9.o.one b6.o b8.o (sZ b) (λ_ _ e=>e) _ a4;rw[c2,d4.o]
   subst e2;have k8:=O (λ(w2:zw) (j:aB k5 w2)=>aQi (w2.alloc (.cells #[.string ⟨#[]⟩,iQ d] 52)) 50 B1 _ c ((bF (bF f6.o a0.o (zi _)) j (zi _)).alloc _) (by simp[U]) (by omega) (by have:=a0.o.size;have:=j.size;simp;omega) w2.heap.size 1 (⟨#[]⟩,(d:Int)) (zO _ _ _ _).1 (zO _ _ _ _).2);subst j8;clear a9 c9;go_wp2_with(first
    |(go_at_call 128;refine(aD b5).mono ?_;rintro e f0 ⟨rfl,rfl⟩)
    |(go_at_call 89;refine(aD T _).mono ?_;rintro e w2 ⟨rfl,j⟩;have G:=aC j f1;have I:=O j;obtain⟨d1,w3,j2,b0,a7,b3⟩:=k8.o w2 j;have m1:=O j2;have l9:=O b0;have f3:=O a7;have f8:=O b3;clear j j2 b0 a7 b3)
    |(at_builtin;refine Go.Lib.wpList_append_run _ rfl _ _ _ _ rfl _ _ rfl rfl _ _ (aD m1) ?_)
    |go_in)
   refine yM (v:=d1) rfl (by simp[results,Tryz.results130,go_sem]) ?_;have d9:aB w (w2.alloc (.cells #[.string ⟨#[]⟩,iQ d] 52)):=(bE a0.o I.o).alloc (zj a0.o.size I.o.size) _;obtain⟨m9,n0,n1,n2,n3⟩:=h0.lts (zj g4 h8.1);exact⟨d1,rfl,⟨(c0.o.below d9).grown f3.o m9 (zd n0) (zd n1) (zd n2) (zd n3),by simpa using l9.o,by rcases f8.o with e|e<;>rw[e]<;>simp[U],aBv d9 f3.o,by
    rcases f8.o with e|e
    .exact z9 e
    exact zd ⟨_,e,d9.size⟩⟩⟩
  have c9:aK (g,l)=false:=by simpa[aK]using c8
  rw[show g.toList.isEmpty=Y by simpa using c8]at T;have e4:(aF b).named d:=by rw[iF b9.o];exact c9
  have j4:rt o=rt d:=by rw[d3.o,d4.o]
  obtain⟨s,o6,h2⟩:∃s,m=(g,l)::s/\aX (aF b) (λE i=>rt E=rt i) rt ((aF b).ch d) s:=by
   have c4:=f9.o;cases c4 with
   |var a4 _=>exact absurd e4 (a4 d j4)
   |@name _ i _ s a4 c2 h3=>
    have h9:rt i=rt d:=a4.symm.trans j4;refine⟨s,by rw[b8.o i d h9 c2 e4,pR b9.o],?_⟩;rw[List.append_nil]at h3;exact h3.same b6.o (λ_ _ e=>e) _ (aA8 b6.o b8.o (sZ b) h9 c2 e4)
  subst o6;have r9:Z c+(Z s+1)<=1000000:=by simpa using o7
  obtain⟨C,d8⟩:∃C,(aF b).ch d=C:=⟨_,rfl⟩;rw[d8]at h2;obtain⟨v,h6,o3,h7⟩:=aQl b6.o b8.o (sZ b) (λ_ _ e=>e) h2;obtain⟨x,g0,rfl,_⟩:=c0.o.ends (by omega);subst j8;go_upto_region 4 with(first
   |(go_at_call 128;refine(aD b5).mono ?_;rintro e f0 ⟨rfl,rfl⟩)
   |(go_at_call 89;refine(aD T _).mono ?_;rintro e w2 ⟨rfl,j⟩;have e8:=aC j q7;have G:=aC j f1;have k0:=(j.frozen (p:=(aQ (w.heap.size+1) 0)) (zo _ _ f1)).trans n4;have s5:=aC j d6;have s6:=aC j d7;have s7:=aC j m8;have I:=O (bE a0.o j);clear j)
   |go_in)
  have p4:=I.o.size;have r5:w.heap.size+1<w2.heap.size:=zo _ _ G;have f7:=O (bF f6.o (I.o.trans ((aN (w1:=w2.drew) ⟨1,rfl⟩).mono p4)) (zi _));have b7:=O (λ(w3:zw) (L:zu (w2.drew.alloc (.cells #[.string g,iQ l] 52)) w3 (V A))=>aQo L e8 G k0 (by omega) (by omega));have p8:=λa1=>aC (aI w2 a1) G
  have p9:=λa1=>aC (aI w2 a1) e8
  have s1:(0:Int)<=(d:Int):=yr _;have f5:=O (λ(w3:zw) (a3 a2:Nat) (L:zu (w2.drew.alloc (.cells #[.string g,iQ l] 52)) w3 (V A)) (o9:zh w3 B1 52 2 (sQ a3 (Z c+1) a2) (Z c+1) (aV (c++[(g,l)]))) (p3:U (sQ a3 (Z c+1) a2)=V A\/U (sQ a3 (Z c+1) a2)=V (w2.drew.alloc (.cells #[.string g,iQ l] 52)).heap.size)=>bEs (cv:=c1) (ex:=v) h0 c0.o I.o g4 h8 L e8 G k0 o9 p3);go_cut [24] from 24 to 33 (λk2 b4=>k2=k2/\pX w B k (sQ g3 (Z b) g1) (sQ x (Z b) g0) vl R vm b F S B1 (sQ A (Z c) c1) (c++[(g,l)]) v (w.heap.size+1) (w.heap.size+2) [] b4)
  case first=>
   refine bEq ?_;go_region_law (refine bEp (by rfl) _ _ (by rfl) B1 _ c (by rfl) (f7.o.alloc _) (by simp[U]) (by omega) (by simp;omega) w2.heap.size 1 (g,l) (by rfl) (zO _ _ _ _).1 (zO _ _ _ _).2 ?_;intro d1 w3 b0 a7 b3;have p2:U d1≠none:=(by rcases b3 with e|e<;>rw[e]<;>simp[U]);obtain⟨a3,a2,rfl⟩:=aEr b0 p2;obtain⟨r0,r1,r2⟩:=b7.o w3 a7);all_goals
    refine bEr ?_;go_wp2_with fail;go_meet;case rel=>exact⟨by first|rfl|trivial,f5.o w3 a3 a2 a7 b0 b3⟩
  case rest=>
   obtain⟨_,c5⟩:=hcut;have f2:=O (λb4=>aIp k d b4);have q8:=c5.x0;have l5:=O c5;have s4:=c5.big;clear c5 b5 T f5 b7 f7 p8 p9;have q1:=λa1=>aC (aI wc a1) q8
   go_wp2_with(first
    |(go_at_call 129;refine(aD f2 _).mono ?_;rintro e t1 ⟨rfl,rfl⟩)
    |go_in)
   clear q1 f2;obtain⟨H,j9,o1,q4,q3,_,p1⟩:=aQm wc (pQ k) (iQ d) 113 3;rw[<-j9];clear j9;have g6:=l5.o.boxes o1 p1;have n7:oH H (wc.heap.size+1) wc.heap.size k x b d:=oH.of g6.tm (by omega) q3 q4;have s3:=(bA h0.box);have r8:=(bS h0.re x rfl).2;have i3:∀f∈[wc.heap.size+1,wc.heap.size,k,x],f<H.heap.size:=by intro f r;simp at r;rcases r with rfl|rfl|rfl|rfl<;>omega
   have D:=b9.o;refine(wpIn_wide (n:=3)).1 ?_;refine wpIn_rangeFunc_ownG rfl (by omega) (gf:=152) (lb:=#[pQ (wc.heap.size+1),pQ wc.heap.size]) rfl trivial (enters_of yb (by kernel_rfl) rfl)
    (encs:=λa:rF C=>#[iQ (a.1:Nat)]) (Kp:=lG [wc.heap.size+1,wc.heap.size,k,x]) (S:=λxs=>xs.map (λa=>a.1)=C) (Sp:=λu=>u.map (λa=>a.1) <+: C) (N:=Z C) (w0:=H)
    (λm m5 m6 W n9 n8 r4 o0 h0=>by
     have:=aIa 2 m (wc.heap.size+1) wc.heap.size k x b d (g,l) C d8 (by omega) g7 o4 D m5 m6 _ n8 o0 W (n7.kept (aId n9 i3)) h0;simpa using this)
    (λt f=>t.trans f) (lG.put i3) (dP) (λ_=>rfl)
    (λu W=>pX w B k (sQ g3 (Z b) g1) (sQ x (Z b) g0) vl R vm b F S B1 (sQ A (Z c) c1) (c++[(g,l)]) v (w.heap.size+1) H.heap.size (u.map λa=>a.1) W)
    (λd5 u W=>False)
    (pX.own (by omega)) (λd5=>by intro _ _ _ _ t;cases t) ?h0 ?a1 ?assign ?body ?done ?stop
   case h0=>exact g6
   case assign=>
    intro m a W K hK;gi_wp2
    exact hK
   case body=>
    rintro m u a W q o8;obtain⟨Q,h5,y,b2,a8,i7,i9,j1⟩:=q.st;have p6:a.1<Z b:=aIf g7 D a.1 (by rw[d8];exact a.2);obtain⟨J,d5,rfl⟩:=aEr y b2;have p5:=o3 a.1 a.2;have i6:∀d2∈C,1<=Z (v d2):=λd2 e7=>(h6 d2 e7).pos
    have j5:Z (c++[(g,l)]++((u.map λa=>a.1).map v).flatten)+Z (v a.1)*Z (v a.1)<=1000000:=by
     obtain⟨q5,e9⟩:=bEu i6;rw[h7]at q5 e9;have q6:=bEv (pre:=u.map λa=>a.1) (ex:=v) (M:=Z s+1-Z C) (λd2 e7=>by
      obtain⟨k6,_,rfl⟩:=List.mem_map.1 e7;have:=e9 k6.1 k6.2;omega)
     rw[List.length_map]at q6;have s8:=e9 a.1 a.2;have s9:=bEw (j:=Z u) (k:=Z C) (M:=Z s+1-Z C) (e:=Z (v a.1)) (n:=Z s+1) o8 (by omega) (by omega);have t0:Z c+(Z s+1)*(Z s+1)<=1000000:=by simpa using m2.o
     simp only[z7,zb,yy];omega
    have n6:B1<=W.heap.size:=by have:=q.far.size;omega
    have k7:=O (m4.o a.1 (v a.1) _ _ W (by have:=l3.o;simp at this;omega) (h6 a.1 a.2) q.tm y b2 n6 j5 p6);have o5:=bS y J rfl;have r6:=q.big;have i8:J≠w.heap.size+1:=by simpa[U]using i7
    have j0:J≠w.heap.size:=by simpa[U]using i9
    have c6:∀f,H.heap.size<=f+2->f<H.heap.size->J≠f:=λf G p7=>by simpa[U]using j1 f G p7
    have e1:∀f∈[wc.heap.size+1,wc.heap.size,k,x],f<W.heap.size/\f≠J:=by
     intro f r;simp at r;rcases r with rfl|rfl|rfl|rfl
     .exact⟨by omega,(c6 _ (by omega) (by omega)).symm⟩
     .exact⟨by omega,(c6 _ (by omega) (by omega)).symm⟩
     .exact⟨by omega,by omega⟩
     exact⟨by omega,by omega⟩
    have i1:∀f∈[wc.heap.size+1,wc.heap.size,k,x],f≠w.heap.size+1:=by intro f r;simp at r;rcases r with rfl|rfl|rfl|rfl<;>omega
    have l8:=O (λ(W':zw) (k3:zt) b1=>pX.next (x:=a.1) (W':=W') (v2:=k3) c0.o q (by omega) (by omega) h5 a8 i8 j0 c6 b1);have l1:=O (λ(W':zw) (L:zu W W' (V J))=>And.intro (aBu H.heap.size L (aBp y rfl)) (aIg L e1));have l2:=O (λ(W':zw) (p0:W.heap.size<=W'.heap.size) (z:zt) (f:Nat) r=>(cD W' (aQ (w.heap.size+1) 0) z).block f (za (e1 f r).1 p0) (by simpa using i1 f r));have t2:=q.x0;clear q y b2 a8 i7 i9 j1 j5 i6 p5 e1 i1 i8 j0 c6 o5;generalize Z (c++[(g,l)]++((u.map λa=>a.1).map v).flatten)=n at *;gi_wp2_with (first
     |(refine⟨trivial,?_⟩;gi_at_call 130;refine(yh m (callsIn_wide.2 (aD k7))).mono ?_;rintro e W' ⟨k3,rfl,P⟩;obtain⟨n5,q0,m7,rfl⟩:=bEt P.row P.some;obtain⟨i4,o2,r7⟩:=l8.o W' _ P;obtain⟨i0,i2⟩:=l1.o W' P.far;have j6:=l2.o W' P.far.size (sQ n5 q0 m7);have l7:=O i4;have l0:=O i0;have b7:=O i2;have m3:=O j6;clear i4 i0 i2 j6 P)
     |fail)
    refine⟨l0.o.trans (xI _ o2 _),b7.o.trans (λf r=>m3.o f r),?_⟩;have a9:=l7.o;rw[show (u.map λa=>a.1)++[a.1]=(u++[a]).map λa=>a.1 by simp]at a9;exact a9
   case done=>
    rintro X t3 W c3 h1 q hK;obtain⟨Q,h5,y,b2,a8,_⟩:=q.st;rw[h1,h7]at y;have f4:=O q;have m0:=O y;have k9:=O hK;have l4:=O a8;clear q y hK a8;go_wp2;have hK:=k9.o;refine⟨by simp,.inl ⟨_,_,rfl,run_takeDeferred hK,?_⟩⟩;refine⟨Q,by simp[results,Tryz.results130,go_sem],?_⟩;have i5:∀d,(V X:Option Nat)=V d->∃k1:Obj,W.heap[d]?=V k1/\k1.isCells=false:=λd e=>by cases e;exact⟨_,hK,rfl⟩
    have e2:c++(g,l)::s=c++[(g,l)]++s:=by simp
    refine⟨Q,rfl,⟨f4.o.tm.others (grownBy_putObj' W X (.deferred zl)) i5,by rw[e2];exact aQk m0.o (grownBy_putObj' W X (.deferred zl)) i5,b2,rH f4.o.far (grownBy_putObj' W X (.deferred zl)) (λd e=>by cases e;omega),l4.o⟩⟩
   case stop=>
    rintro X d5 u W c3 h1 q hK;cases q
end
section
attribute [local go_sem] yz
theorem bEy{a:Nat}{c:Nat}{d:zt}(j:zh w a e c d n xs)(l:B<=a):zh w B e c d n xs:=by
 obtain⟨b,⟨rfl,k⟩|⟨i,f,g,rfl,m,o⟩⟩:=j
 .exact⟨b,z9 ⟨rfl,k⟩⟩
 exact⟨b,zd ⟨i,f,g,rfl,zj l m,o⟩⟩
structure bEz(w:zw)(B tb:Nat)(vn ve vl vs vm:zt)(L:List Nd)(F:List Nat)(S:List Int)(rt:Nat->Nat)(a:Nat)(v:zt)(b:Bool)(w':zw)(S':List Int):Prop where
 tm:cE w' B tb vn ve vl vs vm L F S'
 far:zu w w' (U vs)
 keep:bZ (aF L) (λi j=>rt i=rt j) a->tZ L rt S'/\∀p:Nat,S'[p]?=V (-1)↔S[p]?=V (-1)
 yes:b=zq->bZ (aF L) (λi j=>rt i=rt j) a/\U v≠zl/\∃l,aX (aF L) (λi j=>rt i=rt j) rt [a] l/\Z l<=500/\zh w' w.heap.size 52 2 v (Z l) (aV l)
 no:b=Y->v=nQ/\(¬bZ (aF L) (λi j=>rt i=rt j) a\/∃l,aX (aF L) (λi j=>rt i=rt j) rt [a] l/\500<Z l)
theorem bF0(B l:Nat)(vn ve vl m vm:zt)(b:List Nd)(F:List Nat)(rt v:Nat->Nat)(P:dV b)(z:jP F rt v)(j:nD b rt)(y:fP (aF b) (λE G=>rt E=rt G) λ_ _=>False)(S:List Int)(f:Nat)(w:zw)(x:cE w B l vn ve vl m vm b F S)(R:tZ b rt S)(Q:∀t:Nat,S[t]?=V (-1)->iH (aF b) (λE G=>rt E=rt G) t f)(T:f<Z b):Calls ze 98 #[pQ l,iQ f] w λe c3=>∃a6 q b5,e=.returned (.tuple #[a6,.bool q])/\bEz w B l vn ve vl m vm b F S rt f a6 q c3 b5:=by
 have H:=O (aQh B l vn ve vl m vm b F rt v P z j y (nV S+1) S f w (by omega) x R Q T);have a8:=O y;have a9:=O z;have b1:=O j;have c4:=O x.rs;clear x R Q y z j;obtain⟨c2,j,b6,b7,b8⟩:=info_parts kK;go_enter Tryz.func98,Tryz.ntmps98;go_upto_region 2 with(first
  |(go_at_call 95;refine(aD H).mono ?_;rintro e d ⟨n,q,o,rfl,g⟩)
  |go_in)
 clear H;cases q with
 |false=>
  obtain⟨rfl,X⟩:=g.no rfl;have c:=O g;clear g;go_wp2;go_ret2;refine⟨nQ,Y,o,rfl,⟨c.o.tm,c.o.far,λe=>absurd e X,λe=>(by cases e),λ_=>⟨rfl,z9 X⟩⟩⟩
 |true=>
  obtain⟨a1,a2,a3,a,a4,a5⟩:=g.yes rfl;obtain⟨i,A⟩:∃i,i=min 501 (Z a):=⟨_,rfl⟩;rw[<-A]at a5;subst a5;have c:=O g;have J:=O a1;have L:=O a2;have b0:=O a3;have u:=O a4;have M:=O A;clear g a1 a2 a3 a4 A;by_cases c5:500<i
  .have b9:(500:Int)<(i:Int):=by omega
   go_wp2;go_ret2;refine⟨nQ,Y,o,rfl,⟨c.o.tm,c.o.far,λ_=>⟨J.o,L.o⟩,λe=>(by cases e),λ_=>⟨rfl,zd ⟨a,u.o,by have:=M.o;omega⟩⟩⟩⟩
  have b9:¬(500:Int)<(i:Int):=by omega
  have c0:i=Z a:=by have:=M.o;omega
  subst c0;have D:Z a<=500:=by omega
  have b4:=O (λ(w2:zw) (r:zh w2 d.heap.size 52 2 (sQ d.heap.size 0 (Z a)) 0 []) (k:zu d w2 zl)=>bEx B l vn ve vl m vm b F o rt v P a9.o b1.o a8.o d c.o.tm d.heap.size (zi _) (Z a+1) f a [] _ w2 (by omega) u.o (c.o.tm.grown k (by simp) (by cases U vn<;>simp) (by cases U ve<;>simp) (by cases U vl<;>simp) (by cases U m<;>simp)) r (by simp[U]) k.size (by have:=Nat.mul_le_mul D D;simp;omega) T);go_wp2_with(first
   |(at_make;refine wpList_make_own _ rfl _ _ 50 rfl d.heap.size 52 c2 (.agg #[.string ⟨#[]⟩,iQ 0]) 2 yl j b6 b7 .i64 .i64 _ (Z a) rfl rfl rfl (by rw[b8];omega) (by unfold maxLen;omega) (zi _) ?_;intro w2 r k;have b2:=O r;have I:=O k;clear r k)
   |(go_at_call 130;refine(aD b4 w2 b2.o I.o).mono ?_;rintro e w3 ⟨a7,rfl,a0⟩;have b3:=O a0;clear a0)
   |go_in)
  go_ret2;have s:=b3.o;have c1:zh w3 d.heap.size 52 2 a7 (Z a) (aV a):=by simpa using s.row
  refine⟨a7,zq,o,rfl,⟨s.tm,?_,λ_=>⟨J.o,L.o⟩,λ_=>⟨b0.o,s.some,a,u.o,D,?_⟩,λe=>(by cases e)⟩⟩
  .have N:=c.o.far;exact rH (rH N I.o (λt e=>by cases e)) s.far (λt e=>by simp[U]at e;have:=N.size;omega)
  exact bEy c1 c.o.far.size
end
section
attribute [local go_sem] yz
theorem cE.cleared{k:Nat}{c:List Nd}{d j:Nat}:∀(m b:Nat) (w:zw) (S:List Int),cE w B k vn ve vl (sQ d (Z c) j) vm c F S->b+m=Z c->(∀a,a<b->S[a]?=V 0)->
  ∃f,cE (w.setCells d b (yx m (iQ 0))) B k vn ve vl (sQ d (Z c) j) vm c F f/\(∀a,a<Z c->f[a]?=V 0)/\zu w (w.setCells d b (yx m (iQ 0))) (V d):=by
 intro m;induction m with
 |zero=>
  intro b w S g r i;exact⟨S,g,λa q=>i a (by omega),World.grownBy.refl _ _⟩
 |succ m ih=>
  intro b w S g r i;obtain⟨l,o⟩:=g.sized b 0;have x:=g.ls;obtain⟨f,s,t,u⟩:=ih (b+1) _ _ l (by omega) (λa q=>by
   by_cases e:a=b
   .subst e;rw[List.getElem?_set_self (by omega)]
   rw[yf (λv=>e v.symm)];exact i a (by omega))
  exact⟨f,s,t,o.trans u⟩
theorem aBx{f:zw}{d:Option Nat}(g:∀b,d=V b->B<=b)(i:B<=w.heap.size)(a:zu w f d):Below B w f:=
 ⟨a.os,a.tape,a.output,a.size,λc j=>a.block c (by omega) (λe=>by have:=g c e.symm;omega)⟩
structure bF1(w:zw)(B tb:Nat)(vn ve vl vs vm:zt)(L:List Nd)(rt:Nat->Nat)(a b:Nat)(ok:Bool)(w':zw):Prop where
 size:w.heap.size<=w'.heap.size
 low:Below B w w'
 keep:∀k,k<w.heap.size->U vl≠V k->U vs≠V k->w'.heap[k]?=w.heap[k]?
 yes:ok=zq↔fU (aF L) (Cl (aF L) λi j=>rt i=rt j\/(i=a/\j=b))/\bZ (aF L) (Cl (aF L) λi j=>rt i=rt j\/(i=a/\j=b)) a
 st:ok=zq->∃F' S' rt' d',cE w' B tb vn ve vl vs vm L F' S'/\jP F' rt' d'/\nD L rt'/\fP (aF L) (λi j=>rt' i=rt' j) (λ_ _=>False)/\(∀i j,rt' i=rt' j↔Cl (aF L) (λi j=>rt i=rt j\/(i=a/\j=b)) i j)/\tZ L rt' S'/\∀r:Nat,S'[r]?≠V (-1)
theorem bF2(B v:Nat)(vn ve vl c0 vm:zt)(b:List Nd)(F:List Nat)(rt a5:Nat->Nat)(b4:dV b)(b3:jP F rt a5)(b5:nD b rt)(b2:fP (aF b) (λa d=>rt a=rt d) λ_ _=>False)(S:List Int)(g q:Nat)(w:zw)(j:cE w B v vn ve vl c0 vm b F S)(M:g<Z b)(d9:q<Z b):Calls ze 58 #[pQ v,iQ g,iQ q] w λe e6=>∃H:Bool,e=.returned (.bool H)/\bF1 w B v vn ve vl c0 vm b rt g q H e6:=by
 obtain⟨i,d3,f3,rfl,e2,d0,d2⟩:=j.size M;have e1:=j.ls;have e0:∀R,(Builtin.clear_ #[24] R #[sQ i (Z b) d3]).run ze w=.ok (.tuple #[]) (w.setCells i 0 (yx (Z b) (iQ 0))):=λR=>
  Lib.run_clear_slice w _ 3 R (iQ 0) Tryz.underlying24 (λw=>by obtain⟨f2,d7,d8,e9,f0⟩:=info_parts mR;simp[zeroValue,typeInfo,d7,d8]) rfl rfl i 0 _ _ (by omega) (λd P=>by
   obtain⟨d5,c9,e3,s,d4,a7,a8⟩:=j.size P;simp at s;obtain⟨rfl,_⟩:=s;rw[Nat.zero_add,a7];rfl) (λd P=>by
   obtain⟨d5,c9,e3,s,d4,a7,a8⟩:=j.size P;simp at s;obtain⟨rfl,_⟩:=s;rw[Nat.zero_add,a8])
 obtain⟨z,a9,b0,b1⟩:=cE.cleared (Z b) 0 w S j (by omega) (λa f1=>by omega);have d1:=j.c3;clear d0 d2 e2 e1;generalize w.setCells i 0 (yx (Z b) (iQ 0))=w1 at *;have T:=O (bE8 B v vn ve vl _ vm b z b4 (pS F+1) F rt a5 g q w1 (by omega) a9 b3 b5 M d9);have a1:=O j;have a0:=O b0;have x:=O b1;have c2:=O b2;have J:=O (bS j.rs i rfl).1;clear j a9 b0 b1 b3 b5 b2;go_enter Tryz.func58,Tryz.ntmps58;go_wp2_with(first
  |(go_at_call 94;refine(aD T).mono ?_)
  |go_in)
 rintro e w2 ⟨H,X,u,a6,rfl,c⟩;clear T e0 d1;have A:∀w3,zu w2 w3 (V i)->Below B w w3:=λw3 N=>by
  have d6:B<=w.heap.size:=zj J.o (z6 (bS a1.o.rs i rfl).2);have e4:=x.o.size;have e5:=c.far.size;exact((aBx (λL e=>by simp at e;subst e;exact J.o) d6 x.o).trans (aBx (λL e=>(bS a1.o.rl L e).1) (by omega) c.far)).trans (aBx (λL e=>by simp at e;subst e;exact J.o) (by omega) N)
 have D:∀w3,zu w2 w3 (V i)->∀f,f<w.heap.size->U vl≠V f->i≠f->w3.heap[f]?=w.heap[f]?:=λw3 N f l m r=>by
  have e4:=x.o.size;have e5:=c.far.size;rw[N.block f (by omega) (by simpa using λe=>r e.symm),c.far.block f (by omega) (λe=>m e.symm),x.o.block f l (by simpa using λe=>r e.symm)]
 have E:=c.sem (λa d=>rt a=rt d\/(a=g/\d=q)) (λ_ _=>False) (λa d e=>Cl.base (z9 e)) (Cl.base (zd ⟨rfl,rfl⟩)) (c2.o.mono λ_ _ e=>e.elim);cases H with
 |false=>
  have c5:=O (E.2 rfl);have y:=O (A w2 (World.grownBy.refl _ _));have I:=O (D w2 (World.grownBy.refl _ _));clear c E A D;go_wp2;go_ret;exact⟨Y,rfl,y.o.size,y.o,λf l m r=>I.o f l m (by simpa[U]using r),⟨λe=>(by cases e),λe=>absurd e.1 c5.o⟩,λe=>(by cases e)⟩
 |true=>
  obtain⟨b8,b9,G⟩:=E.1 rfl;obtain⟨l,m⟩:=G.done (vN u) b9 (λa d e=>by
   rcases e with e|⟨rfl,rfl⟩
   .exact c.mono a d e
   exact b8)
  have Q:∀o:Nat,z[o]?≠V (-1):=λo e=>by
   have t:=(eE e);rw[c.tm.ls]at t;rw[a0.o o t]at e;cases e
  have c1:=O (aQh B v vn ve vl _ vm b X u a6 b4 c.forest c.named G (nV z+1) z g w2 (by omega) c.tm (λp n e=>by
   have t:=(eE e);rw[c.tm.ls]at t;rw[a0.o p t]at e;simp at e;exact z9 e.symm) (λo e=>absurd e (Q o)) M)
  have a2:=O l;have c4:=O m;have c3:=O G;have c7:=O Q;have y:=O A;have I:=O D;have a3:=O c;clear c E A D b8 b9 G l m Q;go_wp2_with(first
   |(go_at_call 95;refine(aD c1).mono ?_;rintro e w3 ⟨n,a4,c8,rfl,k⟩;have c6:=O k;clear k)
   |go_in)
  go_ret;have k:=c6.o;have b7:=y.o w3 k.far;have b6:∀a,bZ (aF b) (λa d=>u a=u d) a↔bZ (aF b) (Cl (aF b) λa d=>rt a=rt d\/(a=g/\d=q)) a:=λa=>bZ.iff a2.o
  refine⟨a4,rfl,b7.size,b7,λf l m r=>I.o w3 k.far f l m (by simpa[U]using r),?_,?_⟩
  .cases a4 with
   |true=>exact⟨λ_=>⟨c4.o,(b6 g).1 (k.yes rfl).2.2.1⟩,λ_=>rfl⟩
   |false=>exact⟨λe=>(by cases e),λe=>absurd ((b6 g).2 e.2) (k.no rfl).2⟩
  rintro rfl;obtain⟨e7,e8,f4,f5⟩:=k.yes rfl;exact⟨X,c8,u,a6,k.tm,a3.o.forest,a3.o.named,c3.o,a2.o,e7,λo e=>c7.o o ((e8 o).1 e)⟩
end
