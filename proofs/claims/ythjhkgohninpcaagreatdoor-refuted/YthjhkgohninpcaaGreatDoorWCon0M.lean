import Derived.Test.YthjhkgohninpcaaGreatDoorXIntsM
import Derived.Test.YthjhkgohninpcaaGreatDoorVCon4M
import Derived.Test.YthjhkgohninpcaaGreatDoorSCl0M
open Array renaming getElem?_eq_some_iff→zw
open List renaming zipWith→zy,eq_nil_of_length_eq_zero→zs,getElem_mem→zr,mem_cons→zp,getElem?_eq_getElem→zo,take_of_length_le→zm,getElem?_eq_some_iff→zj,getElem?_map→zi,map_append→zg,mem_append→zf,getElem_of_mem→zc,mem_map_of_mem→zb,map_cons→za,map_nil→z3,mem_map→z4,map_toArray→z5
open Nat renaming le_refl→zz,le_trans→zx,zero_le→zh
open Or renaming inl→zq,inr→zn
open Prod renaming fst→zl
namespace Go.Proofs.YthjhkgohninpcaaGreatDoor
open _root_.Go.Proofs.Tryz renaming prog→zu,underlying179→zk,results120→ze
open Value renaming int→zd,slice→z6
open World renaming ownsRow_nil→zv,block_lt_of_cell?→zt
open Go.RowKit Go.Shelf Go.WideMaps
set_option maxHeartbeats 8000000
set_option maxRecDepth 100000
variable{up:Int}{r:List Nd}{R:List Rw}{B k tp:Nat}{nd:Nd}{P:Tb}{v v3:Value}{W w:World}
def rG(T:Tb)(a b:Nat)(n:List Nat)(ns:List Bool)(f:List Lt)(i:Bool)(e:Int):Prop:=
 (¬(eS (bC T) (Cl (bC T) (jR T a b))/\∀c,c<T.length->bK (bC T) (Cl (bC T) (jR T a b)) c)/\f=[]/\i=false/\e=0)\/
 ((eS (bC T) (Cl (bC T) (jR T a b))/\∀c,c<T.length->bK (bC T) (Cl (bC T) (jR T a b)) c)/\∃(g:Nat->Nat) (d:List (List Nd)),(∀j l,g j=g l↔Cl (bC T) (jR T a b) j l)/\aO (λr m=>aS (bC T) (Cl (bC T) (jR T a b)) g [r] m) n d/\
  ((500<aR (aU (zy Prod.mk ns d))/\f=[]/\i=false/\e=4)\/(aR (aU (zy Prod.mk ns d))<=500/\f=aU (zy Prod.mk ns d)/\i=true/\e=0)))
theorem aLj:∀(b:List (Int×Lt)) (a:List (List Nd)),dC b a=zy Prod.mk (b.map λr=>r.2.1) a
 |[],_=>rfl
 |_::_,[]=>rfl
 |r::rs,l::a=>by
  have:=aLj rs a;simp [dC] at this ⊢;exact this
theorem vU:∀(b:List (Int×Lt)) (a:Nat),(∀r∈b,0<r.2.2.length)->∀p∈bE a b,a<=p/\p<a+(aK b).length
 |[],a,_,p,hp=>by simp [bE] at hp
 |r::rs,a,h,p,hp=>by
  have f:=h r (by simp);have c:(aK (r::rs)).length=r.2.2.length+(aK rs).length:=by simp [aK]
  rw [c];simp only [bE,zp] at hp;rcases hp with rfl|hp
  ·omega
  ·have:=vU rs _ (λe d=>h e (by simp [d])) p hp;omega
theorem aLk{g:List Tg}{e:List (Int×Lt)}{i j:Nat}{b:Nat->Nat}{d:Tb}(x:Rows (g++aK e) R b)(O:d.map zl=R)(a5:hH d)(Q:i<(g++aK e).length)(S:j<(g++aK e).length)(a4:∀r∈e,0<r.2.2.length)
  {Z:List Lt} {a0:Bool} {N:Int} (y:rG d (b i) (b j) ((bE g.length e).map b) (e.map λr=>r.2.1) Z a0 N):fL g i j e Z a0 N:=by
 obtain ⟨c,G⟩ : ∃c,g++aK e=c:=⟨_,rfl⟩;rw [G] at x Q S;have m:=x.laid O Q S;have b4:d.length=R.length:=by rw [<-O];simp
 have H:∀a,a<c.length->oC c R b a=b a:=λa f=>aJ f
 have X:qP c i j↔(eS (bC d) (Cl (bC d) (jR d (b i) (b j)))/\∀o,o<d.length->bK (bC d) (Cl (bC d) (jR d (b i) (b j))) o):=by
  constructor
  ·rintro ⟨D,E⟩;refine ⟨m.clash.1 D,λo b5=>?_⟩;obtain ⟨a,f,rfl⟩:=x.onto o (by omega);rw [<-H a f];exact m.ends_to (E a f)
  ·rintro ⟨D,E⟩;exact ⟨m.clash.2 D,λa f=>m.ends_from (E (b a) (by have:=x.lt f;omega)) a (H a f)⟩
 unfold fL;rw [G];rcases y with ⟨A,rfl,rfl,rfl⟩|⟨A,l,n,F,a1,M⟩
 ·exact zq ⟨λs=>A (X.1 s),rfl,rfl,rfl⟩
 ·have Y:=X.2 A;have V:∀a u,l (oC c R b a)=l (oC c R b u)↔bU c i j a u:=λa u=>(F _ _).trans ⟨λC=>m.from C,λC=>m.to C⟩
  have a6:=vU e g.length a4;have b3:c.length=g.length+(aK e).length:=by rw [<-G];simp
  have b1:∀(q:List Nat) (n:List (List Nd)),(∀a∈q,a<c.length)->aO (λr J=>aS (bC d) (Cl (bC d) (jR d (b i) (b j))) l [r] J) (q.map b) n->∃p,aO (λa t=>aS (aF (c.map Prod.snd)) (bU c i j) (λa=>l (oC c R b a)) [a] t) q p/\aO (λt J=>aO (gZ λL b2=>∃a,L=(l (oC c R b a):Int)/\b2=(l (oC c R b a):Int)) t J) p n:=by
   intro q;induction q with
   |nil=>
    intro n _ s;cases s;exact ⟨[],aO.nil,aO.nil⟩
   |cons a q ih=>
    intro n U s;cases s with
    |cons L hx=>
     obtain ⟨p,a8,a9⟩:=ih _ (λu a7=>U u (by simp [a7])) hx;have f:=U a (by simp);obtain ⟨t,y⟩:=(Y.2 a f).exp (rep:=λa=>l (oC c R b a));obtain ⟨b6,z,I⟩:=m.exp (rd:=l) y;simp only [za,z3,H a f] at z;have a2:=z.one (Cl.isDown _ _) A.1 a5.arity (λo b0 a3=>(F o b0).2 a3) _ L;subst a2;exact ⟨t::p,aO.cons y a8,aO.cons I a9⟩
  obtain ⟨p,z,I⟩:=b1 (bE g.length e) n (λa f=>by have:=a6 a f;omega) a1;have T:=aBs (m.pairs V F) (aBu e I);rw [aLj e n] at T;rw [<-T] at M;exact zn ⟨Y,λa=>l (oC c R b a),p,V,z,M⟩
theorem aZa(w:World)(m:TypeId)(f:Nat)(v:Value)(P:Tb)(t:w.ownsRow f 206 4 v P.length (fT P))(S:P.length<=1000000)(D:f<=w.heap.size)(b g:Nat)(nd:Nd)(k:Nat)
  (I:w.cell? ⟨b,0,none⟩=some (.string nd.1)) (J:w.cell? ⟨b,1,none⟩=some (.int .i64 nd.2)) (L:w.cell? ⟨b,2,none⟩=some (.slice none 0 0)) (M:w.cell? ⟨b,3,none⟩=some (.int .i64 k)):∃c d,(Builtin.append_ #[179,179] m #[v,.slice (some ⟨b,0,none⟩) 1 g]).run zu w=.ok c d/\d.ownsRow f 206 4 c (P.length+1) (fT P++[.string nd.1,.int .i64 nd.2,.slice none 0 0,.int .i64 k])/\w.grownBy d v.ownBlock/\eU w v c:=by
 obtain ⟨A,p,z,u,y⟩:=info_parts bAl;have q:∀(l:Nat) (C:Value),[Value.string nd.1,zd .i64 nd.2,z6 none 0 0,zd .i64 k][l]?=some C->w.cell? ((⟨b,0,none⟩ : Addr).add l)=some C:=by
  intro l C a;have E:=(zj.1 a).1;simp at E;match l,E,a with
  |0,_,a=>simp at a;subst a;exact I
  |1,_,a=>simp at a;subst a;exact J
  |2,_,a=>simp at a;subst a;exact L
  |3,_,a=>simp at a;subst a;exact M
 have n:∀G∈[Value.string nd.1,zd .i64 nd.2,z6 none 0 0,zd .i64 k],G.oneCell'=true:=by intro G F;simp at F;rcases F with rfl|rfl|rfl|rfl<;>rfl
 by_cases x:v.ownBlock=none
 ·have s:v=.slice none 0 0/\P.length=0:=by
   obtain ⟨_,H|⟨b,N,O,rfl,_⟩⟩:=t
   ·exact H
   ·simp [Value.ownBlock] at x
  obtain ⟨c,d,j,i,o,Q⟩:=run_append_own (P:=zu) w w.heap.size 179 m 206 A _ 4 56 zk p z u y rfl (by decide) v P.length (fT P) (by rw [s.1,s.2];have:fT P=[]:=(by rw [zs s.2];rfl);rw [this];exact zv _ _ _ _) ⟨b,0,none⟩ 1 g [.string nd.1,.int .i64 nd.2,.slice none 0 0,.int .i64 k] rfl q n (by unfold maxLen;omega) (by omega) (zz _);refine ⟨c,d,j,eJ i D,o,?_⟩;cases hb:c.ownBlock with
  |none=>exact zq (by rw [hb,x])
  |some g'=>exact zn ⟨g',hb,(bL i g' hb).1⟩
 ·obtain ⟨c,d,j,i,o,_⟩:=run_append_own (P:=zu) w f 179 m 206 A _ 4 56 zk p z u y rfl (by decide) v P.length (fT P) t ⟨b,0,none⟩ 1 g [.string nd.1,.int .i64 nd.2,.slice none 0 0,.int .i64 k] rfl q n (by unfold maxLen;omega) (by omega) D;refine ⟨c,d,j,i,o,?_⟩;rcases aAs w f 179 m 206 A _ 4 56 zk p z u y (by decide) v P.length (fT P) t x ⟨b,0,none⟩ 1 g [.string nd.1,.int .i64 nd.2,.slice none 0 0,.int .i64 k] rfl q n (by unfold maxLen;omega) (by omega) j with e|e
  ·exact zq e
  ·exact zn ⟨_,e,zz _⟩
theorem aLl{i:Array Oper}{a:Oper}{b:Act}{w:World}{K:Act->World->Prop}{n:Exit->Act->World->Prop}{m:Prop}(u:a.guard=none)(j l:Operand)
  (y:a.op=.call {callee:=.builtin .append,args:=#[j,l],argTypes:=#[179,179]}) (f:Nat) (v:Value) (P:Tb) (C:b.eval j=v) (z:w.ownsRow f 206 4 v P.length (fT P)) (x:P.length<=1000000) (t:f<=w.heap.size)
  (c g:Nat) (nd:Nd) (k:Nat) (E:b.eval l=.slice (some ⟨c,0,none⟩) 1 g) (F:w.cell? ⟨c,0,none⟩=some (.string nd.1)) (G:w.cell? ⟨c,1,none⟩=some (.int .i64 nd.2)) (H:w.cell? ⟨c,2,none⟩=some (.slice none 0 0)) (I:w.cell? ⟨c,3,none⟩=some (.int .i64 k))
  (o:∀d e,e.ownsRow f 206 4 d (P.length+1) (fT P++[.string nd.1,.int .i64 nd.2,.slice none 0 0,.int .i64 k])->w.grownBy e v.ownBlock->eU w v d->K (b.put a.dst d) e):if Region.wanted a (yielded i b.tmps)=true then Oper.wp zu a b w K n else m:=by
 have D:Region.wanted a (yielded i b.tmps)=true:=by simp [Region.wanted,u]
 rw [aJ D];obtain ⟨d,e,A,p,q,s⟩:=aZa w a.type f v P z x t c g nd k F G H I;unfold Oper.wp execOp;simp only [y,resolve,invoke,builtin,Sem.run_bind,Sem.run_pure,Result.andThen_ok,z5,za,z3,C,E,A];exact o d e p q s
theorem aZb(a:aC w W)(e:cU w B tp v P)(b:k<P.length)(c:P[k].1.node=mR up nd)(f:aM nd=true):mW w B tp v P up (nd::r) k r W v P:=
 ⟨e.below a,fK.old f ⟨P[k].1,by rw [zi,zo b];rfl,c⟩ (fK.nil _ _),fG.below a,eU.refl _ _,λg d=>zq ⟨g,d,rfl⟩,by simp⟩
structure aFd(w:World)(B tp bx:Nat)(v v3:Value)(P:Tb)(nd:Nd)(w4:World):Prop where
 tab:cU w4 B tp v3 (P++[(⟨nd,P.length,[]⟩,.slice none 0 0)])
 far:fG w w4 tp v
 moved:eU w v v3
 b0:w4.cell? ⟨bx,0,none⟩=some (.string nd.1)
 b1:w4.cell? ⟨bx,1,none⟩=some (.int .i64 nd.2)
 blt:bx<w4.heap.size
 vne:v3.ownBlock≠some bx
 tne:bx≠tp
theorem aLm{f:World}{b:Nat}{c:Obj}(u:aC w W)(l:cU w B tp v P)(D:w.heap.size<=b)(q:W.cell? ⟨b,0,none⟩=some (.string nd.1))(A:W.cell? ⟨b,1,none⟩=some (.int .i64 nd.2))
  (d:(W.drew.alloc c).grownBy f v.ownBlock) (x:f.ownsRow B 206 4 v3 (P.length+1) (fT P++[.string nd.1,.int .i64 nd.2,.slice none 0 0,.int .i64 P.length])) (p:eU (W.drew.alloc c) v v3):aFd w B tp b v v3 P nd (f.setCell ⟨tp,0,none⟩ v3)/\f.cell? ⟨tp,0,none⟩=some v/\f.frozen? ⟨tp,0,none⟩=false:=by
 have i:aC W (W.drew.alloc c):=(aL (w1:=W.drew) ⟨1,rfl⟩).alloc (zz _) c;have j:aC w (W.drew.alloc c):=aV u i;have e:=l.below j;have G:tp<w.heap.size:=(zw.1 l.box).1;obtain ⟨s,t⟩:=e.grow d x;have m:v.ownBlock≠some b:=λa=>by have:=(bL l.row b a).2;omega
 have y:=aD i q;have z:=aD i A;have C:b<W.heap.size:=zt _ _ q;have F:=d.size;have E:(W.drew.alloc c).heap.size=W.heap.size+1:=by simp
 refine ⟨⟨s,(fG.below j).trans (eU.refl _ _) t,?_,?_,?_,?_,?_,by omega⟩,?_,?_⟩
 ·rcases p with a|⟨n,a,o⟩
  ·exact zq a
  ·exact zn ⟨n,a,zx j.size o⟩
 ·exact gL (d.cell y (λa=>m a.symm)) (by simp;omega)
 ·exact gL (d.cell z (λa=>m a.symm)) (by simp;omega)
 ·simp [World.setCell];omega
 ·intro a;rcases p with g|⟨n,g,o⟩
  ·exact m (by rw [<-g,a])
  ·rw [a] at g;simp at g;omega
 ·exact d.cell e.cell (λa=>e.ne a.symm)
 ·rw [World.frozen?_of_block (d.block tp (zw.1 e.box).1 (λa=>e.ne a.symm))];exact e.soft
theorem aZc{e:World}{f:Nat}(b:aFd w B tp f v v3 P (mR up nd) e)(j:aM nd=true)(i:∀a (c:a<P.length),P[a].1.node≠mR up nd):mW w B tp v P up (nd::r) P.length r e v3 (P++[(⟨mR up nd,P.length,[]⟩,.slice none 0 0)]):=by
 have g:(P.map zl).length=P.length:=by simp
 have hp:=fK.new (R:=P.map zl) (s:=r) (k:=0) j (λm l=>by
  obtain ⟨d,hp,rfl⟩:=z4.1 l;obtain ⟨a,c,rfl⟩:=zc hp;exact i a c) (fK.nil _ _)
 rw [g] at hp;refine ⟨b.tab,by rw [zg];exact hp,b.far,b.moved,λd hp=>?_,by simp;omega⟩;rcases zf.1 hp with hp|hp
 ·exact zq ⟨d,hp,rfl⟩
 ·simp at hp;subst hp;exact zn (zq rfl)
theorem aZd(w:World)(s:TypeId)(g:Nat)(v:Value)(f:Nat)(l:List Value)(p:w.ownsRow g 3 1 v f l)(E:f<=1000000)(x:g<=w.heap.size)(c m:Nat)(d:Int)(y:w.cell? ⟨c,0,none⟩=some (.int .i64 d)):∃a b,(Builtin.append_ #[25,25] s #[v,.slice (some ⟨c,0,none⟩) 1 m]).run zu w=.ok a b/\b.ownsRow g 3 1 a (f+1) (l++[.int .i64 d])/\w.grownBy b v.ownBlock/\eU w v a:=by
 by_cases q:v.ownBlock=none
 ·obtain ⟨N,C,M,I,L⟩:=info_parts rR;have G:v=.slice none 0 0/\f=0:=by
   obtain ⟨_,z|⟨c,O,Q,rfl,_⟩⟩:=p
   ·exact z
   ·simp [Value.ownBlock] at q
  obtain ⟨rfl,rfl⟩:=G;have J:l=[]:=zs (by have:=p.1;simpa using this);subst J;have F:∀(j:Nat) (t:Value),[zd .i64 d][j]?=some t->w.cell? ((⟨c,0,none⟩ : Addr).add j)=some t:=by
   intro j t o;have D:j=0:=by have:=(zj.1 o).1;simp at this;exact this
   subst D;simp at o;subst o;exact y
  obtain ⟨a,b,H,i,n,u⟩:=run_append_own (P:=zu) w w.heap.size 25 s 3 N (.int .i64 0) 1 8 Tryz.underlying25 C M I L rfl (by decide) (.slice none 0 0) 0 [] (zv _ _ _ _) ⟨c,0,none⟩ 1 m [.int .i64 d] rfl F (aA2 d) (by unfold maxLen;omega) (by omega) (zz _);refine ⟨a,b,H,eJ i x,n,?_⟩;cases hb:a.ownBlock with
  |none=>exact zq (by rw [hb,q])
  |some g'=>exact zn ⟨g',hb,(bL i g' hb).1⟩
 ·obtain ⟨a,b,i,n,u,A⟩:=aJu w s g v f l p q E x c m d y;refine ⟨a,b,i,n,u,?_⟩;rcases A with e|e
  ·exact zq e
  ·exact zn ⟨_,e,zz _⟩
theorem zN{n:Array Oper}{o:List Oper}{a:Oper}{d:Act}{l:Exit->Act->World->Prop}(A:a.guard=none)(p q:Operand)(D:a.op=.call {callee:=.builtin .append,args:=#[p,q],argTypes:=#[25,25]})
  (e:Nat) (v:Value) (f:Nat) (j:List Value) (G:d.eval p=v) (E:w.ownsRow e 3 1 v f j) (C:f<=1000000) (z:e<=w.heap.size) (g m:Nat) (i:Int) (I:d.eval q=.slice (some ⟨g,0,none⟩) 1 m) (H:w.cell? ⟨g,0,none⟩=some (.int .i64 i))
  (s:∀b c,c.ownsRow e 3 1 b (f+1) (j++[.int .i64 i])->w.grownBy c v.ownBlock->eU w v b->wpList zu n l o (d.put a.dst b) c):wpList zu n l (a::o) d w:=by
 refine wpList_plain A λK y=>?_
 obtain ⟨b,c,F,t,u,x⟩:=aZd w a.type e v f j E C z g m i H;unfold Oper.wp execOp;simp only [D,resolve,invoke,builtin,Sem.run_bind,Sem.run_pure,Result.andThen_ok,z5,za,z3,G,I,F];exact y _ _ (s b c t u x)
theorem aZe{x wr:World}{y i m:Nat}{d:Value}{c:Tb}{l:List Nd}{f:List Nat}(b:aFd w B tp y v v3 P nd x)(A:aM nd=false)(a:uF x B tp v3 (P++[(⟨nd,P.length,[]⟩,.slice none 0 0)]) up r (bP nd) l d f wr (.slice (some ⟨i,0,none⟩) c.length m) c)(o:P.length<c.length):mW w B tp v P up (nd::r) P.length l (wr.setCell ⟨i,P.length*4+2,none⟩ d) (.slice (some ⟨i,0,none⟩) c.length m) (c.set P.length ({c[P.length].1 with parts:=f},d)):=by
 have p:(P.map zl).length=P.length:=by simp
 have u:=b.far.size;have z:wr.ownsRow B 3 1 d f.length (jP f):=eJ a.own (zx (by have:=b.tab.high;have:=(zw.1 b.tab.box).1;omega) (zz _));have t:=a.put;rw [zg] at t;have q:=fK.name (R:=P.map zl) (n:=nd) (k:=0) (s:=r) (s1:=l) A (by rw [p];exact t) (fK.nil _ _);rw [p] at q;refine ⟨a.tab.setParts _ o f d z,by rw [bAo _ _ o];exact q,(b.far.trans b.moved a.far).setV (b.moved.trans a.moved u) rfl,b.moved.trans a.moved u,λC j=>?_,?_⟩
 ·rcases List.mem_or_eq_of_mem_set j with j|rfl
  ·rcases a.old C j with ⟨D,hq,e⟩|e|⟨g,e,E⟩
   ·rcases zf.1 hq with hq|hq
    ·exact zq ⟨D,hq,e⟩
    ·simp at hq;subst hq;rw [e];exact zn (zq rfl)
   ·exact zn (zq e)
   ·exact zn (zn ⟨g,e,by omega⟩)
  ·right;cases hb:d.ownBlock with
   |none=>exact zq rfl
   |some g=>exact zn ⟨g,rfl,by have:=(bL a.own g hb).1;omega⟩
 ·have:=a.len;simp at this ⊢;omega
theorem fG.cell{w':World}{b:Value}{p:Addr}(c:fG w w' tp v)(a:w.cell? p=some b)(d:p.block≠tp)(e:v.ownBlock≠some p.block):w'.cell? p=some b:=by have f:=c.block p.block (zt w p a) d e;rw [<-a];unfold World.cell?;rw [f]
theorem fK.ps_len{e:List Nd}{b:List Rw}{a:List Nat}{f:List Nd}(c:fK up R k e b a f):a.length=k:=by obtain ⟨g,d⟩:=c.inv;rw [d.ps,List.length_map,tV]
def aZf(w:World)(B tp:Nat)(v:Value)(P:Tb)(up:Int)(b:List Nd)(c e k a:Nat)(g:World):Prop:=
 a<=b.length/\c<=a/\bA (b.drop a) e=true/\∃(f:Value) (d:Tb),mW w B tp v P up (b.drop c) k (b.drop a) g f d
theorem aZg(B tp:Nat)(up:Int)(i2:0<=up/\up<=1000)(b2:Option Addr)(g8:Nat)(e:List Nd)(k9:e.length<=60)(h8:∀f1,b2=some f1->f1.block<B):∀(M b j:Nat) (v:Value) (P:Tb) (w:World),(e.drop b).length<=M->bA (e.drop b) (j+1)=true->dO w b2 e->cU w B tp v P->P.length+(e.drop b).length<=100000->B<=w.heap.size->
  Calls zu 119 #[.pointer (some ⟨tp,0,none⟩),.slice b2 e.length g8,.int .i64 b,.int .i64 up] w λy i9=>∃k f0:Nat,y=.returned (.tuple #[.int .i64 k,.int .i64 f0])/\aZf w B tp v P up e b j k f0 i9:=by
 intro M;induction M with
 |zero=>
  intro b j v P w c2 l;have:=zs (Nat.le_zero.1 c2);rw [this] at l;simp [bA] at l
 |succ M ih=>
  intro b j v P w c2 l X L j9 b8;have c0:b<e.length:=by apply Nat.lt_of_not_le;intro h2;rw [List.drop_eq_nil_of_le h2] at l;simp [bA] at l
  obtain ⟨j4,m2,rfl,b5,b6⟩:=X.cell b c0;have a1:e.drop b=e[b]::e.drop (b+1):=List.drop_eq_getElem_cons c0;rw [a1,uQ,Bool.and_eq_true] at l;obtain ⟨e4,l⟩:=l;have i0:=X.short b c0;have k3:(b:Int)<(e.length:Int):=by omega
  have h4:(e.drop b).length=(e.drop (b+1)).length+1:=by rw [a1];rfl
  have b0:=aA a1;have V:=aA l;have d0:=aA e4;have f7:=aA X;have n:=aA L;have g5:=aA ih;obtain ⟨O,D,rfl⟩:=aW L.row;have a0:=L.cell;have l2:tp<w.heap.size:=(zw.1 L.box).1;generalize e[b]=nd at *;obtain ⟨c,f⟩:=nd;simp only at b5 b6 i0;clear a1 l e4 X L ih;by_cases a5:c.toList.isEmpty=true
  ·have q:aM (c,f)=true:=by simpa [aM] using a5
   have a6:0<=f/\f<60:=by have:=d0.o;unfold dU at this;rw [aJ q] at this;simpa using this
   obtain ⟨l8,l9⟩:=a6;obtain ⟨l3,e7⟩:=i2;have x:=aA q;clear q;go_enter Tryz.func119,Tryz.ntmps119;go_wp2;obtain ⟨E,T⟩:=wV w (.string c) (.int .i64 (f+up)) 106;have p:aC w (w.alloc (.cells #[.string c,.int .i64 (f+up)] 106)):=(Below.refl _ _).alloc (zz _) _;generalize w.alloc (.cells #[.string c,.int .i64 (f+up)] 106)=W1 at *;have F:=aA p;clear p b5 b6;have h3:=n.o.shape;obtain ⟨m5,m6,e9,J⟩:=h3;simp at e9;obtain ⟨rfl,rfl⟩:=e9;have g1:=aA J;clear J;have d5:=aD F.o a0;clear a0;go_loopw [11] (λb wr=>∃k:Nat,k<=P.length/\b=.int .i64 k/\(∀a (A:a<k) (d7:a<P.length),P[a].1.node≠(c,f+up))/\∃o,wr=W1.drewN o) (λb _=>P.length-(intOf b).toNat);case atStart=>exact ⟨0,zh _,rfl,λa A=>by omega,0,rfl⟩
   case round=>
    obtain ⟨k,k7,rfl,e3,o,rfl⟩:=hrel;have c9:=aA e3;clear e3;by_cases d9:k<P.length
    ·have e0:(k:Int)<(P.length:Int):=by omega
     obtain ⟨h0,rfl,a7,a8,f2,c6⟩:=g1.o k d9;have j6:=aD F.o a7;have j7:=aD F.o a8;have c3:=wC P[k].1.node (c,f+up);have j8:=xX;have m4:=wD P[k].1.node.1 c P[k].1.node.2 (f+up);clear a7 a8 f2 c6;simp only at c3;by_cases z:P[k].1.node=(c,f+up)
     ·rw [eI z] at c3;have b1:=aA z;clear z;go_wp2;go_quiet (fail);go_wp2;go_ret2;refine ⟨k,b+1,aDq rfl (by go_num),by omega,by omega,?_,.slice (some ⟨h0,0,none⟩) P.length D,P,?_⟩
      ·have:=V.o;rw [mO x.o] at this;exact this
      ·rw [b0.o];exact aZb (aV F.o (aL (by first|exact jV _ _ _|exact ⟨_,rfl⟩))) n.o d9 b1.o x.o
     ·rw [dE z] at c3;have b1:=aA z;clear z;go_wp2;go_quiet (fail);go_wp2;go_roundw;case rel=>
       refine ⟨k+1,by omega,by go_num,λa A d7=>?_,(by first|exact jV _ _ _|exact ⟨_,rfl⟩)⟩;by_cases h6:a<k
       ·exact c9.o a h6 d7
       ·have:a=k:=by omega
        subst this;exact b1.o
      case measure=>simp [intOf];omega
    ·have h7:k=P.length:=by omega
     subst h7;have e0:¬((P.length:Int)<(P.length:Int)):=by omega
     have Y:aC w (W1.drewN o):=aV F.o (aL ⟨o,rfl⟩);have f4:(W1.drewN o).cell? ⟨w.heap.size,0,none⟩=some (.string c):=E;have j0:(W1.drewN o).cell? ⟨w.heap.size,1,none⟩=some (.int .i64 (f+up)):=T;have Z:(W1.drewN o).cell? ⟨tp,0,none⟩=some (.slice O P.length D):=d5;have d3:=Y.size;have d2:=zt _ _ f4;clear E T d5;generalize W1.drewN o=W2 at *;have a9:=aA Y;have a3:W2.drew.ownsRow B 206 4 (.slice O P.length D) P.length (fT P):=(n.o.below Y).row;clear Y;have b9:∀t,(W2.alloc t).cell? ⟨tp,0,none⟩=some (.slice O P.length D):=λt=>aD ((Below.refl W2.heap.size W2).alloc (zz _) t) Z
     go_wp2_with fail;go_region_law (refine aLl (by rfl) _ _ (by rfl) B _ P (by rfl) (a3.alloc _) (by omega) (by simp;omega) W2.heap.size 1 (c,f+up) P.length (by rfl) (by simp) (by simp) (by simp) (by simp) ?_;intro v3 c8 u H I;obtain ⟨G,b4,b7⟩:=aLm (nd:=(c,f+up)) a9.o n.o (zz _) f4 j0 H u I;obtain ⟨Q,N,S,rfl⟩:=yN u;have g:=aA G;clear u H I G);all_goals
      have j1:=g.o.b0;have f5:=g.o.b1;clear b4 b7 b9;generalize c8.setCell ⟨tp,0,none⟩ (.slice Q N S)=w4 at *;go_wp2;go_ret2;refine ⟨P.length,b+1,aDq rfl (by go_num),by omega,by omega,?_,.slice Q N S,P++[(⟨mR up (c,f),P.length,[]⟩,.slice none 0 0)],?_⟩
      ·have:=V.o;rw [mO x.o] at this;exact this
      ·rw [b0.o];exact aZc (nd:=(c,f)) g.o x.o (λa A=>c9.o a A A)
  ·have l5:c.toList.isEmpty=false:=by simpa using a5
   have q:aM (c,f)=false:=by simpa [aM] using a5
   have a6:0<=f/\f<=5:=by have:=d0.o;unfold dU at this;rw [aI (by rw [q];simp)] at this;simp at this;exact this.2
   obtain ⟨d,rfl⟩:=Int.eq_ofNat_of_zero_le a6.1;have l0:d<=5:=by omega
   have c5:bP (c,(d:Int))=d:=by simp [bP,q]
   rw [c5] at V;have g4:=aA c5;have x:=aA q;clear q a6 c5 a5;go_enter Tryz.func119,Tryz.ntmps119;go_wp2_with fail;obtain ⟨E,T⟩:=wV w (.string c) (.int .i64 d) 106;have p:aC w (w.alloc (.cells #[.string c,.int .i64 d] 106)):=(Below.refl _ _).alloc (zz _) _;generalize w.alloc (.cells #[.string c,.int .i64 d] 106)=W2 at *;have Z:=aD p a0;have d3:=p.size;have d2:=zt _ _ E;have a3:W2.drew.ownsRow B 206 4 (.slice O P.length D) P.length (fT P):=(n.o.below p).row;have a9:=aA p;clear p b5 b6 a0;have b9:∀t,(W2.alloc t).cell? ⟨tp,0,none⟩=some (.slice O P.length D):=λt=>aD ((Below.refl W2.heap.size W2).alloc (zz _) t) Z
   go_region_law (refine aLl (by rfl) _ _ (by rfl) B _ P (by rfl) (a3.alloc _) (by omega) (by simp;omega) W2.heap.size 1 (c,(d:Int)) P.length (by rfl) (by simp) (by simp) (by simp) (by simp) ?_;intro v3 c8 u H I;obtain ⟨G,b4,b7⟩:=aLm (nd:=(c,(d:Int))) a9.o n.o (zz _) E T H u I;obtain ⟨Q,N,S,rfl⟩:=yN u;have g:=aA G;clear u H I G);all_goals
    have j1:=g.o.b0;clear b4 b7 E T Z d2 a3 d3 b9;generalize c8.setCell ⟨tp,0,none⟩ (.slice Q N S)=w4 at *;go_wp2;have f5:=g.o.b1;have k0:=g.o.blt;have d1:(P++[((⟨(c,(d:Int)),P.length,[]⟩ : Rw),z6 none 0 0)]).length=P.length+1:=by simp
    go_loopw [2,13,14] (λg7 i6 b3 wr=>∃(a m:Nat) (C:List Nat) (c7:Value) (s:Tb),a<=d/\b3=.int .i64 a/\g7=.int .i64 m/\b+1<=m/\m<=e.length/\bA (e.drop m) (j+(d-a))=true/\uF w4 B tp (.slice Q N S) (P++[(⟨(c,(d:Int)),P.length,[]⟩,.slice none 0 0)]) up (e.drop (b+1)) a (e.drop m) i6 C wr c7 s) (λ_ _ b3 _=>d-(intOf b3).toNat);case atStart=>exact ⟨0,b+1,[],_,_,zh _,rfl,by go_num,zz _,by omega,V.o,uF.start g.o.tab⟩
    case round=>
     obtain ⟨a,m,C,c7,s,A,rfl,rfl,k4,i1,a4,i⟩:=hrel;have d4:Below B w wr:=(g.o.far.low n.o.high (λk y=>(bL n.o.row k y).1) b8).trans (i.far.low g.o.tab.high (λk y=>(bL g.o.tab.row k y).1) (zx b8 g.o.far.size));have m0:wr.cell? ⟨w.heap.size,1,none⟩=some (.int .i64 d):=i.far.cell f5 g.o.tne g.o.vne;have c1:=i.len;rw [d1] at c1;have e5:=i.put.ps_len;have h9:C.length<=1000000:=by omega
     have U:=aA i;by_cases k5:a<d
     ·have k6:(a:Int)<(d:Int):=by omega
      have e6:bA (e.drop m) ((j+(d-a-1))+1)=true:=by rw [show j+(d-a-1)+1=j+(d-a) by omega];exact a4
      have e1:(e.drop m).length<=M:=by simp at h4 c2 ⊢;omega
      have f6:=aA (g5.o m (j+(d-a-1)) c7 s wr e1 e6 (f7.o.lowB h8 d4) i.tab (by omega) (zx b8 d4.size));obtain ⟨i3,i5,i4,rfl⟩:=yN i.own;have l6:=U.o.far.size;clear i a4 e6 e5 c1 e1;go_wp2_with (first
       |(at_builtin;refine zN rfl (.tmp 89) (.tmp 91) rfl w4.heap.size _ C.length (jP C) rfl (f9.o.alloc _) h9 (by simp;omega) f3.heap.size 1 k rfl (by simp) ?_;intro m3 m7 c4 d6 e2;have f8:=aA ((U.o.next g0.o).2 d6 c4 e2);obtain ⟨j3,m1,j5,rfl⟩:=yN c4;clear c4 d6 e2)
       |(go_at_call 119;refine (aB f6).mono ?_;rintro y f3 ⟨k,i7,rfl,e7,l4,e8,i8,g6,a2⟩;have g0:=aA a2;have f9:=aA (U.o.next (X:=.map #[] 0) (w6:=f3) (pv6:=.slice none 0 0) a2).1;have l7:=a2.far.size;have g3:=aA e8;clear a2 e8)
       |go_in)
      go_roundw;case rel=>exact ⟨a+1,i7,C++[k],i8,g6,by omega,by go_num,rfl,by omega,e7,by rw [show j+(d-(a+1))=j+(d-a-1) by omega];exact g3.o,f8.o⟩
      case measure=>simp [intOf];omega
     ·have h5:a=d:=by omega
      subst h5;have e0:¬((a:Int)<(a:Int)):=by omega
      have d8:P.length<s.length:=by have:=i.put.len;rw [d1] at this;omega
      have k8:(P.length:Int)<(s.length:Int):=by omega
      obtain ⟨j2,g9,rfl,J⟩:=i.tab.shape;obtain ⟨h1,rfl,a7,a8,f2,c6⟩:=J P.length d8;have k1:=i.tab.cell;have k2:=i.tab.frozen (P.length*4+2);obtain ⟨i3,i5,i4,rfl⟩:=yN i.own;have g2:=aA a4;have l1:s.length<=1000000:=by omega
      clear a7 a8 c6 J i a4 c1 e5;go_wp2;go_ret2;refine ⟨P.length,m,aDq rfl rfl,i1,by omega,?_,.slice (some ⟨h1,0,none⟩) s.length g9,_,by rw [b0.o];exact aZe g.o x.o (by rw [g4.o];exact U.o) d8⟩;have:=g2.o;simpa using this
theorem cU.new(w:World):cU (w.alloc (.cells #[.slice none 0 0] 181)) w.heap.size w.heap.size (.slice none 0 0) []:=
 ⟨heap_alloc_new _ _,zz _,zv _ _ _ _,λb a=>by simp at a⟩
theorem aZh{b:Tb}{g:Nat->Nat->Prop}{i:Nat->Nat}{l:List Nat}{d:List Nd}(e:aS (bC b) g i l d):∀a∈d,a.1=⟨#[]⟩\/∃c,∃e:c<b.length,a=b[c].1.node:=by
 induction e with
 |nil=>intro a hn;simp at hn
 |var _ _ ih=>
  intro a hn;rcases zp.1 hn with rfl|hn
  ·exact zq rfl
  ·exact ih a hn
 |@name c j r d h1 h2 _ ih=>
  intro a hn;obtain ⟨f,_⟩:=qA h2;rcases zp.1 hn with rfl|hn
  ·exact zn ⟨j,f,nK b j f⟩
  ·exact ih a hn
theorem Rows.node{a:List Tg}{g:Nat->Nat}{c:Tb}(e:Rows a R g)(n:c.map zl=R){b:Nat}(q:b<c.length):∃d,d∈a/\c[b].1.node.1=d.2.1/\(aM d.2=true->c[b].1.parts=[])/\(aM d.2=false->c[b].1.parts.length=bP d.2):=by
 have u:c.length=R.length:=by rw [<-n];simp
 have j:R[b]?=some c[b].1:=by rw [<-n,zi,zo q];rfl
 obtain ⟨p,t,o⟩:=e.onto b (by omega);have l:a[p]?=some a[p]:=zo t;refine ⟨a[p],zr _,?_⟩;cases hv:aM a[p].2
 ·have:=e.name p _ l hv;rw [o,j] at this;simp at this;refine ⟨by rw [this],(λf=>by cases f),λ_=>?_⟩;rw [this];have s:(a.map Prod.snd)[p]?=some a[p].2:=by rw [zi,l];rfl
  simp only [List.length_map];rw [fX s,tV]
 ·obtain ⟨r,i,m⟩:=e.var p _ l hv;rw [o,j] at i;simp at i;subst i;refine ⟨by rw [m],λ_=>(e.fresh b _ j).2 (by rw [m];exact hv),λf=>by cases f⟩
theorem aZi(d:Option Addr)(i:Nat)(a:List Lt)(w:World)(b:bD w d a)(t:aR a<=1000000):Calls zu 78 #[.slice d a.length i] w λj n=>j=.returned (.int .i64 (aR a))/\n=w:=by
 have z:a.length<=4398046511104:=b.few;go_enter Tryz.func78,Tryz.ntmps78;go_wp2;go_loop [3,4] (λm c=>∃k:Nat,k<=a.length/\c=.int .i64 k/\m=.int .i64 (aR (a.take k))) (λ_ c=>a.length-(intOf c).toNat);case atStart=>exact ⟨0,zh _,rfl,rfl⟩
 case round=>
  obtain ⟨k,y,rfl,rfl⟩:=hrel;have u:=tQ a k;by_cases f:k<a.length
  ·obtain ⟨C,A,o,p,rfl,q,s,e⟩:=b.cell k f;have x:=e.few;have g:aG (aR (a.take (k+1))=aR (a.take k)+a[k].2.length):=by
    rw [List.take_succ_eq_append_getElem f,nT];exact rfl
   clear b e;go_wp2;go_round;case rel=>exact ⟨k+1,by omega,by go_num,by rw [g.o];go_num⟩
   case measure=>simp [intOf];omega
  ·go_wp2;go_ret;have l:a.take k=a:=zm (by omega);rw [l];exact ⟨rfl,rfl⟩
theorem aZj{ns:List Bool}:∀{ms:List (List Nd)},(∀a∈ms,a.length<=501)->zy Prod.mk ns (ms.map λa=>a.take 501)=zy Prod.mk ns ms:=by
 intro ms b;congr 1
 rw [List.map_congr_left (g:=id)]
 ·simp
 ·intro a c;exact zm (b a c)
theorem aFe:∀{ns:List Bool} {ms:List (List Nd)} {a:List Nd},ns.length=ms.length->a∈ms->∃n,(n,a)∈zy Prod.mk ns ms
 |[],[],a,_,hm=>by simp at hm
 |[],_::_,_,h,_=>by simp at h
 |_::_,[],_,h,_=>by simp at h
 |n::ns,x::ms,a,h,hm=>by
  rcases zp.1 hm with rfl|hm
  ·exact ⟨n,by simp⟩
  ·obtain ⟨k,b⟩:=aFe (ns:=ns) (ms:=ms) (by simpa using h) hm;exact ⟨k,by simp [b]⟩
theorem aLn:∀{ns:List Bool} {ms:List (List Nd)} {a:Lt},a∈zy Prod.mk ns ms->∃m∈ms,a.2=m
 |[],_,a,h=>by simp at h
 |_::_,[],a,h=>by simp at h
 |n::ns,m::ms,a,h=>by
  simp only [List.zipWith_cons_cons,zp] at h;rcases h with rfl|h
  ·exact ⟨m,by simp,rfl⟩
  ·obtain ⟨d,b,c⟩:=aLn h;exact ⟨d,by simp [b],c⟩
theorem aLo{ns:List Bool}{ms:List (List Nd)}(e:ns.length=ms.length):(500<aR (aU (zy Prod.mk ns (ms.map λa=>a.take 501)))/\500<aR (aU (zy Prod.mk ns ms)))\/zy Prod.mk ns (ms.map λa=>a.take 501)=zy Prod.mk ns ms:=by
 by_cases c:∀a∈ms,a.length<=501
 ·exact zn (aZj c)
 ·obtain ⟨a,b,d⟩ : ∃a,a∈ms/\¬a.length<=501:=Classical.byContradiction λi=>c λa b=>Classical.byContradiction λd=>i ⟨a,b,d⟩
  obtain ⟨j,f⟩:=aFe e b;obtain ⟨l,g⟩:=aFe (ns:=ns) (ms:=ms.map λa=>a.take 501) (by simpa using e) (z4.2 ⟨a,b,rfl⟩);exact zq ⟨aF7 g (by simp;omega),aF7 f (by simp;omega)⟩
theorem aLp{b:List TypeId}{a:Nat}{d:TypeId}{o:Nat}{n:List Value}{c:World}(m:W.ownsRow a d o v k n)(j:W.grownBy c v.ownBlock)(i:d∈b):Mv b a W c:=Mv.of_grown j (λk e=>by
 obtain ⟨_,⟨rfl,_⟩|⟨q,p,f,rfl,g,l,_⟩⟩:=m
 ·cases e
 ·cases e;exact ⟨g,f,_,l,i⟩)
structure MkI(B1:Nat)(w6:World)(Z:List Lt)(k:Nat)(l:Value)(wr:World)(LQ:List (Lt×Value)):Prop where
 made:LQ.map zl=Z.take k
 row:wr.ownsRow B1 55 2 l LQ.length (bS LQ)
 atoms:∀q∈LQ,lI wr B1 q.2 q.1.2
 low:Below B1 w6 wr
def aC1(P:Tb)(f g:Nat)(m:List Nat)(j:List Bool)(B:Nat)(w:World)(i:Ending)(d:World):Prop:=
 ∃c l a e b,i=.returned (.tuple #[.slice c a.length l,.bool e,.int .i64 b])/\rG P f g m j a e b/\bD d c a/\a.length<=16/\Below B w d
theorem aFf(w:World):bD w none []:=uO (B:=0) (cap:=0) (P:=[]) (zv _ _ _ _) rfl (λb a=>by simp at a) (by simp)
theorem MkI.next{b:Nat}{w6 wr a g:World}{i:List Lt}{p q n:Value}{c:List (Lt×Value)}{x:Lt}{l:Obj}(d:MkI b w6 i k p wr c)(u:i[k]?=some x)(e:aC wr a)(o:b<=wr.heap.size)(s:lI a b n x.2)(z:g.ownsRow b 55 2 q (c.length+1) (bS c++[.bool x.1,n]))(t:(a.alloc l).grownBy g p.ownBlock):MkI b w6 i (k+1) q g (c++[(x,n)]):=by
 have f:aC a (a.alloc l):=(Below.refl _ a).alloc (zz _) _;have y:=bB d.row e (zz _);have j:Mv [55] b (a.alloc l) g:=aLp (bB y f (zz _)) t (by simp);have C:b<=a.heap.size:=zx o e.size;refine ⟨?_,?_,λm hqm=>?_,?_⟩
 ·rw [zg,d.made,List.take_add_one,u];rfl
 ·have:=z;simpa [bS] using this
 ·rcases zf.1 hqm with hqm|hqm
  ·have A:lI a b m.2 m.1.2:=bB (d.atoms m hqm) e (zz _);exact j.row (bB A f (zz _)) (by decide)
  ·simp at hqm;subst hqm;exact j.row (bB s f (zz _)) (by decide)
 ·exact (d.low.trans ((e.mono o).trans (f.mono C))).trans (j.below (by simp;omega))
theorem aO.at{α c:Type}{R:α->c->Prop}{l:List α}{m:List c}(d:aO R l m):∀{k:Nat} (a:k<l.length) (b:k<m.length),R l[k] m[k]:=by
 induction d with
 |nil=>intro k a;simp at a
 |cons x _ ih=>
  intro k a b;cases k with
  |zero=>exact x
  |succ k=>simpa using ih (by simpa using a) (by simpa using b)
theorem aZk{e:TypeId}{g:Nat}{b:Nat}{i:List Value}(f:w.ownsRow B e g v b i)(m:0<b):∃a c,v=.slice (some ⟨a,0,none⟩) b c:=by
 obtain ⟨_,⟨rfl,l⟩|⟨a,d,j,rfl,_⟩⟩:=f
 ·omega
 ·exact ⟨a,d,rfl⟩
theorem aLq(B tp:Nat)(v:Value)(P:Tb)(o p:Nat)(b:List Nat)(e:List Bool)(i9 i6:Value)(w:World)(h:cU w B tp v P)(l5:hH P)(g5:P.length<=1000000)(c7:∀X∈P,X.1.parts.length<=1000000)(i1:∀m (h:m<P.length),P[m].1.node.1.size<=1000000)(l0:o<P.length)(l1:p<P.length)(U:eC B w i9 b)(A:w.ownsRow B 4 1 i6 e.length (e.map Value.bool))(h9:e.length=b.length)(n4:b.length<=16)(i0:∀r∈b,r<P.length)(b7:B<=w.heap.size):Calls zu 120 #[.pointer (some ⟨tp,0,none⟩),i9,i6,.int .i64 o,.int .i64 p] w λc a0=>aC1 P o p b e B w c a0:=by
 obtain ⟨l9,k6,k7,k8,k9⟩:=info_parts sC;obtain ⟨m5,m6,rfl⟩:=U.shape;obtain ⟨n6,n7,rfl⟩:=aW A;have d3:=aA (aXn B tp v P o p l0 l1 w h l5 g5 c7);have d8:=aA h;have e5:=aA U;have e1:=aA A;have e7:=aA i0;have e4:=aA c7;have e8:=aA i1;have e6:=aA h9;clear h U A i0 c7 i1 h9;go_enter Tryz.func120,Tryz.ntmps120;go_wp2_with (first
  |(go_at_call 143;refine (aB d3).mono ?_)
  |go_in)
 rintro c u ⟨r,rfl,⟨k2,rfl,a7,q⟩,c1⟩;clear d3;have F:Mv [206] B w u:=aLp d8.o.row c1 (by simp);have b8:Below B w u:=F.below b7;have i3:=F.size;have d6:=aA b8;cases k2 with
 |false=>
  have E:aG (rG P o p b e [] false 0):=aA (zq ⟨λs=>(by have:=a7.2 s;cases this),rfl,rfl,rfl⟩);clear a7 q c1 F b8;go_wp2;refine bodyPost_ret (v:=.tuple #[.slice none 0 0,.bool false,.int .i64 0]) (by simp [results,ze,go_sem]) rfl ?_;exact ⟨none,0,[],false,0,rfl,E.o,aFf _,by simp,d6.o⟩
 |true=>
  have b0:=a7.1 rfl;obtain ⟨f,f8,a5,N,b9,c0⟩:=q rfl;have M:bI f=Cl (bC P) (jR P o p):=by funext m j;exact propext (c0 m j)
  have f6:fH (bC f) (bI f):=by rw [N,M];exact Cl.isDown _ _
  have f7:eS (bC f) (bI f):=by rw [N,M];exact b0.1
  have c3:f.length=P.length:=a5.len;obtain ⟨d,S⟩ : ∃d,aO (λr n=>aS (bC f) (bI f) (pQ f) [r] n) b d:=by
   have m0:∀b:List Nat,(∀r∈b,r<P.length)->∃d,aO (λr n=>aS (bC f) (bI f) (pQ f) [r] n) b d:=by
    intro b;induction b with
    |nil=>intro _;exact ⟨[],aO.nil⟩
    |cons r b ih=>
     intro s;obtain ⟨d,l8⟩:=ih λg i=>s g (by simp [i])
     obtain ⟨n,O⟩:=(b0.2 r (s r (by simp))).exp (rep:=pQ f);exact ⟨n::d,aO.cons (by rw [N,M];exact O) l8⟩
   exact m0 b e7.o
  have c6:=S.length;have d4:aG (∀(H:List Lt) (a1:Bool) (c:Int),((500<aR (aU (zy Prod.mk e d))/\H=[]/\a1=false/\c=4)\/(aR (aU (zy Prod.mk e d))<=500/\H=aU (zy Prod.mk e d)/\a1=true/\c=0))->rG P o p b e H a1 c):=aA λH a1 c s=>zn ⟨b0,pQ f,d,λX t=>(aFo b9 X t).trans (c0 X t),by have s:=S;rw [N,M] at s;exact s,s⟩
  have i2:∀n∈d,∀V∈n,V.1.size<=1000000:=by
   intro n O V A;obtain ⟨r,_,U⟩:=S.mem_right O;rcases aZh U V A with c|⟨m,c2,rfl⟩
   ·rw [c];exact zh _
   ·rw [(a5.row m (by omega) c2).2.2];exact e8.o m (by omega)
  have h7:eC B u (.slice m5 b.length m6) b:=F.row e5.o (by decide);have G:=F.row e1.o (by decide);have h3:e.length=d.length:=e6.o.trans c6;obtain ⟨a,a6⟩ : ∃a,zy Prod.mk e (d.map λn=>n.take 501)=a:=⟨_,rfl⟩;have g0:a.length=b.length:=by rw [<-a6];simp;omega
  have f9:∀k (y:k<e.length) (a4:k<d.length),a[k]?=some (e[k],(d[k]).take 501):=λk y a4=>by rw [<-a6,List.getElem?_zipWith];simp [y,a4]
  have f5:∀(k:Nat) (z:k<b.length) (g7:k<d.length) (wr:World),aC u wr->Calls zu 144 #[.pointer (some ⟨tp,0,none⟩),.slice none 0 0,.int .i64 (b[k]:Nat)] wr λc a0=>∃I b1 J,c=.returned (.slice I b1 J)/\lI a0 u.heap.size (.slice I b1 J) ((d[k]).take 501)/\aC wr a0:=λk z g7 wr g4=>by
   refine (bAs B tp v f b9 f6 f7 (by rw [c3];exact g5) (λX l7=>by
    obtain ⟨m,c2,rfl⟩:=zc l7;rw [(a5.row m (by omega) c2).2.1];exact e4.o _ (zr _)) wr (f8.below g4) wr.heap.size (zz _) (d[k].length+1) b[k] d[k] [] (.slice none 0 0) wr (by omega) (S.at z g7) (by rw [c3];exact e7.o _ (zr _)) (Below.refl _ _) (zz _) (zv _ _ _ _) (by simp)).mono ?_
   rintro c a0 ⟨o0,rfl,y,a4⟩;rw [List.nil_append] at y;obtain ⟨I,J,rfl⟩:=aW y;exact ⟨I,_,J,rfl,eJ y g4.size,a4⟩
  have j3:=aA f5;have j9:=aA h7;have j7:=aA G;have k1:=aA f9;have e0:=aA h3;have j6:=aA c6;have k0:=aA i2;have a2:=aA a6;have b4:=aA g0;clear a7 q b0 f8 a5 N b9 c0 M f6 f7 c3 S i2 h7 G f5 F c1 f9 h3 c6 b8 a6 g0 d8 e4 e8 e5 e1;go_wp2;go_loopw [14,15] (λH m wr=>∃(k:Nat) (x:List (Lt×Value)),m=.int .i64 k/\k<=b.length/\MkI u.heap.size u a k H wr x) (λ_ m _=>b.length-(intOf m).toNat);case atStart=>exact ⟨0,[],rfl,zh _,⟨rfl,zv _ _ _ _,λt C=>by simp at C,Below.refl _ _⟩⟩
  case round=>
   obtain ⟨k,x,rfl,z,l⟩:=hrel;obtain ⟨i4,i5,rfl⟩:=aW l.row;have n0:x.length<=16:=by have:=congrArg List.length l.made;simp at this;omega
   by_cases h2:k<b.length
   ·obtain ⟨m9,k4,f1⟩:=j9.o.cell h2;subst k4;have g9:k<e.length:=by have:=e6.o;omega
    have g8:k<d.length:=by have:=j6.o;omega
    have G:=j7.o;obtain ⟨k5,n8,f3⟩:=aZk G (by omega);simp at f3;obtain ⟨rfl,rfl⟩:=f3;have f2:u.cell? ⟨k5,k,none⟩=some (.bool e[k]):=by rw [G.cellAt k (by omega)];simp [g9]
    have k3:=aD l.low f1;have d2:=aA (j3.o k h2 g8 wr l.low);have n2:(k:Int)<(b.length:Int):=by omega
    have n3:(k:Int)<(e.length:Int):=by omega
    have d7:=aA f2;have D:=aA l;have e9:=aA (k1.o k g9 g8);have f4:=l.low.size;have m2:∃c9,e[k]=c9:=⟨_,rfl⟩;obtain ⟨c9,h4⟩:=m2;rw [h4] at d7 e9;obtain ⟨i8,h8⟩ : ∃i8,b[k]=i8:=⟨_,rfl⟩;rw [h8] at k3 d2;clear l f1 f2 G h4 h8;go_wp2_with (first
     |(at_builtin;refine wpList_append_own _ rfl (.tmp 36) (.tmp 43) 41 rfl u.heap.size 55 l9 (.agg #[.bool false,.slice none 0 0]) 2 32 Tryz.underlying41 k6 k7 k8 k9 rfl (by decide) _ _ _ rfl (j5.o.alloc _) ⟨j0.heap.size,0,none⟩ 1 1 [.bool c9,.slice I b1 J] rfl rfl (fS j0 _ _ _ _ rfl) (sD _ _ _ _) (by unfold maxLen;omega) (by omega) (by simp;omega) ?_;intro v3 o1 h6 g6 _;have j1:=aA (D.o.next e9.o j2.o f4 j8.o h6 g6);clear h6 g6)
     |(go_at_call 144;refine (aB d2).mono ?_;rintro c j0 ⟨I,b1,J,rfl,h5,q⟩;have n5:=q.size;have m8:=aD (D.o.low.trans (q.mono f4)) d7.o;have j5:=aA (bB D.o.row q (zz _));have j8:=aA h5;have j2:=aA q;clear h5 q)
     |go_in)
    exact ⟨⟨k+1,_,by go_num,by omega,j1.o⟩,by simp [intOf];omega⟩
   ·have h0:a.take k=a:=zm (by have:=b4.o;omega);have Q:x.map zl=a:=by rw [l.made,h0]
    have L:∀g∈a,dZ g.2/\g.2.length<=501:=by intro g i;rw [<-a2.o] at i;obtain ⟨n,O,c⟩:=aLn i;obtain ⟨m1,l3,rfl⟩:=z4.1 O;rw [c];refine ⟨λV A=>k0.o m1 l3 V (List.mem_of_mem_take A),?_⟩;simp;omega
    have n1:aR a<=100000:=by have y:=xJ (m:=501) (λg i=>(L g i).2);have:=b4.o;omega
    have h1:bD wr i4 a:=by
     have a8:x.length=a.length:=by rw [<-Q];simp
     refine uO (P:=x) (cap:=i5) (by rw [<-a8];exact l.row) Q (λt C=>?_) (by omega);have T:t.1∈a:=by rw [<-Q];exact zb C
     obtain ⟨b5,b6,c,i⟩:=tA (l.atoms t C) (by have:=(L _ T).2;omega) (λk z=>zx ((L _ T).1 _ (zr z)) (by decide));exact ⟨b5,b6,c,i⟩
    have a8:x.length=a.length:=by rw [<-Q];simp
    have b2:=aA (aDt i4 i5 a wr h1 (by omega));rw [<-a8] at b2;have d5:=aA (d6.o.trans (l.low.mono (zx b7 i3)));obtain ⟨i7,m3,m4⟩:=aDz a (λg i=>(L g i).1);have l6:(aU a).length<=16:=by have:=b4.o;omega
    have l4:aR (aU a)<=1000000:=by omega
    have e2:=aA i7;have e3:aG (∀g∈aU a,g.2.length<=100000):=aA λg i=>by
     have y:g.2.length<=aR (aU a):=by
      have:∀(a3:List Lt),g∈a3->g.2.length<=aR a3:=by
       intro a3;induction a3 with
       |nil=>intro h;simp at h
       |cons a1 r ih=>
        intro h;simp [aR] at ih ⊢;rcases zp.1 h with rfl|h
        ·omega
        ·have:=ih h;omega
      exact this _ i
     omega
    have D:=aA l;clear l h0 Q L h1 a8 i7 m3 m4;generalize x.length=ln at *;go_wp2_with (first
     |(go_at_call 77;refine (aB b2).mono ?_)
     |go_in)
    rintro c d0 ⟨n9,f0,rfl,a9,c8,g1,g2⟩;obtain ⟨Y,Z,rfl⟩:=aW c8;have c4:f0.length=(aU a).length:=by rw [<-a9];simp
    have c5:bD d0 Y (aU a):=by
     refine uO (P:=f0) (cap:=Z) (by rw [<-c4];exact c8) a9 (λt C=>?_) (by omega);have T:t.1∈aU a:=by rw [<-a9];exact zb C
     obtain ⟨b5,b6,c,i⟩:=tA (g1 t C) (by have:=e3.o _ T;omega) (λk z=>zx (e2.o _ T _ (zr z)) (by decide));exact ⟨b5,b6,c,i⟩
    have d1:=aA (aZi Y Z (aU a) d0 c5 l4);have d9:=aA c5;have b3:=aA (d5.o.trans (g2.mono (zx b7 (zx i3 D.o.low.size))));rw [c4];clear b2 c8 g1 g2 c5 c4 a9 D d5 e2 e3;by_cases g3:500<aR (aU a)
    ·have E:aG (rG P o p b e [] false 4):=aA (d4.o [] false 4 (zq ⟨by
      rcases aLo (ns:=e) (ms:=d) e0.o with ⟨_,h⟩|h
      ·exact h
      ·rw [<-h,a2.o];exact g3,rfl,rfl,rfl⟩))
     generalize aR (aU a)=cn at *;generalize (aU a).length=on at *;have l2:(500:Int)<(cn:Int):=by omega
     go_wp2_with (first
      |(go_at_call 78;refine (aB d1).mono ?_;rintro c m7 ⟨rfl,rfl⟩)
      |go_in)
     refine bodyPost_ret (v:=.tuple #[.slice none 0 0,.bool false,.int .i64 4]) (by simp [results,ze,go_sem]) rfl ?_;exact ⟨none,0,[],false,4,rfl,E.o,aFf _,by simp,b3.o⟩
    ·have E:aG (rG P o p b e (aU a) true 0):=aA (d4.o (aU a) true 0 (zn (by
      rcases aLo (ns:=e) (ms:=d) e0.o with ⟨h,_⟩|h
      ·rw [a2.o] at h;exact absurd h g3
      ·rw [<-h,a2.o];exact ⟨by omega,rfl,rfl,rfl⟩)))
     have j4:aG (aC1 P o p b e B w (.returned (.tuple #[.slice Y (aU a).length Z,.bool true,.int .i64 0])) d0):=aA ⟨Y,Z,aU a,true,0,rfl,E.o,d9.o,l6,b3.o⟩;generalize aR (aU a)=cn at *;have l2:¬(500:Int)<(cn:Int):=by omega
     clear E d9 b3;go_wp2_with (first
      |(go_at_call 78;refine (aB d1).mono ?_;rintro c m7 ⟨rfl,rfl⟩)
      |go_in)
     refine bodyPost_ret (v:=.tuple #[.slice Y (aU a).length Z,.bool true,.int .i64 0]) (by simp [results,ze,go_sem]) rfl ?_;exact j4.o
