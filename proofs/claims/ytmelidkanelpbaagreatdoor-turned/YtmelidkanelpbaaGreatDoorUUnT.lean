import Derived.Test.YtmelidkanelpbaaGreatDoorUWrT
import Derived.Test.YtmelidkanelpbaaGreatDoorSNam1T
import Derived.Lib.SliceRun
open And renaming intro→zl
open Array renaming getElem?_eq_some_iff→zz
open List renaming append_assoc→zv,mem_append→zu,getElem_of_mem→zt,length_append→zs,eraseIdx_of_length_le→zr,mem_map→zp,map_append→zo,eraseIdx_append_of_length_le→zn,take_succ_eq_append_getElem→zm,mem_of_mem_take→zj,replicate→zh,getElem?_eq_some_iff→zg,mem_of_mem_eraseIdx→zf,cons_append→ze,length_cons→zd,length_eraseIdx_le→zc,take_length→z6
open Nat renaming le_refl→zx,le_trans→zq,zero_add→zb,zero_le→za
open Prod renaming snd→zy
namespace Go.Proofs.YtmelidkanelpbaaGreatDoor
open _root_.Go.Proofs.Tryz renaming prog→zi
open Value renaming ownBlock→zw
open World renaming cell?→zk,grownBy→z5
open Go.RowKit Go.Shelf Go.WideMaps
set_option maxHeartbeats 8000000
set_option maxRecDepth 100000
variable{R:List (Int×Lt)}{c:List Lt}{B tb:Nat}{w w':World}
section
attribute [local go_sem] Oper.semAt_some
theorem bL.cleared{r o p q:Value}{d:List Nd}{k:List Nat}{f l:Nat}:∀(m b:Nat) (w:World) (e:List Int),bL w B tb r o p (.slice (some ⟨f,0,none⟩) d.length l) q d k e->b+m=d.length->(∀a,a<b->e[a]?=some 0)->
  ∃g,bL (w.setCells f b (zh m (.int .i64 0))) B tb r o p (.slice (some ⟨f,0,none⟩) d.length l) q d k g/\(∀a,a<d.length->g[a]?=some 0)/\w.grownBy (w.setCells f b (zh m (.int .i64 0))) (some f):=by
 intro m;induction m with
 |zero=>
  intro b w e i v j;exact ⟨e,i,λa u=>j a (by omega),z5.refl _ _⟩
 |succ m ih=>
  intro b w e i v j;obtain ⟨s,t⟩:=i.sized b 0;have C:=i.ls;obtain ⟨g,x,y,z⟩:=ih (b+1) _ _ s (by omega) (λa u=>by
   by_cases n:a=b
   ·subst n;rw [List.getElem?_set_self (by omega)]
   ·rw [List.getElem?_set_ne (λA=>n A.symm)];exact j a (by omega))
  exact ⟨g,x,y,t.trans z⟩
theorem aFf{e:Option Nat}(g:∀b,e=some b->B<=b)(i:B<=w.heap.size)(a:w.grownBy w' e):Below B w w':=
 ⟨a.os,a.tape,a.output,a.size,λd j=>a.block d (by omega) (λf=>by have:=g d f.symm;omega)⟩
structure bB4(w:World)(B tb:Nat)(vn ve vl vs vm:Value)(L:List Nd)(rt:Nat->Nat)(a b:Nat)(ok:Bool)(w':World):Prop where
 size:w.heap.size<=w'.heap.size
 low:Below B w w'
 keep:∀k,k<w.heap.size->vl.ownBlock≠some k->vs.ownBlock≠some k->w'.heap[k]?=w.heap[k]?
 yes:ok=true↔kJ (aG L) (Cl (aG L) λi j=>rt i=rt j\/(i=a/\j=b))/\cE (aG L) (Cl (aG L) λi j=>rt i=rt j\/(i=a/\j=b)) a
 st:ok=true->∃F' S' rt' d',bL w' B tb vn ve vl vs vm L F' S'/\gE F' rt' d'/\kS L rt'/\eA (aG L) (λi j=>rt' i=rt' j) (λ_ _=>False)/\(∀i j,rt' i=rt' j↔Cl (aG L) (λi j=>rt i=rt j\/(i=a/\j=b)) i j)/\rR L rt' S'/\∀r:Nat,S'[r]?≠some (-1)
theorem bB5(B tb:Nat)(M J x b9 L:Value)(d:List Nd)(z:List Nat)(i a4:Nat->Nat)(b3:eT d)(b2:gE z i a4)(b4:kS d i)(b1:eA (aG d) (λb f=>i b=i f) λ_ _=>False)(a2:List Int)(k r:Nat)(w:World)(m:bL w B tb M J x b9 L d z a2)(Q:k<d.length)(d8:r<d.length):Calls zi 104 #[.pointer (some ⟨tb,0,none⟩),.int .i64 k,.int .i64 r] w λa w'=>∃I:Bool,a=.returned (.bool I)/\bB4 w B tb M J x b9 L d i k r I w':=by
 obtain ⟨l,d2,f3,rfl,e1,c9,d1⟩:=m.size Q;have e0:=m.ls;have d9:∀V,(Builtin.clear_ #[28] V #[.slice (some ⟨l,0,none⟩) d.length d2]).run zi w=.ok (.tuple #[]) (w.setCells l 0 (zh d.length (.int .i64 0))):=λV=>
  Lib.run_clear_slice w _ 3 V (.int .i64 0) Tryz.underlying28 (λw=>by obtain ⟨f2,d6,d7,e9,f0⟩:=info_parts tM;simp [zeroValue,typeInfo,d6,d7]) rfl rfl l 0 _ _ (by omega) (λf T=>by
   obtain ⟨d4,c8,e3,t,d3,a6,a7⟩:=m.size T;simp at t;obtain ⟨rfl,_⟩:=t;rw [zb,a6];rfl) (λf T=>by
   obtain ⟨d4,c8,e3,t,d3,a6,a7⟩:=m.size T;simp at t;obtain ⟨rfl,_⟩:=t;rw [zb,a7])
 obtain ⟨D,a8,a9,b0⟩:=bL.cleared d.length 0 w a2 m (by omega) (λb f1=>by omega);have d0:=m.c3;clear c9 d1 e1 e0;generalize w.setCells l 0 (zh d.length (.int .i64 0))=w1 at *;have W:=aA (bAi B tb M J x _ L d D b3 (nK z+1) z i a4 k r w1 (by omega) a8 b2 b4 Q d8);have Z:=aA m;have Y:=aA a9;have A:=aA b0;have c1:=aA b1;have O:=aA (cO m.rs l rfl).1;clear m a8 a9 b0 b2 b4 b1;go_enter Tryz.func104,Tryz.ntmps104;go_wp2_with (first
  |(go_at_call 118;refine (aD W).mono ?_)
  |go_in)
 rintro a y ⟨I,X,v,a5,rfl,e⟩;clear W d9 d0;have E:∀j,y.grownBy j (some l)->Below B w j:=λj S=>by
  have d5:B<=w.heap.size:=zq O.o (Nat.le_of_lt (cO Z.o.rs l rfl).2);have e5:=A.o.size;have e6:=e.far.size;exact ((aFf (λP a=>by simp at a;subst a;exact O.o) d5 A.o).trans (aFf (λP a=>(cO Z.o.rl P a).1) (by omega) e.far)).trans (aFf (λP a=>by simp at a;subst a;exact O.o) (by omega) S)
 have F:∀j,y.grownBy j (some l)->∀g,g<w.heap.size->x.ownBlock≠some g->l≠g->j.heap[g]?=w.heap[g]?:=λj S g o p s=>by
  have e5:=A.o.size;have e6:=e.far.size;rw [S.block g (by omega) (by simpa using λa=>s a.symm),e.far.block g (by omega) (λa=>p a.symm),A.o.block g o (by simpa using λa=>s a.symm)]
 have G:=e.sem (λb f=>i b=i f\/(b=k/\f=r)) (λ_ _=>False) (λb f a=>Cl.base (Or.inl a)) (Cl.base (Or.inr ⟨rfl,rfl⟩)) (c1.o.mono λ_ _ a=>a.elim);cases I with
 |false=>
  have c4:=aA (G.2 rfl);have C:=aA (E y (z5.refl _ _));have N:=aA (F y (z5.refl _ _));clear e G E F;go_wp2;go_ret;exact ⟨false,rfl,C.o.size,C.o,λg o p s=>N.o g o p (by simpa [zw] using s),⟨λa=>(by cases a),λa=>absurd a.1 c4.o⟩,λa=>(by cases a)⟩
 |true=>
  obtain ⟨b7,b8,H⟩:=G.1 rfl;obtain ⟨o,p⟩:=H.done (rK v) b8 (λb f a=>by
   rcases a with a|⟨rfl,rfl⟩
   ·exact e.mono b f a
   ·exact b7)
  have U:∀q:Nat,D[q]?≠some (-1):=λq a=>by
   have u:=(zg.1 a).1;rw [e.tm.ls] at u;rw [Y.o q u] at a;cases a
  have c0:=aA (aMn B tb M J x _ L d X v a5 b3 e.forest e.named H (lH D+1) D k y (by omega) e.tm (λe4 e2 a=>by
   have u:=(zg.1 a).1;rw [e.tm.ls] at u;rw [Y.o e4 u] at a;simp at a;exact Or.inl a.symm) (λq a=>absurd a (U q)) Q)
  have a0:=aA o;have c3:=aA p;have c2:=aA H;have c6:=aA U;have C:=aA E;have N:=aA F;have a1:=aA e;clear e G E F b7 b8 H o p U;go_wp2_with (first
   |(go_at_call 119;refine (aD c0).mono ?_;rintro a j ⟨e2,a3,c7,rfl,n⟩;have c5:=aA n;clear n)
   |go_in)
  go_ret;have n:=c5.o;have b6:=C.o j n.far;have b5:∀b,cE (aG d) (λb f=>v b=v f) b↔cE (aG d) (Cl (aG d) λb f=>i b=i f\/(b=k/\f=r)) b:=λb=>cE.iff a0.o
  refine ⟨a3,rfl,b6.size,b6,λg o p s=>N.o j n.far g o p (by simpa [zw] using s),?_,?_⟩
  ·cases a3 with
   |true=>exact ⟨λ_=>⟨c3.o,(b5 k).1 (n.yes rfl).2.2.1⟩,λ_=>rfl⟩
   |false=>exact ⟨λa=>(by cases a),λa=>absurd ((b5 k).2 a.2) (n.no rfl).2⟩
  ·rintro rfl;obtain ⟨e7,e8,f4,f5⟩:=n.yes rfl;exact ⟨X,c7,v,a5,n.tm,a1.o.forest,a1.o.named,c2.o,a0.o,e7,λq a=>c6.o q ((e8 q).1 a)⟩
end
theorem bL.toRaw{k d e f j:Value}{b:List Nd}{g:List Nat}{i:List Int}(a:bL w B tb k d e f j b g i)(l:d.ownBlock≠none)(m:e.ownBlock≠none)(n:f.ownBlock≠none):cK w B tb k d e f j b (eN b) g i:=
 ⟨a.box,a.high,a.rn,by rw [gX];exact a.re,by rw [a.lf];exact a.rl,by rw [a.ls];exact a.rs,a.ab,a.ac,a.bc,l,m,n⟩
structure iC(B tb mp:Nat)(nb:Option Nat)(M:List Tg)(a b:Nat)(ps:List Nat)(ls:List (List Nd))(w:World):Prop where
 tm:∃vn ve vl vs F rt d S,vn.ownBlock=nb/\cK w B tb vn ve vl vs (.map (some mp)) (M.map zy) (eN (M.map zy)) F S/\iP M a b F rt d S/\(∀p,p<M.length->cE (aG (M.map zy)) (λi j=>rt i=rt j) p)/\aP (λp l=>aW (aG (M.map zy)) (λi j=>rt i=rt j) rt [p] l) ps ls
 low:∀p∈ps,p<M.length
 first:gG w mp M
 big:B<=w.heap.size
 ne:mp≠tb
 mlow:B<=mp
 short:∀t∈M,t.2.1.size<=140737488355328
def pX(f:Option Nat)(w w':World):Prop:=∀(a:Nat) (d:Array Value) (b:TypeId) (e:Nat×Nat),w.heap[a]?=some (.cells d b e)->b≠3->b≠165->f≠some a->w'.heap[a]?=w.heap[a]?
def aMr(w:World)(d b:Option Nat):Prop:=b=d\/∃a,b=some a/\w.heap.size<=a
section
variable {B tb mp:Nat}{nb:Option Nat}{M:List Tg}{a b:Nat}{ps:List Nat}{ls:List (List Nd)}{w:World}
theorem bB6(f:iC B tb mp nb M a b ps ls w)(g:Int)(m:Option Addr)(c:Nat)(e:List Nd)(x:dV w m e)(r:aQ e 1=true)(L:∀d,m=some d->d.block<B)(J:M.length+e.length<=1000000)(P : -1000<=g/\g<=1000):Calls zi 105 #[.pointer (some ⟨tb,0,none⟩),.int .i64 g,.slice m e.length c] w λu w'=>u=.returned (.int .i64 M.length)/\∃z,iC B tb mp z (M++aN g e) a b ps ls w'/\Below B w w'/\aMr w nb z/\pX nb w w':=by
 obtain ⟨Z,V,X,a0,C,l,a3,D,y,S,j,H,N⟩:=f.tm;have n:(M.map zy).length=M.length:=by simp
 refine (aMc B tb mp Z V X a0 (M.map zy) C D M g m c e w S rfl j.whole f.first (by rw [j.lf,n]) (by rw [j.ls,n]) f.big f.ne f.mlow r x L (by rw [n];exact J) P).mono ?_;rintro u w' ⟨A,W,Y,a1,rfl,E,F,p,G⟩;have q:(M++aN g e).map zy=M.map zy++e:=by rw [zo,aB3]
 refine ⟨by rw [n],A.ownBlock,⟨⟨A,W,Y,a1,_,_,_,_,rfl,by rw [q];exact E,j.add (o:=g) r,?_,?_⟩,λd i=>by have:=f.low d i;simp;omega,F,zq f.big p.low.size,f.ne,f.mlow,?_⟩,p.low,by rw [<-y];exact G,by rw [<-y];exact p.nod⟩
 ·intro d i;rw [q];have a4:d<M.length+e.length:=by simpa using i
  exact j.endsAll (o:=g) r H (M.length+e.length-d) d (by omega)
 ·rw [q];have U:∀{ps:List Nat} {ls:List (List Nd)},aP (λd t=>aW (aG (M.map zy)) (λo s=>l o=l s) l [d] t) ps ls->(∀d∈ps,d<M.length)->aP (λd t=>aW (aG (M.map zy++e)) (λo s=>cX M (M++e.map λk=>(g,k)) l o=cX M (M++e.map λk=>(g,k)) l s) (cX M (M++e.map λk=>(g,k)) l) [d] t) ps ls:=by
   intro ps ls f;induction f with
   |nil=>intro _;exact aP.nil
   |cons c _ ih=>
    intro i;exact aP.cons (j.exp (o:=g) c (λo v=>by simp at v;subst v;exact i _ (by simp))) (ih λd Q=>i d (by simp [Q]))
  exact U N f.low
 ·intro a2 hx;rcases zu.1 hx with hx|hx
  ·exact f.short a2 hx
  ·obtain ⟨k,O,rfl⟩:=zp.1 hx;obtain ⟨T,I,rfl⟩:=zt O;exact x.short T I
theorem bB7(i:iC B tb mp nb M a b ps ls w)(j:Nat)(q:j<M.length)(Q:M.length<=1000000):Calls zi 122 #[.pointer (some ⟨tb,0,none⟩),.int .i64 j] w λg w'=>∃m p,g=.returned (.tuple #[m,.bool p])/\Below B w w'/\w.heap.size<=w'.heap.size/\pX nb w w'/\∃d,
   (p=true->d.length<=500/\m.ownBlock≠none/\w'.ownsRow w.heap.size 117 2 m d.length (bA d)/\iC B tb mp nb M a b (ps++[j]) (ls++[d]) w')/\
   (p=false->m=.slice none 0 0/\500<d.length/\iC B tb mp nb M a b (ps++[j]) (ls++[d]) w'):=by
 obtain ⟨I,G,H,J,A,k,C,L,W,l,e,v,U⟩:=i.tm;have o:(M.map zy).length=M.length:=by simp
 have T:=l.toIn (by rw [e.lf,o]) (by rw [e.ls,o]) (by rw [o];exact Q) (λa7 V=>by obtain ⟨a0,X,rfl⟩:=zp.1 V;exact i.short a0 X);refine (bBq B tb I G H J _ (M.map zy) A k C e.whole e.forest e.named e.cl L j w T e.sz (λf g=>absurd g (e.none f)) (by rw [o];exact q)).mono ?_;rintro g w' ⟨m,p,N,rfl,f⟩;obtain ⟨z,Z⟩:=f.keep (v j q);have E:Below B w w':=⟨f.far.os,f.far.tape,f.far.output,f.far.size,λr n=>f.far.block r (by have:=i.big;omega) (λg=>by have:=(cO l.rs r g.symm).1;omega)⟩;have F:pX nb w w':=λr a3 a1 a5 n z _ _=>f.far.block r (zz.1 n).1 (λg=>by
  obtain ⟨_,⟨rfl,_⟩|⟨a6,a2,a4,rfl,_,S,_⟩⟩:=l.rs
  ·simp [zw] at g
  ·simp [zw] at g;subst g;rw [S] at n;simp at n;exact z n.2.1.symm)
 have D:∀d,aW (aG (M.map zy)) (λx y=>k x=k y) k [j] d->iC B tb mp nb M a b (ps++[j]) (ls++[d]) w':=λd Y=>
  ⟨⟨I,G,H,J,A,k,C,N,W,f.tm.toRaw l.ne l.nl l.ns,⟨e.whole,e.lf,by rw [f.tm.ls,o],e.forest,e.named,e.cl,e.iff,z,λs g=>e.none s ((Z s).1 g),e.ha,e.hb⟩,v,U.snoc Y⟩,λs hq=>by
   rcases zu.1 hq with hq|hq
   ·exact i.low s hq
   ·simp at hq;subst hq;exact q,i.first.grown f.far (qT l.rs i.first),zq i.big f.far.size,i.ne,i.mlow,i.short⟩
 cases p with
 |true=>
  obtain ⟨_,e2,d,t,u,P⟩:=f.yes rfl;exact ⟨m,true,rfl,E,f.far.size,F,d,λ_=>⟨u,e2,P,D d t⟩,(λg=>by cases g)⟩
 |false=>
  obtain ⟨O,e2⟩:=f.no rfl;obtain ⟨d,t,u⟩ : ∃d,aW (aG (M.map zy)) (λx y=>k x=k y) k [j] d/\500<d.length:=by
   rcases e2 with e2|e2
   ·exact absurd (v j q) e2
   ·exact e2
  exact ⟨m,false,rfl,E,f.far.size,F,d,(λg=>by cases g),λ_=>⟨O,u,D d t⟩⟩
end
def iS(c:List Lt)(out a:Nat):List Lt:=(c.take a).eraseIdx out
theorem aMs{a:Nat}(b:a<c.length):iS c a (a+1)=iS c a a:=by
 unfold iS;have d:(c.take a).length=a:=by simp;omega
 rw [zm b,zn (by omega),d,Nat.sub_self,zr (l:=c.take a) (by omega)];simp
theorem aMt{b a:Nat}(d:a<c.length)(f:a≠b):iS c b (a+1)=iS c b a++[c[a]]:=by
 unfold iS;rw [zm d];have e:(c.take a).length=a:=by simp;omega
 by_cases g:b<a
 ·rw [List.eraseIdx_append_of_lt_length (by omega)]
 ·rw [zn (by omega),zr (l:=c.take a) (by omega),zr (by simp;omega)]
theorem aMu(c:List Lt)(a:Nat):iS c a c.length=c.eraseIdx a:=by unfold iS;rw [z6]
theorem bB8(c:List Lt)(a:Nat):iS c a 0=[]:=by simp [iS]
def bB:Nat->List (List Lt×Nat)->List (Int×Lt)
 |_,[]=>[]
 |o,p::ps=>((p.1.eraseIdx p.2).map λa=>((o:Int),a))++bB (o+1) ps
theorem aMv:∀(d:List (List Lt×Nat)) (b a:Nat) (e:a<d.length),bB b (d.take (a+1))=bB b (d.take a)++((d[a].1.eraseIdx d[a].2).map λf=>(((b+a:Nat):Int),f)):=by
 intro d;induction d with
 |nil=>intro b a e;simp at e
 |cons p d ih=>
  intro b a e;cases a with
  |zero=>simp [bB]
  |succ a=>
   simp only [List.take_succ_cons,bB,List.getElem_cons_succ,zv];rw [ih (b+1) a (by simpa using e)];congr 2
   simp only [show b+1+a=b+(a+1) by omega]
theorem aMw(R:List (Int×Lt))(a:Int×Lt):aU (R++[a])=aU R++a.2.2.map λb=>(a.1,b):=by simp [aU]
theorem aMx:∀(R:List (Int×Lt)) (a:Nat) (b:Int×Lt),cU a (R++[b])=cU a R++[a+(aU R).length]:=by
 intro R;induction R with
 |nil=>intro a b;simp [cU,aU]
 |cons x R ih=>
  intro a b;simp only [ze,cU,ih];rw [aB5];simp;omega
theorem bB9(R:List (Int×Lt))(a:List (List Nd))(e:R.length=a.length)(d:Int×Lt)(b:List Nd):bX (R++[d]) (a++[b])=bX R a++[(d.2.1,b)]:=by unfold bX;rw [List.zipWith_append e];rfl
section
variable {B tb mp:Nat}{nb:Option Nat}{M:List Tg}{a b:Nat}{ps:List Nat}{ls:List (List Nd)}{w w':World}
theorem iC.below(e:iC B tb mp nb M a b ps ls w)(f:aB w w'):iC B tb mp nb M a b ps ls w':=by obtain ⟨o,m,n,p,g,l,d,S,i,k,j⟩:=e.tm;exact ⟨⟨o,m,n,p,g,l,d,S,i,k.below f,j⟩,e.low,e.first.at (f.block mp e.first.lt),zq e.big f.size,e.ne,e.mlow,e.short⟩
theorem iC.lits(d:iC B tb mp nb M a b ps ls w){i:Value}{o j:Nat}{u:List Value}(e:w.ownsRow j 86 2 i o u)(g:w.grownBy w' i.ownBlock):iC B tb mp nb M a b ps ls w':=by obtain ⟨s,q,r,t,k,p,l,S,m,f,n⟩:=d.tm;exact ⟨⟨s,q,r,t,k,p,l,S,m,f.grown g (dY e f.box (by decide)) (gB f.rn e (by decide)) (gB f.re e (by decide)) (gB f.rl e (by decide)) (gB f.rs e (by decide)),n⟩,d.low,d.first.grown g (qT e d.first),zq d.big g.size,d.ne,d.mlow,d.short⟩
theorem iC.nbT(g:iC B tb mp nb M a b ps ls w){e:Nat}(d:nb=some e):∃f,w.heap[e]?=some (.cells f 117):=by
 obtain ⟨v,t,u,x,l,s,p,m,j,k,r⟩:=g.tm;rw [<-j] at d;obtain ⟨_,⟨rfl,_⟩|⟨q,n,o,rfl,_,i,_⟩⟩:=k.rn
 ·simp [zw] at d
 ·simp [zw] at d;subst d;exact ⟨_,i⟩
theorem iC.pure(d:iC B tb mp nb M a b ps ls w):pT M a b ps ls:=by obtain ⟨o,m,n,p,e,l,g,f,_,_,k,i,j⟩:=d.tm;exact ⟨e,l,g,f,k,i,j,d.low⟩
theorem iC.nodes(g:iC B tb mp nb M a b ps ls w)(C:M.length<=1000000):∀d∈ls,wD d/\∀e∈d,e.1.size<=140737488355328:=by
 obtain ⟨H,F,G,I,x,l,z,y,_,E,p,D,n⟩:=g.tm;have q:∀{ps:List Nat} {ls:List (List Nd)},aP (λj d=>aW (aG (M.map zy)) (λf u=>l f=l u) l [j] d) ps ls->(∀j∈ps,j<M.length)->∀d∈ls,∀e∈d,(aL e=true/\∃f,f<(M.map zy).length/\e=(⟨#[]⟩,(l f:Int)))\/(aL e=false/\e∈M.map zy):=by
  intro ps ls g;induction g with
  |nil=>intro _ d hl;simp at hl
  |cons c _ ih=>
   intro o d hl;rcases List.mem_cons.1 hl with rfl|hl
   ·exact aY0 p.whole c (λf i=>by simp at i;subst i;simpa using o _ (by simp))
   ·exact ih (λj r=>o j (by simp [r])) d hl
 intro d hl;refine ⟨λe m t=>?_,λe m=>?_⟩
 ·rcases q n g.low d hl e m with ⟨_,f,i,rfl⟩|⟨k,_⟩
  ·have A:=p.rt_lt (p:=f) (by simpa using i);constructor
   ·simp
   ·simp;omega
  ·rw [t] at k;cases k
 ·rcases q n g.low d hl e m with ⟨_,f,i,rfl⟩|⟨_,k⟩
  ·exact za _
  ·obtain ⟨v,s,rfl⟩:=zp.1 k;exact g.short v s
end
theorem aMy{z:Nat}{d e:Int}{a b:List Nd}(f:lF B tb z (aN d a++aN e b) w)(M:aQ a 1=true)(N:aQ b 1=true)(J:∀C∈aN d a++aN e b,C.2.1.size<=140737488355328)(a6:(aN d a++aN e b).length<=1000000):Calls zi 104 #[.pointer (some ⟨tb,0,none⟩),.int .i64 ((0:Nat):Int),.int .i64 a.length] w λo w'=>∃u:Bool,o=.returned (.bool u)/\Below B w w'/\pX none w w'/\
   (u=true->∃b3,iC B tb z b3 (aN d a++aN e b) 0 a.length [] [] w')/\(u=false->∀y:List (Int×Lt),(∀g∈y,aQ g.2.2 1=true)->¬wL ((aN d a++aN e b)++aU y) 0 a.length):=by
 obtain ⟨F,P,Q,S,i⟩:=f.tm;have L:(aN d a++aN e b).map zy=a++b:=by rw [zo,aB3,aB3]
 have l:((aN d a++aN e b).map zy).length=(aN d a++aN e b).length:=by simp
 have j:(aN d a++aN e b).length=a.length+b.length:=by simp
 have c3:0<a.length:=by
  cases a with
  |nil=>simp [aQ] at M
  |cons=>simp
 have c4:0<b.length:=by
  cases b with
  |nil=>simp [aQ] at N
  |cons=>simp
 have a5:=i.toIn (by rw [mR];simp) (by simp) (by rw [l];exact a6) (λA a7=>by obtain ⟨C,b1,rfl⟩:=zp.1 a7;exact J C b1);refine (bB5 B tb F P Q S _ ((aN d a++aN e b).map zy) _ (bI (aN d a++aN e b)) _ f.whole (aEh _) (aXu _) (aXt _) _ 0 a.length w a5 (by rw [l,j];omega) (by rw [l,j];omega)).mono ?_;rintro o w' ⟨u,rfl,g⟩;have I:∀{E:Value} {A:Nat} {T:List Value},w.ownsRow B 3 1 E A T->∀(m:Nat) (q:Array Value) (n:TypeId) (r:Nat×Nat),w.heap[m]?=some (.cells q n r)->n≠3->E.ownBlock≠some m:=by
  intro E A T a8 m q n r k a1 o;obtain ⟨_,⟨rfl,_⟩|⟨c1,b9,c0,rfl,_,a4,_⟩⟩:=a8
  ·simp [zw] at o
  ·simp [zw] at o;subst o;rw [a4] at k;simp at k;exact a1 k.2.1.symm
 refine ⟨u,rfl,g.low,λm q n r k H _ _=>g.keep m (zz.1 k).1 (I i.rl m q n r k H) (I i.rs m q n r k H),λx=>?_,λx y b0 b2=>?_⟩
 ·obtain ⟨U,V,v,Y,D,b4,b5,b6,O,b7,b8⟩:=g.st x;have a0:(λs t=>v s=v t)=dE (aN d a++aN e b) 0 a.length:=by
   funext s t
   exact propext (O s t)
  have G:=(g.yes.1 x).2;have Z:kI (aG ((aN d a++aN e b).map zy)) (dE (aN d a++aN e b) 0 a.length):=Cl.isDown _ _;have a2:=cE.same Z G (Cl.base (Or.inr ⟨rfl,rfl⟩));have a3:∀p,p<(aN d a++aN e b).length->cE (aG ((aN d a++aN e b).map zy)) (λs t=>v s=v t) p:=by
   intro p a9;rw [a0];rw [j] at a9;by_cases c2:p<a.length
   ·refine aKt (λ_=>Cl.refl _) f.whole (i:=0) (by rw [l,j];omega) G p (za _) ?_;rw [L,List.drop_zero,xY a 1 b M];omega
   ·refine aKt (λ_=>Cl.refl _) f.whole (i:=a.length) (by rw [l,j];omega) a2 p (by omega) ?_;have:=xY b 1 [] N;rw [List.append_nil] at this;rw [L,List.drop_left,this];omega
  refine ⟨F.ownBlock,⟨⟨F,P,Q,S,U,v,Y,V,rfl,D.toRaw i.ne i.nl i.ns,⟨f.whole,by rw [D.lf,l],by rw [D.ls,l],b4,b5,b6,O,b7,b8,by rw [j];omega,by rw [j];omega⟩,a3,aP.nil⟩,by simp,f.first.at (g.keep z f.first.lt (qT i.rl f.first) (qT i.rs f.first)),zq f.big g.size,f.ne,f.mlow,J⟩⟩
 ·obtain ⟨W,X⟩:=aY1 y b0 f.whole b2;have:=g.yes.2 ⟨W,X 0 (by rw [j];omega)⟩;rw [x] at this;cases this
theorem pX.row{i:Option Nat}(u:pX i w w'){B:Nat}{a:TypeId}{s n:Nat}{v:Value}{j:List Value}(r:w.ownsRow B a s v n j)(l:a≠3)(m:a≠165)(q:∀f,v.ownBlock=some f->i≠some f):w'.ownsRow B a s v n j:=by
 obtain ⟨d,⟨rfl,o⟩|⟨g,k,b,rfl,p,e,t⟩⟩:=r
 ·exact ⟨d,Or.inl ⟨rfl,o⟩⟩
 ·exact ⟨d,Or.inr ⟨g,k,b,rfl,p,by rw [u g b a (0,0) e l m (q g rfl)];exact e,t⟩⟩
structure oV(w0:World)(B tb mp:Nat)(M0:List Tg)(a b:Nat)(R:List (Int×Lt))(v:Value)(nb:Option Nat)(ls:List (List Nd))(Q:List (Lt×Value))(wr:World):Prop where
 con:iC B tb mp nb (M0++aU R) a b (cU M0.length R) ls wr
 len:R.length=ls.length
 made:Q.map Prod.fst=bX R ls
 row:wr.ownsRow B 86 2 v Q.length (bF Q)
 atoms:∀q∈Q,xX wr B q.2 q.1.2/\q.1.2.length<=500/\∀k,q.2.ownBlock=some k->nb≠some k
 low:Below B w0 wr
section
variable {w0 wr wb w2 w3 w5:World}{B tb mp:Nat}{M0:List Tg}{a b:Nat}{R:List (Int×Lt)}{v v3 v5:Value}{nb nb':Option Nat}{ls:List (List Nd)}{Q:List (Lt×Value)}{o:Int}{x:Lt}{l:List Nd}
theorem oV.below(d:oV w0 B tb mp M0 a b R v nb ls Q wr)(e:aB wr wb):oV w0 B tb mp M0 a b R v nb ls Q wb:=
 ⟨d.con.below e,d.len,d.made,bJ d.row e (zx _),λg f=>⟨bJ (d.atoms g f).1 e (zx _),(d.atoms g f).2⟩,d.low.trans (e.mono d.con.big)⟩
theorem oV.rows(d:oV w0 B tb mp M0 a b R v nb ls Q wr)(g:pX nb wr w2):w2.ownsRow B 86 2 v Q.length (bF Q)/\∀e∈Q,xX w2 B e.2 e.1.2:=by refine ⟨g.row d.row (by decide) (by decide) (λn k i=>?_),λe f=>g.row (d.atoms e f).1 (by decide) (by decide) (d.atoms e f).2.2⟩;obtain ⟨m,j⟩:=d.con.nbT i;exact dY d.row j (by decide) k
theorem oV.add(e:oV w0 B tb mp M0 a b R v nb ls Q wr)(n:Below B wr w2)(p:aMr wr nb nb')(q:pX nb wr w2):(w2.ownsRow B 86 2 v Q.length (bF Q)/\∀d∈Q,xX w2 B d.2 d.1.2/\d.1.2.length<=500/\∀f,d.2.ownBlock=some f->nb'≠some f)/\Below B w0 w2:=by
 obtain ⟨r,s⟩:=e.rows q;refine ⟨⟨r,λd i=>⟨s d i,(e.atoms d i).2.1,λf m j=>?_⟩⟩,e.low.trans n⟩;rcases p with k|⟨g,k,t⟩
 ·exact (e.atoms d i).2.2 f m (by rw [<-k,j])
 ·rw [k] at j;simp at j;have:=(cO (e.atoms d i).1 f m).2;omega
theorem oV.put(z:R.length=ls.length)(O:Q.map Prod.fst=bX R ls)(g:w2.ownsRow B 86 2 v Q.length (bF Q)/\∀d∈Q,xX w2 B d.2 d.1.2/\d.1.2.length<=500/\∀k,d.2.ownBlock=some k->nb≠some k)(N:Below B w0 w2)(n:iC B tb mp nb (M0++aU R++aN o x.2) a b (cU M0.length R) ls w2)
  (m:iC B tb mp nb (M0++aU R++aN o x.2) a b (cU M0.length R++[(M0++aU R).length]) (ls++[l]) w3) (M:Below B w2 w3) (A:pX nb w2 w3) (H:l.length<=500) (u:w3.ownsRow w2.heap.size 117 2 v3 l.length (bA l))
  {j:Obj} (G:w5.ownsRow B 86 2 v5 (Q.length+1) (bF Q++[.bool x.1,v3])) (q:(w3.alloc j).grownBy w5 v.ownBlock):oV w0 B tb mp M0 a b (R++[(o,x)]) v5 nb (ls++[l]) (Q++[((x.1,l),v3)]) w5:=by
 have L:=n.big;have f:aB w3 (w3.alloc j):=(Below.refl _ _).alloc (zx _) j;have P:w3.ownsRow B 86 2 v Q.length (bF Q):=A.row g.1 (by decide) (by decide) (λk r e=>by
  obtain ⟨C,p⟩:=n.nbT e;exact dY g.1 p (by decide) r)
 have s:=bJ P f (zx _);have y:∀{d:Value} {i:List Nd} {t:Nat},w3.ownsRow t 117 2 d i.length (bA i)->w5.ownsRow t 117 2 d i.length (bA i):=λhq=>dR (bJ hq f (zx _)) q (gB (bJ hq f (zx _)) s (by decide))
 have D:M0++aU (R++[(o,x)])=M0++aU R++aN o x.2:=by rw [aMw,<-zv]
 have E:cU M0.length (R++[(o,x)])=cU M0.length R++[(M0++aU R).length]:=by rw [aMx,zs]
 refine ⟨by rw [D,E];exact (m.below f).lits s q,by simp [z],?_,?_,?_,?_⟩
 ·rw [zo,O,bB9 R ls z];rfl
 ·have F:bF (Q++[((x.1,l),v3)])=bF Q++[.bool x.1,v3]:=by simp [bF]
  rw [F,zs];exact G
 ·intro d hq;rcases zu.1 hq with hq|hq
  ·exact ⟨y (A.row (g.2 d hq).1 (by decide) (by decide) (g.2 d hq).2.2),(g.2 d hq).2⟩
  ·simp at hq;subst hq;refine ⟨iH (y u) L,H,λk r e=>?_⟩;obtain ⟨C,p⟩:=n.nbT e;have S:=(zz.1 p).1;have T:=(cO u k r).1;omega
 ·have I:=N.trans M;have J:=I.trans (f.mono m.big);exact J.grown q (by have:=m.big;simp;omega) (λk e=>(cO s k e).1)
end
theorem bBa{out:Nat}:∀(b a:Nat),a+b<=c.length->∃d,iS c out (a+b)=iS c out a++d:=by
 intro b;induction b with
 |zero=>intro a _;exact ⟨[],by simp⟩
 |succ b ih=>
  intro a g;obtain ⟨d,f⟩:=ih a (by omega);by_cases e:a+b=out
  ·refine ⟨d,?_⟩;rw [<-f,show a+(b+1)=a+b+1 by omega,e];exact aMs (by omega)
  ·refine ⟨d++[c[a+b]'(by omega)],?_⟩;rw [show a+(b+1)=a+b+1 by omega,aMt (by omega) e,f,zv]
theorem bBb:∀(a d:List (List Lt×Nat)) (b:Nat),bB b (a++d)=bB b a++bB (b+a.length) d:=by
 intro a;induction a with
 |nil=>intro d b;simp [bB]
 |cons x a ih=>
  intro d b;simp only [ze,bB,ih,zv,zd];rw [show b+1+a.length=b+(a.length+1) by omega]
theorem rU:∀(a:List (List Lt×Nat)) (d:Nat) (b:Int×Lt),b∈bB d a->∃e∈a,b.2∈e.1:=by
 intro a;induction a with
 |nil=>intro d b h;simp [bB] at h
 |cons e a ih=>
  intro d b h;rcases zu.1 h with h|h
  ·obtain ⟨k,f,rfl⟩:=zp.1 h;exact ⟨e,by simp,zf f⟩
  ·obtain ⟨j,g,i⟩:=ih _ b h;exact ⟨j,by simp [g],i⟩
theorem aBl:∀(a:List (List Lt×Nat)) (d:Nat),(∀b∈a,b.1.length<=8)->(bB d a).length<=8*a.length:=by
 intro a;induction a with
 |nil=>intro d _;simp [bB]
 |cons b a ih=>
  intro d e;have i:=e b (by simp);have j:=ih (d+1) (λg f=>e g (by simp [f]));have k:=zc b.1 b.2;simp only [bB,zs,List.length_map,zd];omega
theorem bBc(c:List Lt)(out a:Nat):(iS c out a).length<=a:=by unfold iS;have:=zc (c.take a) out;simp at this;omega
theorem bBd{b:List (List Lt×Nat)}{a:Nat}(k:a<b.length){j:Nat}(l:j<=b[a].1.length):∃e,bB 0 b=(bB 0 (b.take a)++(iS b[a].1 b[a].2 j).map λd=>((a:Int),d))++e:=by obtain ⟨e,i⟩:=bBa (c:=b[a].1) (out:=b[a].2) (b[a].1.length-j) j (by omega);rw [show j+(b[a].1.length-j)=b[a].1.length by omega,aMu] at i;have f:=aMv b 0 a k;rw [zb] at f;have g:=bBb (b.take (a+1)) (b.drop (a+1)) 0;rw [List.take_append_drop] at g;refine ⟨(e.map λd=>((a:Int),d))++bB (0+(b.take (a+1)).length) (b.drop (a+1)),?_⟩;rw [g,f,i,zo];simp only [zv]
theorem bBe{b:List Tg}{i j:Nat}{a:List (Int×Lt)}{e:List (List Nd)}(o:pT (b++aU R) i j (cU b.length R) e)(u:∀l∈a,aQ l.2.2 1=true){g:List Nd}(r:g∈e)(q:500<g.length):eG b i j (R++a) [] false 4:=by
 obtain ⟨k,f⟩:=pT.all a o u;have m:b++aU R++aU a=b++aU (R++a):=by simp [aU]
 have n:cU b.length R++cU (b++aU R).length a=cU b.length (R++a):=by
  have v:∀(R a:List (Int×Lt)) (d:Nat),cU d R++cU (d+(aU R).length) a=cU d (R++a):=by
   intro R;induction R with
   |nil=>intro a d;simp [cU,aU]
   |cons l R ih=>
    intro a d;simp only [ze,cU];rw [<-ih,aB5];simp [Nat.add_assoc]
  rw [zs];exact v R a b.length
 rw [m,n] at f;have s:(R++a).length=(e++k).length:=by obtain ⟨_,_,_,_,_,_,p,_⟩:=f;have:=p.length;rw [aKu] at this;exact this
 obtain ⟨x,t⟩:=aKx (R++a) (e++k) s g (zu.2 (Or.inl r));exact f.out.1 (aY3 t q)
structure zC(w0:World)(B:Nat)(M0:List Tg)(a b:Nat)(rest:List (Int×Lt))(v:Value)(yes:Bool)(er:Int)(w':World):Prop where
 out:∃out,eG M0 a b rest out yes er/\bR B w' v out/\out.length<=100
 low:Below B w0 w'
def CoQ(k:World)(B:Nat)(e:List Tg)(f g:Nat)(j:List (Int×Lt))(i:Ending)(w':World):Prop:=∃b d a,i=.returned (.tuple #[b,.bool d,.int .i64 a])/\zC k B e f g j b d a w'
theorem aMz(b:∀a∈R,a.2.2.length<=60):(aU R).length<=60*R.length:=by
 induction R with
 |nil=>simp [aU]
 |cons a R ih=>
  rw [aB5];have f:=b a (by simp);have g:=ih (λe d=>b e (by simp [d]));simp;omega
theorem bBf{b:List (Lt×Value)}(a:(b.map λl=>l.2.ownBlock).Nodup):((b.map zy).filterMap zw).Nodup:=by rw [List.filterMap_map];unfold List.Nodup at a ⊢;rw [List.pairwise_map] at a;refine List.Pairwise.filterMap _ (λm n k d i o j e=>k ?_) a;subst e;have f:m.2.ownBlock=some d:=i;have g:n.2.ownBlock=some d:=j;rw [f,g]
theorem zD{m:Nat}(b:∀a∈c,a.2.length<=m):aR c<=m*c.length:=by
 induction c with
 |nil=>simp [aR]
 |cons a r ih=>
  have g:=b a (by simp);have i:=ih (λf e=>b f (by simp [e]));have d:aR (a::r)=a.2.length+aR r:=by simp [aR]
  rw [d,zd,Nat.mul_add];omega
structure rV(w0:World)(B tb mp:Nat)(M0:List Tg)(a b pb:Nat)(pc:Array Value)(R:List (Int×Lt))(v:Value)(wr:World):Prop where
 st:∃nb ls Q,oV w0 B tb mp M0 a b R v nb ls Q wr
 prem:wr.heap[pb]?=some (.cells pc 158)
theorem rV.below{k wr l:World}{i:Nat}{d:List Tg}{e f b:Nat}{j:Array Value}{v:Value}(a:rV k B tb i d e f b j R v wr)(g:aB wr l):rV k B tb i d e f b j R v l:=by obtain ⟨p,o,m,n⟩:=a.st;exact ⟨⟨p,o,m,n.below g⟩,by rw [g.block b (zz.1 a.prem).1];exact a.prem⟩
theorem pX.at{nb:Option Nat}(l:pX nb w w'){k:Nat}{cs:Array Value}{a:TypeId}(d:w.heap[k]?=some (.cells cs a))(f:a≠3)(g:a≠165)(i:a≠117)(j:∀k,nb=some k->∃cs,w.heap[k]?=some (.cells cs 117)):w'.heap[k]?=some (.cells cs a):=by
 rw [l k cs a (0,0) d f g (λe=>by
  obtain ⟨m,b⟩:=j k e;rw [d] at b;simp at b;exact i b.2)]
 exact d
theorem aN0(D:World)(B tb a8:Nat)(k:List Tg)(M N J o0:Nat)(S:Array Value)(b5:Nat->Option Addr)(d6:Nat->Nat)(b:List (List Lt×Nat))(w:World)(d8:rV D B tb a8 k M N J S [] (.slice none 0 0) w)(o7:D.heap.size=B)
  (b9:∀a (d8:a<b.length),S[a*2]?=some (.slice (b5 a) b[a].1.length (d6 a))/\S[a*2+1]?=some (.int .i64 b[a].2)/\cH D (b5 a) b[a].1/\b[a].2<b[a].1.length/\b[a].1.length<=8/\∀e∈b[a].1,aQ e.2 1=true/\e.2.length<=60) (d9:b.length<=2) (o9:k.length<=120):Calls zi 106 #[.pointer (some ⟨tb,0,none⟩),.slice (some ⟨J,0,none⟩) b.length o0] w λf w'=>CoQ D B k M N (bB 0 b) f w':=by
 have k5:=aA d8;have T:=aA b9;clear d8 b9;obtain ⟨n6,m2,m3,m4,m5⟩:=info_parts tO;go_enter Tryz.func106,Tryz.ntmps106;go_wp2;go_loopw [7,16] (λg5 n wr=>∃a:Nat,a<=b.length/\n=.int .i64 a/\rV D B tb a8 k M N J S (bB 0 (b.take a)) g5 wr) (λ_ n _=>b.length-(intOf n).toNat);case atStart=>exact ⟨0,za _,rfl,by simpa [bB] using k5.o⟩
 case round=>
  obtain ⟨a,i7,rfl,P⟩:=hrel;by_cases f3:a<b.length
  ·obtain ⟨j8,j9,k0,q3,q4,k1⟩:=T.o a f3;have p6:(a:Int)<(b.length:Int):=by omega
   have A:wr.cell? ⟨J,a*2,none⟩=some (.slice (b5 a) b[a].1.length (d6 a)):=by simp [zk,P.prem,j8]
   have F:wr.cell? ⟨J,a*2+1,none⟩=some (.int .i64 b[a].2):=by simp [zk,P.prem,j9]
   have l7:=aA P;have h1:=aA k0;have h7:=aA k1;have h6:=aA (aMv b 0 a f3);rw [zb] at h6;have l4:=aA (λd i5=>bBd f3 (j:=d) i5);generalize b[a].1=c at *;generalize b[a].2=out at *;clear P j8 j9 k0 k1;obtain ⟨b6,h9⟩ : ∃e,b5 a=e:=⟨_,rfl⟩;rw [h9] at A h1;obtain ⟨O,i4⟩ : ∃e,d6 a=e:=⟨_,rfl⟩;rw [i4] at A;clear h9 i4;go_wp2;clear A F;have i0:aB wr (wr.alloc (.cells #[.slice b6 c.length O,.int .i64 out] 158)):=(Below.refl _ _).alloc (zx _) _;have l8:=aA (l7.o.below i0);have i2:(wr.alloc (.cells #[.slice b6 c.length O,.int .i64 out] 158)).heap[wr.heap.size]?=some (.cells #[.slice b6 c.length O,.int .i64 out] 158):=by show (wr.heap.push _)[wr.heap.size]?=_;simp
   have k2:=aA i2;clear i0 i2;go_loopw [7,24] (λg5 n g=>∃d:Nat,d<=c.length/\n=.int .i64 d/\rV D B tb a8 k M N J S (bB 0 (b.take a)++(iS c out d).map λr=>((a:Int),r)) g5 g/\g.heap[wr.heap.size]?=some (.cells #[.slice b6 c.length O,.int .i64 out] 158)) (λ_ n _=>c.length-(intOf n).toNat);case atStart=>exact ⟨0,za _,rfl,by simpa [bB8] using l8.o,k2.o⟩
   case round=>
    obtain ⟨d,i5,rfl,G,C⟩:=hrel;rename World=>g
    by_cases e9:d<c.length
    ·have p3:(d:Int)<(c.length:Int):=by omega
     obtain ⟨n8,i,L,o⟩:=G.st;obtain ⟨d5,g4,y,z,rfl,A,d7,b7⟩:=h1.o.cell d e9;have F:=Below.at' o.low (by omega) A;have o6:=Below.at' o.low (by omega) d7;obtain ⟨q7,q8⟩ : g.cell? ⟨wr.heap.size,0,none⟩=some (.slice (some ⟨d5,g4,none⟩) c.length O)/\g.cell? ⟨wr.heap.size,1,none⟩=some (.int .i64 out):=⟨by simp [zk,C],by simp [zk,C]⟩;have n5:wr.heap.size<g.heap.size:=(zz.1 C).1;by_cases i6:d=out
     ·subst i6;have d4:=aA (G.below ((Below.refl g.heap.size g).alloc (zx _) (.cells #[.bool c[d].1,.slice y c[d].2.length z] 86)));have k3:aM ((g.alloc (.cells #[.bool c[d].1,.slice y c[d].2.length z] 86)).heap[wr.heap.size]?=some (.cells #[.slice (some ⟨d5,g4,none⟩) c.length O,.int .i64 d] 158)):=aA (by rw [((Below.refl g.heap.size g).alloc (zx _) _).block _ (zz.1 C).1];exact C);have l3:=aA (aMs e9);clear G C o A d7 b7;go_wp2;go_roundw;case rel=>exact ⟨d+1,by omega,by go_num,by rw [l3.o];exact d4.o,k3.o⟩
      case measure=>simp [intOf];omega
     ·have p4:¬((d:Int)=(out:Int)):=by omega
      obtain ⟨a9,q5⟩:=h7.o c[d] (List.getElem_mem _);have a3:∀x∈bB 0 (b.take a)++(iS c out d).map λr=>((a:Int),r),x.2.2.length<=60:=by
       intro x hr;rcases zu.1 hr with hr|hr
       ·obtain ⟨p,m,a5⟩:=rU _ _ x hr;obtain ⟨n,u,rfl⟩:=zt (zj m);exact ((T.o n u).2.2.2.2.2 _ a5).2
       ·obtain ⟨r,f0,rfl⟩:=zp.1 hr;exact (h7.o r (zj (zf f0))).2
      have h8:(bB 0 (b.take a)++(iS c out d).map λr=>((a:Int),r)).length<=24:=by
       have W:=aBl (b.take a) 0 (λp m=>by
        obtain ⟨n,u,rfl⟩:=zt (zj m);exact (T.o n u).2.2.2.2.1)
       have d9:=bBc c out d;simp at W ⊢;omega
      have e3:bB 0 (b.take a)++(iS c out (d+1)).map (λr=>((a:Int),r))=(bB 0 (b.take a)++(iS c out d).map λr=>((a:Int),r))++[((a:Int),c[d])]:=by rw [aMt e9 i6,zo,zv];rfl
      obtain ⟨o1,c0⟩:=l4.o (d+1) (by omega);have l2:=aA e3;rw [e3] at c0;have l5:=aA c0;have l6:aM (∀x∈o1,aQ x.2.2 1=true):=aA λx hr=>by
       obtain ⟨p,m,a5⟩:=rU b 0 x (by rw [c0];exact zu.2 (Or.inr hr));obtain ⟨n,u,rfl⟩:=zt m;exact ((T.o n u).2.2.2.2.2 _ a5).1
      have f2:=aMz a3;clear e3 c0 a3;generalize bB 0 (b.take a)++(iS c out d).map (λr=>((a:Int),r))=R at *;have b8:(k++aU R).length<=2000:=by simp;omega
      have a4:aB g (g.alloc (.cells #[.bool c[d].1,.slice y c[d].2.length z] 86)):=(Below.refl _ _).alloc (zx _) _;have e4:=o.below a4;have i1:(g.alloc (.cells #[.bool c[d].1,.slice y c[d].2.length z] 86)).heap[g.heap.size]?=some (.cells #[.bool c[d].1,.slice y c[d].2.length z] 86):=by show (g.heap.push _)[g.heap.size]?=_;simp
      have i3:(g.alloc (.cells #[.bool c[d].1,.slice y c[d].2.length z] 86)).heap[wr.heap.size]?=some (.cells #[.slice (some ⟨d5,g4,none⟩) c.length O,.int .i64 out] 158):=by rw [a4.block _ n5];exact C
      have j3:(g.alloc (.cells #[.bool c[d].1,.slice y c[d].2.length z] 86)).heap[J]?=some (.cells S 158):=by rw [a4.block _ (zz.1 G.prem).1];exact G.prem
      have p9:0<c[d].2.length:=by
       cases hc0:c[d].2 with
       |nil=>rw [hc0] at a9;simp [aQ] at a9
       |cons=>simp
      have c5:=aA (bB6 e4.con (a:Int) y z c[d].2 ((b7.below o.low (by omega)).below a4 (zx _)) a9 (λn9 b9=>by have:=yP b7 a9 n9 b9;omega) (by omega) (by omega));have E:=aA e4;have c8:=aA (zl i1 (zl i3 j3));have p8:(g.alloc (.cells #[.bool c[d].1,.slice y c[d].2.length z] 86)).heap.size=g.heap.size+1:=by simp
      clear G C o A d7 b7 e4 a4 i1 i3 j3 a9;generalize c[d]=e at *;have n1:(k++aU R++aN (a:Int) e.2).length=(k++aU R).length+e.2.length:=by rw [zs,List.length_map]
      have f4:(k++aU R).length<(k++aU R++aN (a:Int) e.2).length:=by omega
      have i9:(k++aU R++aN (a:Int) e.2).length<=1000000:=by omega
      obtain ⟨b4,e2⟩ : ∃b4,(k++aU R).length=b4:=⟨_,rfl⟩;rw [e2] at c5 f4;have h2:=aA (zl f4 i9);have h4:=aA e2;clear n1 f4 i9 b8 f2 e2;go_upto_region 10 with (first
       |(go_at_call 122;refine (aD g7).mono ?_;rintro f l ⟨q6,o3,rfl,H,q2,j5,I,j6,j1⟩;have c9:=aA H;have a1:=aA j5;have l9:=aA j6;have k8:=aA j1;clear H j5 j6 j1)
       |(go_at_call 105;refine (aD c5).mono ?_;rintro f q ⟨rfl,s,e8,e7,j0,a7⟩;have b1:=aA (E.o.add e7 j0 a7);have d0:=aA (zl (a7.at c8.o.1 (by decide) (by decide) (by decide) (λ_ f=>E.o.con.nbT f)) (zl (a7.at c8.o.2.1 (by decide) (by decide) (by decide) (λ_ f=>E.o.con.nbT f)) (a7.at c8.o.2.2 (by decide) (by decide) (by decide) (λ_ f=>E.o.con.nbT f))));have q0:=e7.size;have Z:=aA e8;have g7:=aA (bB7 e8 b4 h2.o.1 h2.o.2);clear e7 j0 a7 e8)
       |go_in)
      have c1:=zl (a1.o.at d0.o.1 (by decide) (by decide) (by decide) (λ_ f=>Z.o.nbT f)) (zl (a1.o.at d0.o.2.1 (by decide) (by decide) (by decide) (λ_ f=>Z.o.nbT f)) (a1.o.at d0.o.2.2 (by decide) (by decide) (by decide) (λ_ f=>Z.o.nbT f)));obtain ⟨q9,r0⟩ : l.cell? ⟨g.heap.size,0,none⟩=some (.bool e.1)/\l.cell? ⟨g.heap.size,1,none⟩=some (.slice y e.2.length z):=⟨by simp [zk,c1.1],by simp [zk,c1.1]⟩;have g9:=aA c1;clear c1 g7 c5;cases o3 with
      |false=>
       obtain ⟨g2,j7,Y⟩:=k8.o rfl;subst g2;have X:=Y.pure;have A:k++aU R++aN (a:Int) e.2=k++aU (R++[((a:Int),e)]):=by rw [aMw,<-zv]
       have F:cU k.length R++[b4]=cU k.length (R++[((a:Int),e)]):=by rw [aMx,<-h4.o,zs]
       rw [A,F] at X;have k7:aM (eG k M N (bB 0 b) [] false 4):=aA (by rw [l5.o];exact bBe X l6.o (zu.2 (Or.inr (List.mem_singleton.2 rfl))) j7);have d1:=aA (b1.o.2.trans c9.o);clear Y X A F;go_wp2;go_returns;exact ⟨_,_,_,rfl,⟨⟨[],k7.o,bR.nil _ _,by simp⟩,d1.o⟩⟩
      |true=>
       obtain ⟨g2,j7,Y,c2⟩:=l9.o rfl;rw [<-h4.o] at c2;obtain ⟨U,V,rfl⟩:=aZ Y;have f8:l.ownsRow B 86 2 u7 L.length (bF L):=a1.o.row b1.o.1.1 (by decide) (by decide) (λa i7 f=>by
        obtain ⟨a2,m7⟩:=Z.o.nbT f;exact dY b1.o.1.1 m7 (by decide) i7)
       have p0:L.length<=24:=by have W:=congrArg List.length E.o.made;have d9:=E.o.len;simp [bX] at W;omega
       obtain ⟨c3,c4,n4⟩:=aZ f8;subst n4;have h5:=aA f8;have o8:B<=l.heap.size:=c2.big;have k9:=aA Y;have l0:=aA c2;clear f8 Y c2;generalize hql:L.length=ql at *;have l1:=aA hql;clear hql;go_wp2_with (first
        |(at_builtin;refine wpList_append_own _ rfl (.tmp 45) (.tmp 50) 51 rfl B 86 n6 (.agg #[.bool false,.slice none 0 0]) 2 32 Tryz.underlying51 m2 m3 m4 m5 rfl (by decide) _ _ _ rfl (h5.o.alloc _) ⟨_,0,none⟩ 1 1 [.bool e.1,.slice U I.length V] rfl rfl (kW l _ _ _ _ rfl) (tP _ _ _ _) (by unfold maxLen;omega) (by omega) (by simp;omega) ?_;intro o2 g6 a6 Q _;have a0:=aA a6;have k4:=aA Q;clear a6 Q)
        |go_in)
       have q1:=c9.o.size;have e1:aB l (l.alloc (.cells #[.bool e.1,.slice U I.length V] 86)):=(Below.refl _ _).alloc (zx _) _;have j4:(l.alloc (.cells #[.bool e.1,.slice U I.length V] 86)).ownsRow B 86 2 (.slice c3 ql c4) ql (bF L):=bJ h5.o e1 (zx _);have Q:(l.alloc (.cells #[.bool e.1,.slice U I.length V] 86)).grownBy g6 (Value.slice c3 ql c4).ownBlock:=k4.o;have g1:∀{p:Nat} {a2:Array Value},l.heap[p]?=some (.cells a2 158)->g6.heap[p]?=some (.cells a2 158):=by
        intro p a2 m;have f7:(l.alloc (.cells #[.bool e.1,.slice U I.length V] 86)).heap[p]?=some (.cells a2 158):=by rw [e1.block p (zz.1 m).1];exact m
        rw [Q.block p (zz.1 f7).1 (λf=>dY j4 f7 (by decide) f.symm)];exact f7
       have k6:aM (oV D B tb a8 k M N (R++[((a:Int),e)]) o2 s (i++[I]) (L++[((e.1,I),.slice U I.length V)]) g6):=aA (by
        have n0:=E.o.len;have n2:=E.o.made;have e5:=b1.o;have a6:=a0.o;rw [<-l1.o] at e5 a6 Q;exact oV.put (x:=e) n0 n2 e5.1 e5.2 Z.o l0.o c9.o a1.o g2 k9.o a6 Q)
       have h0:=aA (zl (g1 g9.o.2.1) (g1 g9.o.2.2));clear e1 j4 Q g1;go_roundw;case rel=>exact ⟨d+1,by omega,by go_num,⟨⟨_,_,_,by rw [l2.o];exact k6.o⟩,h0.o.2⟩,h0.o.1⟩
       case measure=>simp [intOf];omega
    ·have m8:d=c.length:=by omega
     subst m8;have p2:¬((c.length:Int)<(c.length:Int)):=by omega
     have d4:aM (rV D B tb a8 k M N J S (bB 0 (b.take (a+1))) u7 g):=aA (by rw [h6.o,<-aMu];exact G);clear G C;go_wp2;go_roundw;case rel=>exact ⟨a+1,by omega,by go_num,d4.o⟩
     case measure=>simp [intOf];omega
  ·have m9:a=b.length:=by omega
   subst m9;have p5:¬((b.length:Int)<(b.length:Int)):=by omega
   rw [z6] at P;obtain ⟨n8,i,L,o⟩:=P.st;have a3:∀x∈bB 0 b,x.2.2.length<=60:=by intro x hr;obtain ⟨p,m,a5⟩:=rU _ _ x hr;obtain ⟨n,u,rfl⟩:=zt m;exact ((T.o n u).2.2.2.2.2 _ a5).2
   have h8:=aBl b 0 (λp m=>by
    obtain ⟨n,u,rfl⟩:=zt m;exact (T.o n u).2.2.2.2.1)
   have f2:=aMz a3;have b8:(k++aU (bB 0 b)).length<=1000000:=by simp;omega
   have f6:=o.con.nodes b8;have X:=o.con.pure.out;have p1:(bX (bB 0 b) i).length<=16:=by simp [bX];omega
   have f5:∀e∈bX (bB 0 b) i,e.2∈i:=by intro e v;unfold bX at v;rw [List.mem_iff_getElem] at v;obtain ⟨n,u,rfl⟩:=v;simp at u ⊢
   have e0:∀e∈bX (bB 0 b) i,e.2.length<=500:=by intro e v;rw [<-o.made] at v;obtain ⟨p,m,rfl⟩:=zp.1 v;exact (o.atoms p m).2.1
   have m6:=zD e0;have f9:vW (bX (bB 0 b) i):=λe v=>⟨by have:=e0 e v;omega,(f6 e.2 (f5 e v)).2⟩
   obtain ⟨c3,c4,rfl,i8⟩:=aJ6 o.made o.row (λp m=>(o.atoms p m).1) (by omega) f9;have g8:=aA (aK0 c3 c4 (bX (bB 0 b) i) wr i8 (λe v=>(f6 e.2 (f5 e v)).1) (by omega) (by omega));have p7:(aV (bX (bB 0 b) i)).length<=16:=by have W:=(mD (bX (bB 0 b) i)).1;have d9:=(pA (bT (bX (bB 0 b) i))).1;unfold aV;omega
   have j2:vW (aV (bX (bB 0 b) i)):=f9.ord;have d3:=aA X;have d1:=aA o.low;have b2:=aA o.con.big;have c6:=aA (λ(q:World) (b0:Value) (s:Nat) (t:List (Lt×Value)) (j:wF wr (bX (bB 0 b) i) b0 s t q)=>(show Calls zi 44 #[.slice (some ⟨s,0,none⟩) (aV (bX (bB 0 b) i)).length (aV (bX (bB 0 b) i)).length] q λf w'=>f=.returned (.int .i64 (aR (aV (bX (bB 0 b) i))))/\aB q w' from by
    have f1:t.length=(aV (bX (bB 0 b) i)).length:=by rw [<-j.made];simp
    obtain ⟨o4,o5,F,f0⟩:=aJ6 j.made (by have:=j.row;rw [<-f1] at this;exact this) j.atoms (by omega) j2;simp at F;obtain ⟨rfl,_⟩:=F;exact aE1 _ _ _ q f0 (by omega)))
   have h3:=aA (λ(q l:World) (b0:Value) (s:Nat) (t:List (Lt×Value)) (j:wF wr (bX (bB 0 b) i) b0 s t q) (e6:aB q l)=>(show bR B l (.slice (some ⟨s,0,none⟩) (aV (bX (bB 0 b) i)).length (aV (bX (bB 0 b) i)).length) (aV (bX (bB 0 b) i))/\Below B D l from by
    have f1:t.length=(aV (bX (bB 0 b) i)).length:=by rw [<-j.made];simp
    refine ⟨⟨t,j.made,?_,λp m=>iH (bJ (j.atoms p m) e6 (zx _)) b2.o,bBf j.once⟩,(d1.o.trans (j.low.mono b2.o)).trans (e6.mono (zq b2.o j.low.size))⟩;have W:=iH (bJ j.row e6 (zx _)) b2.o;rw [f1];exact W))
   clear P o X f6 f5 e0 f9 i8 m6 j2 b8 f2 a3 h8;generalize bX (bB 0 b) i=cc at *;obtain ⟨g3,n3⟩ : ∃n7,aR (aV cc)=n7:=⟨_,rfl⟩;rw [n3] at c6 d3;by_cases m0:500<g3
   ·have m1:(500:Int)<(g3:Int):=by omega
    have a0:=aA (d3.o.1 m0);go_wp2_with (first
     |(go_at_call 42;refine (aD g8).mono ?_;rintro f q ⟨b0,s,t,rfl,j⟩;have g0:=j.val;subst g0;have d2:=aA j;have c7:=aA (c6.o q _ s t j);clear j)
     |(go_at_call 44;refine (aD c7).mono ?_;rintro f l ⟨rfl,H⟩;have b3:=aA (h3.o q l _ s t d2.o H);clear H)
     |go_in)
    go_returns;exact ⟨_,_,_,rfl,⟨⟨[],a0.o,bR.nil _ _,by simp⟩,b3.o.2⟩⟩
   ·have m1:¬((500:Int)<(g3:Int)):=by omega
    have a0:=aA (d3.o.2 (by omega));go_wp2_with (first
     |(go_at_call 42;refine (aD g8).mono ?_;rintro f q ⟨b0,s,t,rfl,j⟩;have g0:=j.val;subst g0;have d2:=aA j;have c7:=aA (c6.o q _ s t j);clear j)
     |(go_at_call 44;refine (aD c7).mono ?_;rintro f l ⟨rfl,H⟩;have b3:=aA (h3.o q l _ s t d2.o H);clear H)
     |go_in)
    go_returns;exact ⟨_,_,_,rfl,⟨⟨_,a0.o,b3.o.1,by omega⟩,b3.o.2⟩⟩
