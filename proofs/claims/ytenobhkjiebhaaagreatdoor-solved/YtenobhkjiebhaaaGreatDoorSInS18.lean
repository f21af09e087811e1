import Derived.Test.YtenobhkjiebhaaaGreatDoorSParS18
import Derived.Deep.RegionLaw
import Derived.Deep.RegionHeld3
open Bool renaming false->zp,true->zb
open List renaming length->Z,take_succ_eq_append_getElem->zm,length_append->zj,getElem?_append_left->zi,getElem?_eq_none->zf,length_cons->zc
open Nat renaming le_refl->zs,zero_le->zh
open Option renaming some->zv,none->zo
open Or renaming inr->zg,inl->ze
namespace Go.Proofs.YtenobhkjiebhaaaGreatDoor
open Go renaming Value->U,World->zt
open _root_.Go.Proofs.Tryz renaming prog->zl,underlying50->zd
open Value renaming ownBlock->zw,string->zn
open World renaming ownsRow->V,setCell->Y,grownBy->zr,cell?->zq,frozen?->zk
open Go.RowKit
set_option maxHeartbeats 10000000
set_option maxRecDepth 100000
variable{brk:Int}{l:List Nd}{B B' pa:Nat}{st:bC}{a w w' w0:zt}{vB vC vL vP vV vl:U}
theorem bCb:(Tryz.prog.info? 9).map (λb=>(b.zero,b.size,b.bytes))=zv (zv (.string ⟨#[]⟩),1,16):=by kernel_rfl
theorem bCc:(Tryz.prog.info? 137).map (λb=>(b.zero,b.size,b.bytes))=zv (zv (.agg #[.string ⟨#[]⟩,.bool zp,iQ 0,iQ 0]),4,40):=by kernel_rfl
def lB(l:List Pl):List U:=l.flatMap λb=>[.string b.1,.bool b.2.1,iQ b.2.2.1,iQ b.2.2.2]
theorem bCd(l:List Pl)(b:Pl):lB (l++[b])=lB l++[.string b.1,.bool b.2.1,iQ b.2.2.1,iQ b.2.2.2]:=by simp[lB]
structure cM(B B':Nat)(w w':zt):Prop where
 os:w'.os=w.os
 tape:w'.tape=w.tape
 output:w'.output=w.output
 size:w.heap.size<=w'.heap.size
 block:∀k,k<w.heap.size->(k<B\/∀cs T fr,w.heap[k]?=zv (.cells cs T fr)->T≠137/\T≠9/\T≠91/\(T=52->k<B'))->w'.heap[k]?=w.heap[k]?
theorem cM.refl(B B':Nat)(w:zt):cM B B' w w:=⟨rfl,rfl,rfl,zs _,λ_ _ _=>rfl⟩
theorem cM.trans{B B':Nat}{a b c:zt}(d:cM B B' a b)(k:cM B B' b c):cM B B' a c:=
 ⟨k.os.trans d.os,k.tape.trans d.tape,k.output.trans d.output,Nat.le_trans d.size k.size,λi g f=>by
  have e:=d.block i g f;rw[k.block i (Nat.lt_of_lt_of_le g d.size) (by rw[e];exact f),e]⟩
theorem cM.of_below(b:aB w w'):cM B B' w w':=⟨b.os,b.tape,b.output,b.size,λk c _=>b.block k c⟩
theorem cM.below(b:cM B B' w w')(d:B<=w.heap.size):Below B w w':=⟨b.os,b.tape,b.output,b.size,λk c=>b.block k (by omega) (ze c)⟩
theorem cM.alloc(c:cM B B' a w)(b:Obj):cM B B' a (w.alloc b):=c.trans (.of_below (aI _ b))
theorem cM.drawn(c:cM B B' a w)(b:Nat):cM B B' a (w.drewN b):=c.trans (.of_below (aN ⟨b,rfl⟩))
theorem cM.grownBox{f:Nat}{c:Int}(d:cM B B' a w)(hb:bX w pa vL f c vP vC vB vV)(i:B<=pa)(b:zr w w' (zv pa)):cM B B' a w':=by refine d.trans ⟨b.os,b.tape,b.output,b.size,λk e g=>b.block k e ?_⟩;grind[bX]
theorem cM.grownRow{d:Nat}{c:TypeId}{n:Nat}{f:U}{m:Nat}{o:List U}(g:cM B B' a w)(j:V w d c n f m o)(s:B<=d)(v:c=137\/c=9\/c=52/\B'<=d)(b:zr w w' (zw f)):cM B B' a w':=by
 refine g.trans ⟨b.os,b.tape,b.output,b.size,λk i u=>b.block k i ?_⟩;intro e;obtain⟨_,⟨rfl,_⟩|⟨r,p,q,rfl,t,x,_⟩⟩:=j
 .simp[zw]at e
 simp[zw]at e;grind
structure cJ(B:Nat)(w:zt)(pa:Nat)(L:List Tk)(st:bC)(bad:Int)(vL vP vC vB vV:U):Prop where
 high:B<=pa
 box:bX w pa vL st.i bad vP vC vB vV
 toks:V w B 93 3 vL (Z L) (mT L)
 pz:V w B 137 4 vP (Z st.pz) (lB st.pz)
 vars:V w B 9 1 vV (Z st.vars) (st.vars.map zn)
section
variable {B pa:Nat}{w w':zt}{L:List Tk}{st:bC}{bad:Int}{vL vP vC vB vV:U}
theorem cJ.below(b:cJ B w pa L st bad vL vP vC vB vV)(k:aB w w'):cJ B w' pa L st bad vL vP vC vB vV:=
 ⟨b.high,b.box.below k (zs _),bF b.toks k (zs _),bF b.pz k (zs _),bF b.vars k (zs _)⟩
theorem cJ.alloc(c:cJ B w pa L st bad vL vP vC vB vV)(b:Obj):cJ B (w.alloc b) pa L st bad vL vP vC vB vV:=c.below (aI _ b)
theorem cJ.drawn(c:cJ B w pa L st bad vL vP vC vB vV)(b:Nat):cJ B (w.drewN b) pa L st bad vL vP vC vB vV:=c.below (aN ⟨b,rfl⟩)
theorem cJ.setI(b:cJ B w pa L st bad vL vP vC vB vV)(c:Nat):cJ B (Y w (aQ pa 1) (iQ c)) pa L ⟨c,st.vars,st.pz⟩ bad vL vP vC vB vV:=
 ⟨b.high,b.box.set1 c,b.box.row b.toks (by decide) _ _,b.box.row b.pz (by decide) _ _,b.box.row b.vars (by decide) _ _⟩
theorem cJ.grownBox(b:cJ B w pa L st bad vL vP vC vB vV){g:Int}(f:zr w w' (zv pa))(hb:bX w' pa vL st.i g vP vC vB vV):cJ B w' pa L st g vL vP vC vB vV:=by
 have e:∀{d:TypeId}{k:Nat}{c:U}{j:Nat}{m:List U},V w B d k c j m->d≠91->zw c=zo\/zw c≠zv pa:=by
  intro d k c j m n r;obtain⟨_,⟨rfl,_⟩|⟨q,o,p,rfl,_,s,_⟩⟩:=n
  .exact ze rfl
  right;intro i;simp[zw]at i;subst i;have:=b.box;grind[bX]
 exact⟨b.high,hb,b.toks.kept f (e b.toks (by decide)),b.pz.kept f (e b.pz (by decide)),b.vars.kept f (e b.vars (by decide))⟩
theorem cJ.far(b:cJ B w pa L st bad vL vP vC vB vV){k:Nat}{d:TypeId}{p:Nat}{v:U}{n:Nat}{q:List U}(i:V w k d p v n q)(e:d≠91/\d≠93/\d≠137/\d≠9)(f:zr w w' (zw v)):cJ B w' pa L st bad vL vP vC vB vV:=by
 refine⟨b.high,?_,b.toks.kept f (dC b.toks i e.2.1.symm),b.pz.kept f (dC b.pz i e.2.2.1.symm),b.vars.kept f (dC b.vars i e.2.2.2.symm)⟩;have c:=b.box;have o:=c.lt;unfold bX at c ⊢;rw[f.block pa o ?_]
 .exact c
 intro j;obtain⟨_,⟨rfl,_⟩|⟨g,r,s,rfl,_,m,_⟩⟩:=i
 .simp[zw]at j
 simp[zw]at j;subst j;rw[m]at c;simp at c;exact e.1 c.2
theorem cJ.moreV(c:cJ B w pa L st bad vL vP vC vB vV){d:U}{g:ByteArray}(k:V w' B 9 1 d (Z st.vars+1) (st.vars.map zn++[.string g]))(f:zr w w' (zw vV)):bX w' pa vL st.i bad vP vC vB vV/\cJ B (Y w' (aQ pa 6) d) pa L ⟨st.i,st.vars++[g],st.pz⟩ bad vL vP vC vB d:=by
 have b:bX w' pa vL st.i bad vP vC vB vV:=by
  have b:=c.box;have j:=b.lt;unfold bX at b ⊢;rw[f.block pa j ?_]
  .exact b
  intro e;obtain⟨_,⟨rfl,_⟩|⟨o,m,n,rfl,_,i,_⟩⟩:=c.vars
  .simp[zw]at e
  simp[zw]at e;subst e;rw[i]at b;simp at b
 refine⟨b,c.high,b.set6 d,b.row (c.toks.kept f (dC c.toks c.vars (by decide))) (by decide) _ _,b.row (c.pz.kept f (dC c.pz c.vars (by decide))) (by decide) _ _,b.row ?_ (by decide) _ _⟩;rw[List.map_append,zj];exact k
theorem cJ.moreP(c:cJ B w pa L st bad vL vP vC vB vV){e:U}{d:Pl}(k:V w' B 137 4 e (Z st.pz+1) (lB st.pz++[.string d.1,.bool d.2.1,iQ d.2.2.1,iQ d.2.2.2]))(g:zr w w' (zw vP)):bX w' pa vL st.i bad vP vC vB vV/\cJ B (Y w' (aQ pa 3) e) pa L ⟨st.i,st.vars,st.pz++[d]⟩ bad vL e vC vB vV:=by
 have b:bX w' pa vL st.i bad vP vC vB vV:=by
  have b:=c.box;have j:=b.lt;unfold bX at b ⊢;rw[g.block pa j ?_]
  .exact b
  intro f;obtain⟨_,⟨rfl,_⟩|⟨o,m,n,rfl,_,i,_⟩⟩:=c.pz
  .simp[zw]at f
  simp[zw]at f;subst f;rw[i]at b;simp at b
 refine⟨b,c.high,b.set3 e,b.row (c.toks.kept g (dC c.toks c.pz (by decide))) (by decide) _ _,b.row ?_ (by decide) _ _,b.row (c.vars.kept g (dC c.vars c.pz (by decide))) (by decide) _ _⟩;rw[bCd,zj];exact k
end
theorem bCe{g:U}{l:List ByteArray}(e:V w B 9 1 g (Z l) (l.map zn)):∃a d,g=.slice a (Z l) d/\∀c (e:c<Z l),∃b,a=zv (aQ b 0)/\zq w (aQ b c)=zv (.string l[c]):=by
 obtain⟨j,⟨rfl,k⟩|⟨b,d,i,rfl,m,o,n,p,s,r⟩⟩:=e
 .exact⟨zo,0,by rw[k],λc f=>by omega⟩
 have q:V w B 9 1 (sQ b (Z l) d) (Z l) (l.map zn):=⟨j,zg ⟨b,d,i,rfl,m,o,n,p,s,r⟩⟩;refine⟨_,_,rfl,λc f=>⟨b,rfl,?_⟩⟩;rw[q.cellAt c (by omega)];simp[f]
theorem bCf{b:zt}{i:List Tk}{j:Int}{d:U}{n:ByteArray}(k:cJ B w pa i st j vL vP vC vB vV)(m:V w B' 52 2 vl (Z l) (aV l))(q:cM B B' w0 w)(c:Obj)
  (t:V b B 9 1 d (Z st.vars+1) (st.vars.map zn++[.string n])) (f:zr (w.alloc c) b (zw vV)):cQ b pa 6 vV/\zk b (aQ pa 6)=zp/\w.heap.size<b.heap.size/\
   cJ B (Y b (aQ pa 6) d) pa i ⟨st.i,st.vars++[n],st.pz⟩ j vL vP vC vB d/\V (Y b (aQ pa 6) d) B' 52 2 vl (Z l) (aV l)/\cM B B' w0 (Y b (aQ pa 6) d):=by
 have g:=k.alloc c;obtain⟨e,o⟩:=cJ.moreV g t f;have u:=f.size;have p:zw vl=zo\/zw vl≠zw vV:=dC (m.alloc c) g.vars (by decide);have s:=(m.alloc c).kept f p;have r:=(q.alloc c).grownRow g.vars (zs _) (zg (ze rfl)) f;exact⟨e.c6,e.soft 6,by simp at u;omega,o,e.row s (by decide) _ _,r.grownBox e k.high (cD _ _ _)⟩
theorem bCg(B B' pa:Nat)(brk:Int)(st:bC)(vL vP vC vB vV vl:U)(e:List Tk)(l:List Nd)(w:zt)(G:cJ B w pa e st (-1) vL vP vC vB vV)(b9:V w B' 52 2 vl (Z l) (aV l))(b4:B<=B')(e8:B'<=w.heap.size)
  (b8:(aH e st.i).kind=118) (f0:st.i<=5000000) (f1:Z l<=5000000) (f7:Z st.vars<=5000000):Calls zl 71 #[pQ pa,vl,.bool zp,iQ brk] w λb3 w'=>∃c8 e4,b3=.returned c8/\cJ B w' pa e ⟨st.i+1,mX st.vars (aH e st.i).txt,st.pz⟩ (-1) vL vP vC vB e4/\
   V w' B' 52 2 c8 (Z l+1) (aV (l++[(⟨#[]⟩,lU st.vars (aH e st.i).txt)]))/\cM B B' w w':=by
 have R:=rA B pa st.i (-1) vL vP vC vB vV e w G.box G.toks;have b0:=O G;have a7:=O b9;clear G b9;generalize aH e st.i=t at *;obtain⟨f8,c,a2⟩:=t;simp only at b8;subst b8;rw[show pM ⟨118,c,a2⟩=.agg #[.int .u8 118,.string c,iQ a2] from rfl]at R;go_enter Tryz.func71,Tryz.ntmps71;go_wp2_with(go_at_call 38;refine R.mono ?_;rintro b3 k ⟨rfl,y⟩;have j:=O (b0.o.below y);have a8:=O (bF a7.o y (zs _));have a5:aE (cM B B' w k):=O (.of_below y);have f5:=y.size;have d3:∀d,zq (k.alloc d) (aQ pa 1)=zv (iQ st.i):=(λd=>(j.o.alloc d).box.c1);have d6:∀d,zk (k.alloc d) (aQ pa 1)=false:=(λd=>(j.o.alloc d).box.soft 1));have a0:∃i,i=Y (k.alloc (.cells #[.int .u8 118,.string c,iQ a2] 93)) (aQ pa 1) (iQ ((st.i:Int)+1)):=⟨_,rfl⟩;obtain⟨i,m⟩:=a0;rw[<-m];have f4:=j.o.box.lt;have H:cJ B i pa e ⟨st.i+1,st.vars,st.pz⟩ (-1) vL vP vC vB vV:=by rw[m];exact(j.o.alloc _).setI (st.i+1)
 have A:V i B' 52 2 vl (Z l) (aV l):=by rw[m];exact(j.o.alloc _).box.row (a8.o.alloc _) (by decide) _ _
 have z:cM B B' w i:=by rw[m];exact(a5.o.alloc _).grownBox (j.o.alloc _).box j.o.high (cD _ _ _)
 have X:zq i (aQ k.heap.size 1)=zv (.string c):=by rw[m,World.cell?_setCell_other _ _ _ _ (by first|(simp;done)|(simp;omega))];exact aVx k _ _ _ _ _ rfl 1 _ rfl
 have e0:k.heap.size<i.heap.size:=by rw[m];simp[Y]
 generalize k.heap.size=tb at *;obtain⟨D,E,rfl,c2⟩:=bCe H.vars;have a3:=O H;have s:=O A;have F:=O z;have b1:=O c2;have S:=H.box.c6;clear m b0 a7 j a8 a5 d3 d6 y R H A z c2;go_loopw[10,11] (λa a1 e6=>∃(b:Nat) (g:Int),b<=Z st.vars/\a1=iQ b/\a=iQ g/\g=lC (st.vars.take b) c/\-1<=g/\g<b/\∃b2,e6=i.drewN b2) (λ_ a1 _=>Z st.vars-(intOf a1).toNat);exact⟨0,-1,zh _,rfl,rfl,rfl,by omega,by omega,0,rfl⟩;obtain⟨b,g,d8,rfl,rfl,c0,f2,f3,f⟩:=hrel;have J:=O f;have u:=O c0;clear c0;have d2:zq wr (aQ pa 6)=zv (.slice D (Z st.vars) E):=aC (aN f) S;have c4:zq wr (aQ tb 1)=zv (.string c):=aC (aN f) X;by_cases T:b<Z st.vars
 .have d9:(b:Int)<(Z st.vars:Int):=by omega
  obtain⟨d7,rfl,b6⟩:=b1.o b T;have e9:zq wr (aQ d7 b)=zv (.string st.vars[b]):=aC (aN f) b6;clear b6 S X f;by_cases o:st.vars[b]=c
  .have e1:(st.vars[b].toList==c.toList)=true:=by rw[o];simp
   have L:aE ((b:Int)=lC (st.vars.take (b+1)) c):=O (by rw[zm T,aEf,aT o,List.length_take,Nat.min_eq_left d8]);clear o u;go_wp2;go_quiet (fail);go_wp2;exact⟨⟨b+1,b,by omega,by go_num,rfl,L.o,by omega,by omega,iK J.o ⟨_,rfl⟩⟩,by simp[intOf];omega⟩
  have e1:(st.vars[b].toList==c.toList)=false:=by
   rw[beq_eq_false_iff_ne];exact λa0=>o (xT.1 a0)
  have L:aE (g=lC (st.vars.take (b+1)) c):=O (by rw[zm T,aEf,aS o];exact u.o);clear o u;go_wp2;go_quiet (fail);go_wp2;exact⟨⟨b+1,g,by omega,by go_num,rfl,L.o,by omega,by omega,iK J.o ⟨_,rfl⟩⟩,by simp[intOf];omega⟩
 have d9:¬(b:Int)<(Z st.vars:Int):=by omega
 have v:aE (g=lC st.vars c):=O (by rw[u.o,List.take_of_length_le (by omega)]);clear u b1;have r:aE (cJ B wr pa e ⟨st.i+1,st.vars,st.pz⟩ (-1) vL vP vC vB (.slice D (Z st.vars) E)):=O (a3.o.below (aN f));have p:V wr B' 52 2 vl (Z l) (aV l):=bF s.o (aN f) (zs _);have M:aE (cM B B' w wr):=O (F.o.trans (.of_below (aN f)));have c3:wr.heap.size=i.heap.size:=by obtain⟨b2,rfl⟩:=f;rfl
 rw[<-c3]at e0;clear c3 s F a3 S X f J;by_cases q:g<0
 .have c5:V wr.drew B 9 1 (.slice D (Z st.vars) E) (Z st.vars) (st.vars.map zn):=r.o.vars;have a4:aE (cJ B wr.drew pa e ⟨st.i+1,st.vars,st.pz⟩ (-1) vL vP vC vB (.slice D (Z st.vars) E)):=O (r.o.drawn 1);have a9:aE (V wr.drew B' 52 2 vl (Z l) (aV l)):=O p;have a6:aE (cM B B' w wr.drew):=O (M.o.drawn 1);have d4:∀d,zq (wr.alloc d) (aQ pa 6)=zv (.slice D (Z st.vars) E):=λd=>(r.o.alloc d).box.c6
  have d5:∀d,zq (wr.alloc d) (aQ tb 1)=zv (.string c):=λd=>aC (aI wr d) c4
  have x:aE (mX st.vars c=st.vars++[c]/\lU st.vars c=Z st.vars):=O (by rw[v.o]at q;unfold mX lU;rw[aT q,aT q];exact⟨rfl,rfl⟩);have e7:B<=wr.heap.size:=by omega
  clear p v r M;go_wp2_with fail;go_region_law (refine dG bCb Tryz.underlying89 (c5.alloc _) ?_;intro f9 c9 W b7;obtain⟨d1,e2,c1,b5,A,z⟩:=bCf a4.o a9.o a6.o _ W b7;have d0:=O b5;have s:=O A;have F:=O z;obtain⟨c6,c7,rfl⟩:=aZ W;clear W b7 b5 A z);all_goals
   have f6:wr.heap.size<(Y c9 (aQ pa 6) (.slice c6 (Z st.vars+1) c7)).heap.size:=by simpa[Y]using c1
   have I:=s.o;clear c1 d1 e2 d4 d5 c4 d2 c5 a4 a9 a6;generalize Y c9 (aQ pa 6) (.slice c6 (Z st.vars+1) c7)=w4 at *;clear s;go_wp2_with(first
    |(at_builtin;refine eU kK zd (I.alloc _) ?_)
    |go_in)
   intro e3 e5 C n _;have N:=O ((d0.o.alloc _).far (I.alloc _) (by decide) n);have P:=O ((F.o.alloc _).grownRow (I.alloc _) b4 (zg (zg ⟨rfl,zs _⟩)) n);have Q:=O C;clear C n I;go_wp2;go_ret;exact⟨_,_,rfl,by rw[x.o.1];exact N.o,by rw[x.o.2,sA];exact Q.o,P.o⟩
 have x:aE (mX st.vars c=st.vars/\lU st.vars c=g):=O (by rw[v.o]at q;unfold mX lU;rw[aS q,aS q,v.o];exact⟨rfl,rfl⟩);clear v;go_wp2_with(first
  |(at_builtin;refine eU kK zd (p.alloc _) ?_)
  |go_in)
 intro e3 e5 C n _;have N:=O ((r.o.alloc _).far (p.alloc _) (by decide) n);have P:=O ((M.o.alloc _).grownRow (p.alloc _) b4 (zg (zg ⟨rfl,zs _⟩)) n);have Q:=O C;clear C n p;go_wp2;go_ret;exact⟨_,_,rfl,by rw[x.o.1];exact N.o,by rw[x.o.2,sA];exact Q.o,P.o⟩
theorem bCh(B B' pa:Nat)(brk:Int)(u:Bool)(st:bC)(vL vP vC vB vV vl:U)(b:List Tk)(l:List Nd)(w:zt)(i:cJ B w pa b st (-1) vL vP vC vB vV)(H:V w B' 52 2 vl (Z l) (aV l))
  (A:(aH b st.i).kind≠110) (o:(aH b st.i).kind≠118\/u=zb):Calls zl 71 #[pQ pa,vl,.bool u,iQ brk] w λe w'=>e=.returned vl/\cJ B w' pa b st (rB b brk st.i) vL vP vC vB vV/\
   V w' B' 52 2 vl (Z l) (aV l)/\cM B B' w w':=by
 have v:=rA B pa st.i (-1) vL vP vC vB vV b w i.box i.toks;have E:=O i;have D:=O H;clear i H;generalize aH b st.i=t at *;obtain⟨k,L,J⟩:=t;simp only at A o;rw[show pM ⟨k,L,J⟩=.agg #[.int .u8 k,.string L,iQ J] from rfl]at v;have W:((k:Int) != 110)=true:=by simp;omega
 have F:aE (∀g,cJ B g pa b st (-1) vL vP vC vB vV->V g B' 52 2 vl (Z l) (aV l)->cM B B' w g->Calls zl 39 #[pQ pa,iQ brk] g λe w'=>e=.returned (.tuple #[])/\cJ B w' pa b st (rB b brk st.i) vL vP vC vB vV/\V w' B' 52 2 vl (Z l) (aV l)/\cM B B' w w'):=by
  refine O λg j G hK=>(aEg B pa st.i brk vL vP vC vB vV b g j.box j.toks).mono ?_
  rintro e w' ⟨rfl,N,z⟩;refine⟨rfl,j.grownBox z N,G.kept z ?_,hK.grownBox j.box j.high z⟩;obtain⟨_,⟨rfl,_⟩|⟨T,R,S,rfl,_,P,_⟩⟩:=G
  .exact ze rfl
  right;intro I;simp[zw]at I;subst I;have y:=j.box;unfold bX at y;rw[P]at y;simp at y
 go_enter Tryz.func71,Tryz.ntmps71;by_cases x:k=118
 .have M:u=true:=o.elim (λi=>absurd x i) id;subst M;have f:((k:Int)==118)=true:=by simp;omega
  clear o A x;go_wp2_with(first
   |(go_at_call 38;refine v.mono ?_;rintro e C ⟨rfl,c⟩;have s:=O (λd=>F.o (C.alloc d) ((E.o.below c).alloc d) ((bF D.o c (zs _)).alloc d) ((cM.of_below c).alloc d));clear c)
   |(go_at_call 39;refine(s.o _).mono ?_;rintro e Q ⟨rfl,n,m,f⟩;have r:=O n;have q:=O m;have p:=O f;clear n m f))
  go_ret;exact⟨rfl,r.o,q.o,p.o⟩
 have f:((k:Int)==118)=false:=by simp;omega
 clear o A x;go_wp2_with(first
  |(go_at_call 38;refine v.mono ?_;rintro e C ⟨rfl,c⟩;have s:=O (λd=>F.o (C.alloc d) ((E.o.below c).alloc d) ((bF D.o c (zs _)).alloc d) ((cM.of_below c).alloc d));clear c)
  |(go_at_call 39;refine(s.o _).mono ?_;rintro e Q ⟨rfl,n,m,f⟩;have r:=O n;have q:=O m;have p:=O f;clear n m f))
 go_ret;exact⟨rfl,r.o,q.o,p.o⟩
theorem bCi(b:Nd)(c:List Nd):aV (b::c)=.string b.1::iQ b.2::aV c:=rfl
theorem aHq(b:Pl)(c:List Pl):lB (b::c)=.string b.1::.bool b.2.1::iQ b.2.2.1::iQ b.2.2.2::lB c:=rfl
theorem aP6(l:List Nd):∀(b c:Nat),(aV l).set (b*2+1) (iQ c)=aV (eH l b c):=by
 induction l with
 |nil=>intro b c;simp[aV,eH]
 |cons x r ih=>
  intro b c;cases b with
  |zero=>rfl
  |succ b=>
   grind[bCi,aV,eH]
theorem bCj(l:List Pl):∀(b c:Nat),(lB l).set (b*4+2) (iQ c)=lB (jN l b c):=by
 induction l with
 |nil=>intro b c;simp[lB,jN]
 |cons x r ih=>
  intro b c;cases b with
  |zero=>rfl
  |succ b=>
   grind[aHq,lB,jN]
structure TL(L T:List Tk)(brk:Int):Prop where
 kind:∀i,(aH L i).kind=(aH T i).kind
 txt:∀i,(aH L i).txt=(aH T i).txt
 pos:∀i,(aH T i).kind≠63->(aH L i).pos=(aH T i).pos
 bad:∀i,i<Z T->rB L brk i=(aH T i).pos
 more:∀i,i<Z T->(aH T i).kind≠101->(aH T i).kind≠63->i+1<Z T
 few:Z T<=1000002
theorem aP7{e:ByteArray}{d c:Nat}{b:Tk}(f:fT e d=.tok b c):b.kind≠101/\b.kind≠63:=by grind[oU,fT]
theorem aHr(e:ByteArray):∀c d,(∀b∈(cW e c d).1.dropLast,b.kind≠101/\b.kind≠63)/\((cW e c d).2=zo->∃l b,(cW e c d).1=l++[b]/\b.kind=101)/\((cW e c d).2≠zo->∀b∈(cW e c d).1,b.kind≠101/\b.kind≠63)/\(∀b∈(cW e c d).1,b.kind≠63):=by
 intro c;induction c with
 |zero=>intro d;simp[cW]
 |succ c ih=>
  intro d;rw[cW];split
  .split
   .exact ih _
   split
   .exact ih _
   split
   .rename_i b j o;have g:=aP7 o;obtain⟨k,p,q,s⟩:=ih j;refine⟨?_,?_,?_,?_⟩
    .intro f hu;simp only at hu;cases hr:(cW e c j).1 with
     |nil=>rw[hr]at hu;simp at hu
     |cons y r=>
      rw[hr]at hu k;rw[List.dropLast_cons_of_ne_nil (by simp)]at hu;rcases List.mem_cons.1 hu with rfl|hu
      .exact g
      exact k f hu
    .intro i;obtain⟨l,f,m,n⟩:=p i;exact⟨b::l,f,by simp only[m,List.cons_append],n⟩
    .intro i f hu;rcases List.mem_cons.1 hu with rfl|hu
     .exact g
     exact q i f hu
    intro f hu;rcases List.mem_cons.1 hu with rfl|hu
    .exact g.2
    exact s f hu
   simp
  refine⟨by simp,λ_=>⟨[],_,rfl,rfl⟩,by simp,by simp⟩
theorem aHs(d:ByteArray):∀b c,(cW d b c).1.length<=b:=by
 intro b;induction b with
 |zero=>intro c;simp[cW]
 |succ b ih=>
  grind[jD,cW,zc]
theorem aHt(d:ByteArray)(o:d.size<=1000000):TL (cW d (d.size+1) 0).1 (fY (cW d (d.size+1) 0)) (aD2 (cW d (d.size+1) 0).2):=by
 obtain⟨_,k,m,_⟩:=aHr d (d.size+1) 0;have j:=aHs d (d.size+1) 0;generalize cW d (d.size+1) 0=r at *;obtain⟨c,g⟩:=r;simp only at k m j;cases g with
 |none=>
  have f:fY (c,zo)=c:=by simp[fY]
  rw[f];refine⟨λ_=>rfl,λ_=>rfl,λ_ _=>rfl,λb e=>by simp[rB,aH,e],λb e i _=>?_,by omega⟩;grind[aH]
 |some p=>
  have f:fY (c,zv p)=c++[⟨63,⟨#[]⟩,p⟩]:=by simp[fY]
  rw[f];have q:∀b,(b<Z c/\aH (c++[⟨63,⟨#[]⟩,p⟩]) b=aH c b)\/(b=Z c/\aH (c++[⟨63,⟨#[]⟩,p⟩]) b=⟨63,⟨#[]⟩,p⟩/\aH c b=tW)\/(Z c<b/\aH (c++[⟨63,⟨#[]⟩,p⟩]) b=tW/\aH c b=tW):=by grind[aH,zi,zf,Nat.lt_trichotomy]
  refine⟨λb=>?_,λb=>?_,λb e=>?_,λb e=>?_,λb e i n=>?_,by simp;omega⟩;all_goals grind[rB,aD2,aH,tW,fY,cW]
def aEb(B B' pa:Nat)(w:zt)(f g:List Tk)(j:Nat)(st:bC)(l:List Nd)(vL vC vB:U)(k:Except Nat (bC×List Nd))(i:Ending)(w':zt):Prop:=
 ∃e m n b d c,i=.returned e/\cJ B w' pa f b d vL m vC vB n/\V w' B' 52 2 e (Z c) (aV c)/\cM B B' w w'/\
  (st.i<=b.i/\b.i<=Z g+j/\Z l<=Z c/\Z c<=Z l+(b.i-st.i)/\Z st.pz<=Z b.pz/\Z b.pz<=Z st.pz+(b.i-st.i)/\Z st.vars<=Z b.vars/\Z b.vars<=Z st.vars+(b.i-st.i))/\
  match k with
  | .ok (s1,l1)=>d=-1/\b=s1/\c=l1
  | .error p=>d=(p:Int)
def aHu(B pa:Nat)(brk:Int)(d b:List Tk)(vL vC vB:U)(c:Nat):Prop:=
 ∀(B':Nat) (e:Bool) (st:bC) (vP vV vl:U) (l:List Nd) (w:zt),cJ B w pa d st (-1) vL vP vC vB vV->V w B' 52 2 vl (Z l) (aV l)->B<=B'->B'<=w.heap.size->st.i<Z b->Z b<st.i+c->c<=2000000->
  Z l<=st.i->Z st.pz<=st.i->Z st.vars<=st.i->
  Calls zl 71 #[pQ pa,vl,.bool e,iQ brk] w λf w'=>aEb B B' pa w d b c st l vL vC vB (dB b c e st l) f w'
theorem bCk{d b:List Tk}{n:Nat}(c:TL d b brk)(B':Nat)(e:Bool)(st:bC)(vP vV vl:U)(l:List Nd)(w:zt)(f:cJ B w pa d st (-1) vL vP vC vB vV)(r:V w B' 52 2 vl (Z l) (aV l))(s:B<=B')(t:B'<=w.heap.size)
  (u:st.i<Z b) (x:Z l<=st.i) (y:Z st.vars<=st.i) (p:(aH b st.i).kind≠110):Calls zl 71 #[pQ pa,vl,.bool e,iQ brk] w λi w'=>aEb B B' pa w d b (n+1) st l vL vC vB (dB b (n+1) e st l) i w':=by
 have v:=c.few;by_cases m:(aH b st.i).kind=118/\e=zp
 .obtain⟨o,rfl⟩:=m;have g:=bCg B B' pa brk st vL vP vC vB vV vl d l w f r s t (by rw[c.kind];exact o) (by omega) (by omega) (by omega);refine g.mono ?_;rintro i w' ⟨A,z,rfl,k,j,q⟩;rw[dB,aT ⟨o,rfl⟩];rw[c.txt]at k j;grind[mX,zj,List.length_singleton,aEb,rB,aV,lU,eI,dB,eH,jN,aH]
 have g:=bCh B B' pa brk e st vL vP vC vB vV vl d l w f r (by rw[c.kind];exact p) (by rw[c.kind];rcases e with _|_;exact ze (λf=>m ⟨f,rfl⟩);exact zg rfl);refine g.mono ?_;rintro i w' ⟨rfl,k,j,q⟩;rw[dB,aS m,aT p];exact⟨vl,vP,vV,st,_,l,rfl,k,j,q,by omega,c.bad st.i u⟩
theorem bCl{b:zt}{i:List Tk}{j:Int}{d:U}{x:Pl}(k:cJ B w pa i st j vL vP vC vB vV)(m:V w B' 52 2 vl (Z l) (aV l))(p:cM B B' w0 w)(c:Obj)
  (s:V b B 137 4 d (Z st.pz+1) (lB st.pz++[.string x.1,.bool x.2.1,iQ x.2.2.1,iQ x.2.2.2])) (f:zr (w.alloc c) b (zw vP)):cQ b pa 3 vP/\zk b (aQ pa 3)=zp/\w.heap.size<b.heap.size/\
   cJ B (Y b (aQ pa 3) d) pa i ⟨st.i,st.vars,st.pz++[x]⟩ j vL d vC vB vV/\V (Y b (aQ pa 3) d) B' 52 2 vl (Z l) (aV l)/\cM B B' w0 (Y b (aQ pa 3) d):=by
 have g:=k.alloc c;obtain⟨e,n⟩:=cJ.moreP g s f;have t:=f.size;have o:zw vl=zo\/zw vl≠zw vP:=dC (m.alloc c) g.pz (by decide);have r:=(m.alloc c).kept f o;have q:=(p.alloc c).grownRow g.pz (zs _) (ze rfl) f;exact⟨e.c3,e.soft 3,by simp at t;omega,n,e.row r (by decide) _ _,q.grownBox e k.high (cD _ _ _)⟩
theorem mJ{e:TypeId}{i:Nat}{c:U}{n:Nat}{xs:List U}(g:V w B e i c n xs)(m:0<n):∃b d,c=sQ b n d:=by
 obtain⟨_,⟨rfl,k⟩|⟨b,f,j,rfl,_⟩⟩:=g
 .omega
 exact⟨b,f,rfl⟩
theorem bCm(l:List Pl):∀b (c:b<Z l),(lB l)[b*4+2]?=zv (iQ l[b].2.2.1):=by
 induction l with
 |nil=>intro b c;simp at c
 |cons x r ih=>
  grind[aHq]
theorem bCn{q:List Tk}{r:Int}(t:cJ B w pa q st r vL vP vC vB vV)(j:V w B' 52 2 vl (Z l) (aV l))(v:B<=B')(y:cM B B' w0 w)(c g b:Nat)(A:c<Z l)(D:g<Z st.pz):∃d n f p,vl=sQ d (Z l) n/\vP=sQ f (Z st.pz) p/\
   zq w (aQ d (c*2+1))=zv (iQ l[c].2)/\zk w (aQ d (c*2+1))=zp/\
   zq (Y w (aQ d (c*2+1)) (iQ b)) (aQ pa 3)=zv vP/\
   zq (Y w (aQ d (c*2+1)) (iQ b)) (aQ f (g*4+2))=zv (iQ st.pz[g].2.2.1)/\
   zk (Y w (aQ d (c*2+1)) (iQ b)) (aQ f (g*4+2))=zp/\
   cJ B (Y (Y w (aQ d (c*2+1)) (iQ b)) (aQ f (g*4+2)) (iQ b)) pa q ⟨st.i,st.vars,jN st.pz g b⟩ r vL vP vC vB vV/\
   V (Y (Y w (aQ d (c*2+1)) (iQ b)) (aQ f (g*4+2)) (iQ b)) B' 52 2 vl (Z (eH l c b)) (aV (eH l c b))/\
   cM B B' w0 (Y (Y w (aQ d (c*2+1)) (iQ b)) (aQ f (g*4+2)) (iQ b)):=by
 obtain⟨d,n,rfl⟩:=mJ j (by omega);obtain⟨f,p,rfl⟩:=mJ t.pz (by omega);refine⟨d,n,f,p,rfl,rfl,?_⟩;have u:zr w (Y w (aQ d (c*2+1)) (iQ b)) (zv d):=cD _ _ _;have e:=t.far j (by decide) u;have o:=(j.stored (c*2+1) (iQ b)).1;rw[aP6]at o;have H:Z l=Z (eH l c b):=by simp[eH]
 have I:Z st.pz=Z (jN st.pz g b):=by simp[jN]
 have z:=y.grownRow j v (zg (zg ⟨rfl,zs _⟩)) u;refine⟨?_,j.frozenAt _,e.box.c3,?_,e.pz.frozenAt _,?_,?_,?_⟩
 .rw[j.cellAt _ (by omega),(yW l c A).2]
 .rw[e.pz.cellAt _ (by omega),bCm _ _ D]
 .have i:zr (Y w (aQ d (c*2+1)) (iQ b)) (Y (Y w (aQ d (c*2+1)) (iQ b)) (aQ f (g*4+2)) (iQ b)) (zv f):=cD _ _ _;refine⟨e.high,?_,e.toks.kept i (dC e.toks e.pz (by decide)),?_,e.vars.kept i (dC e.vars e.pz (by decide))⟩
  .have k:=e.box;have C:=k.lt;unfold bX at k ⊢;rw[i.block pa C ?_]
   .exact k
   intro s;simp at s;subst s;obtain⟨_,⟨m,_⟩|⟨G,E,F,m,_,x,_⟩⟩:=e.pz
   .simp at m
   simp at m;obtain⟨rfl,_⟩:=m;rw[x]at k;simp at k
  have:=(e.pz.stored (g*4+2) (iQ b)).1;rw[bCj]at this;simpa[jN]using this
 .have i:zr (Y w (aQ d (c*2+1)) (iQ b)) (Y (Y w (aQ d (c*2+1)) (iQ b)) (aQ f (g*4+2)) (iQ b)) (zv f):=cD _ _ _;have:=o.kept i (dC o e.pz (by decide));simpa[eH]using this
 have i:zr (Y w (aQ d (c*2+1)) (iQ b)) (Y (Y w (aQ d (c*2+1)) (iQ b)) (aQ f (g*4+2)) (iQ b)) (zv f):=cD _ _ _;exact z.grownRow e.pz (zs _) (ze rfl) i
theorem bCo(l:List Pl)(c:ByteArray)(b:Bool)(d:Int):jN (l++[(c,b,0,d)]) (Z l) 0=l++[(c,b,0,d)]:=by
 unfold jN;induction l with
 |nil=>rfl
 |cons x r ih=>simpa using ih
theorem aP8(l:List Nd)(b:ByteArray):eH (l++[(b,0)]) (Z l) 0=l++[(b,0)]:=by
 unfold eH;induction l with
 |nil=>rfl
 |cons x r ih=>simpa using ih
theorem aEc{u d:List Tk}(j:TL u d brk):∀g,(∀n st l c f,dB d g n st l=.ok (c,f)->st.i<Z d->c.i<Z d)/\(∀st l p c f q,eI d g st l p=.ok (c,f,q)->st.i+1<Z d->c.i<Z d):=by
 intro g;induction g with
 |zero=>exact⟨λn st l c f b=>by simp[dB]at b,λst l p c f q b=>by simp[eI]at b⟩
 |succ g ih=>
  obtain⟨z,s⟩:=ih;constructor
  .intro n st l c f b k;rw[dB]at b;split at b
   .rename_i e;simp only[Except.ok.injEq,Prod.mk.injEq]at b;obtain⟨rfl,rfl⟩:=b;exact j.more _ k (by rw[e.1];decide) (by rw[e.1];decide)
   split at b
   .simp at b
   rename_i e;have e:(aH d st.i).kind=110:=by simpa using e
   have r:=j.more _ k (by rw[e];decide) (by rw[e];decide);split at b
   .rename_i m;split at b
    .simp at b
    rename_i v A C y;simp only[Except.ok.injEq,Prod.mk.injEq]at b;obtain⟨rfl,rfl⟩:=b;have o:=j.more _ r (by rw[m];decide) (by rw[m];decide);have x:=s _ _ _ _ _ _ y o;exact x
   simp only[Except.ok.injEq,Prod.mk.injEq]at b;obtain⟨rfl,rfl⟩:=b;exact r
  intro st l p c f q b k;rw[eI]at b;split at b
  .simp at b
  rename_i v A m;have t:=z _ _ _ _ _ m k;split at b
  .rename_i i;have o:=j.more _ t (by rw[i];decide) (by rw[i];decide);exact s _ _ _ _ _ _ b o
  split at b
  .rename_i i;simp only[Except.ok.injEq,Prod.mk.injEq]at b;obtain⟨rfl,rfl,rfl⟩:=b;exact j.more _ t (by rw[i];decide) (by rw[i];decide)
  simp at b
theorem bCp{c:List Tk}(b:cJ B w pa c st (-1) vL vP vC vB vV)(g:V w B' 52 2 vl (Z l) (aV l))(hK:cM B B' w0 w):Calls zl 39 #[pQ pa,iQ brk] w λf w'=>f=.returned (.tuple #[])/\cJ B w' pa c st (rB c brk st.i) vL vP vC vB vV/\V w' B' 52 2 vl (Z l) (aV l)/\cM B B' w0 w':=by
 refine(aEg B pa st.i brk vL vP vC vB vV c w b.box b.toks).mono ?_;rintro f w' ⟨rfl,j,e⟩;refine⟨rfl,b.grownBox e j,g.kept e ?_,hK.grownBox b.box b.high e⟩;obtain⟨_,⟨rfl,_⟩|⟨o,m,n,rfl,_,k,_⟩⟩:=g
 .exact ze rfl
 right;intro i;simp[zw]at i;subst i;have d:=b.box;unfold bX at d;rw[k]at d;simp at d
theorem aHv{c:List Tk}{d:Int}(b:cJ B w pa c st d vL vP vC vB vV)(f:V w B' 52 2 vl (Z l) (aV l))(e:cM B B' w0 w):cJ B (Y w (aQ pa 1) (iQ ((st.i:Int)+1))) pa c ⟨st.i+1,st.vars,st.pz⟩ d vL vP vC vB vV/\V (Y w (aQ pa 1) (iQ ((st.i:Int)+1))) B' 52 2 vl (Z l) (aV l)/\cM B B' w0 (Y w (aQ pa 1) (iQ ((st.i:Int)+1))):=
 ⟨b.setI (st.i+1),b.box.row f (by decide) _ _,e.grownBox b.box b.high (cD _ _ _)⟩
def aBj(B B' pa:Nat)(w:zt)(m c:List Tk)(vL vC vB:U)(d:Nat)(b:bC)(e:List Nd)(vl:U)(f:Nat)(j:Bool)(wr:zt):Prop:=
 ∃vP vV st g l,cJ B wr pa m st g vL vP vC vB vV/\V wr B' 52 2 vl (Z l) (aV l)/\cM B B' w wr/\
  (b.i<=st.i/\st.i<=Z c+d/\Z e<=Z l/\Z l<=Z e+(st.i-b.i)/\Z b.pz<=Z st.pz/\Z st.pz<=Z b.pz+(st.i-b.i)/\Z b.vars<=Z st.vars/\Z st.vars<=Z b.vars+(st.i-b.i))/\f<=Z c/\
  ((g=-1/\st.i<Z c/\f+b.i<=st.i/\(j=zb->st.i+1<Z c)/\∃i,i<=d/\Z c<st.i+i/\
    eI c d b e 0=if j=zb then eI c i st l f else if (aH c st.i).kind=41 then .ok (⟨st.i+1,st.vars,st.pz⟩,l,f) else .error (aH c st.i).pos)\/
   ∃k:Nat,g=(k:Int)/\eI c d b e 0=.error k)
theorem aBj.next{wr q D:zt}{i c:List Tk}(o:TL i c brk){vL vC vB:U}{k:Nat}{d:bC}{p:List Nd}{st:bC}{l:List Nd}{n:Nat}{e:Nat}
  (N:d.i<=st.i/\st.i<=Z c+k/\Z p<=Z l/\Z l<=Z p+(st.i-d.i)/\Z d.pz<=Z st.pz/\Z st.pz<=Z d.pz+(st.i-d.i)/\Z d.vars<=Z st.vars/\Z st.vars<=Z d.vars+(st.i-d.i))
  (F:st.i+1<Z c) (Q:n+d.i<=st.i) (P:e+1<=k) (L:Z c<st.i+(e+1)) (g:eI c k d p 0=eI c (e+1) st l n) (G:cM B B' w wr)
  {C z A:U}{b:bC}{j:Int}{f:List Nd} (E:cJ B q pa i b j vL z vC vB A) (I:V q B' 52 2 C (Z f) (aV f)) (H:cM B B' wr q)
  (M:st.i+1<=b.i/\b.i<=Z c+e/\Z l<=Z f/\Z f<=Z l+(b.i-(st.i+1))/\Z st.pz<=Z b.pz/\Z b.pz<=Z st.pz+(b.i-(st.i+1))/\Z st.vars<=Z b.vars/\Z b.vars<=Z st.vars+(b.i-(st.i+1)))
  (m:match dB c e false ⟨st.i+1,st.vars,st.pz⟩ l with | .ok (y,x)=>j=-1/\b=y/\f=x | .error t=>j=(t:Int)) (s:aB q D):aBj B B' pa w i c vL vC vB k d p C (n+1) (((aH i b.i).kind:Int)==44) D:=by
 refine⟨z,A,b,j,f,E.below s,bF I s (zs _),(G.trans H).trans (.of_below s),by omega,by omega,?_⟩;rw[eI]at g;cases hq:dB c e zp ⟨st.i+1,st.vars,st.pz⟩ l with
 |error t=>
  rw[hq]at m g;exact zg ⟨t,m,g⟩
 |ok r=>
  obtain⟨y,x⟩:=r;rw[hq]at m g;obtain⟨rfl,rfl,rfl⟩:=m;have v:=(aEc o e).1 _ _ _ _ _ hq F;refine ze ⟨rfl,v,by omega,?_,e,by omega,by omega,?_⟩
  .intro J;have u:(aH c b.i).kind=44:=by rw[<-o.kind];simp at J;omega
   exact o.more _ v (by rw[u];decide) (by rw[u];decide)
  rw[g,o.kind];grind
def pL(B B' pa:Nat)(w:zt)(i d:List Tk)(vL vC vB:U)(g:Nat)(j:Bool)(b:bC)(c:List Nd)(vl:U)(f:Nat)(wr:zt):Prop:=
 ∃vP vV st e l,cJ B wr pa i st e vL vP vC vB vV/\V wr B' 52 2 vl (Z l) (aV l)/\cM B B' w wr/\f<=Z d/\
  (b.i<=st.i/\st.i<=Z d+(g+1)/\Z c<Z l/\Z l<=Z c+(st.i-b.i)/\Z b.pz<Z st.pz/\Z st.pz<=Z b.pz+(st.i-b.i)/\Z b.vars<=Z st.vars/\Z st.vars<=Z b.vars+(st.i-b.i))/\
  match dB d (g+1) j b c with
  | .ok (s1,l1)=>e=-1/\s1=⟨st.i,st.vars,jN st.pz (Z b.pz) f⟩/\l1=eH l (Z c) f
  | .error p=>e=(p:Int)
section
variable {B B' pa:Nat}{w wr:zt}{L T:List Tk}{vL vP vC vB vV vl:U}{f:Nat}{atom:Bool}{st:bC}{l:List Nd}{tx:ByteArray}{tp:Nat}
theorem pL.plain(i:(aH T st.i).kind=110)(k:(aH T st.i).txt=tx)(j:(aH T st.i).pos=tp)(e:(aH T (st.i+1)).kind≠40)(g:st.i<Z T)(b:cJ B wr pa L ⟨st.i+1,st.vars,st.pz++[(tx,atom,0,(tp:Int))]⟩ (-1) vL vP vC vB vV)(d:V wr B' 52 2 vl (Z (l++[(tx,0)])) (aV (l++[(tx,0)])))(c:cM B B' w wr):pL B B' pa w L T vL vC vB f atom st l vl 0 wr:=by
 refine⟨vP,vV,_,-1,_,b,d,c,zh _,by simp;omega,?_⟩;grind[dB,aP8,bCo]
theorem pL.err(o:(aH T st.i).kind=110)(t:(aH T st.i).txt=tx)(s:(aH T st.i).pos=tp)(i:(aH T (st.i+1)).kind=40){b:bC}{c:List Nd}{e g:Nat}{d:Int}
  (k:st.i+1<=b.i/\b.i<=Z T+f/\Z (l++[(tx,0)])<=Z c/\Z c<=Z (l++[(tx,0)])+(b.i-(st.i+1))/\Z (st.pz++[(tx,atom,0,(tp:Int))])<=Z b.pz/\Z b.pz<=Z (st.pz++[(tx,atom,0,(tp:Int))])+(b.i-(st.i+1))/\Z st.vars<=Z b.vars/\Z b.vars<=Z st.vars+(b.i-(st.i+1)))
  (r:e<=Z T) (n:eI T f ⟨st.i+1,st.vars,st.pz++[(tx,atom,0,(tp:Int))]⟩ (l++[(tx,0)]) 0=.error g) (m:d=(g:Int)) (j:cJ B wr pa L ⟨b.i+1,b.vars,b.pz⟩ d vL vP vC vB vV) (q:V wr B' 52 2 vl (Z c) (aV c)) (p:cM B B' w wr):pL B B' pa w L T vL vC vB f atom st l vl e wr:=by
 grind[dB,pL,aV,eI,eH,jN,aH]
theorem pL.done(o:(aH T st.i).kind=110)(q:(aH T st.i).txt=tx)(p:(aH T st.i).pos=tp)(m:(aH T (st.i+1)).kind=40){b:bC}{c:List Nd}{d:Nat}
  (g:st.i+1<=b.i/\b.i<=Z T+f/\Z (l++[(tx,0)])<=Z c/\Z c<=Z (l++[(tx,0)])+(b.i-(st.i+1))/\Z (st.pz++[(tx,atom,0,(tp:Int))])<=Z b.pz/\Z b.pz<=Z (st.pz++[(tx,atom,0,(tp:Int))])+(b.i-(st.i+1))/\Z st.vars<=Z b.vars/\Z b.vars<=Z st.vars+(b.i-(st.i+1)))
  (k:d<=Z T) (n:eI T f ⟨st.i+1,st.vars,st.pz++[(tx,atom,0,(tp:Int))]⟩ (l++[(tx,0)]) 0=.ok (⟨b.i+1,b.vars,b.pz⟩,c,d)) (e:cJ B wr pa L ⟨b.i+1,b.vars,b.pz⟩ (-1) vL vP vC vB vV) (j:V wr B' 52 2 vl (Z c) (aV c)) (i:cM B B' w wr):pL B B' pa w L T vL vC vB f atom st l vl d wr:=by
 refine⟨vP,vV,_,-1,_,e,j,i,k,by simp at g ⊢;omega,?_⟩;grind[dB]
end
theorem bCq{b c:Prop}(e:c)(d:b):b/\c:=⟨d,e⟩
theorem aHw(b c:Int)(d:ByteArray)(w:zt):(Instr.field 93 (.agg #[.int .u8 b,.string d,iQ c]) 0).run zl w=.ok (.int .u8 b) w:=by kernel_rfl
theorem bCr(c b:Int)(d:ByteArray)(w:zt):(Instr.field 93 (.agg #[.int .u8 c,.string d,iQ b]) 2).run zl w=.ok (iQ b) w:=by kernel_rfl
theorem aEd:(⟨#[]⟩:ByteArray).size=0:=rfl
theorem bCs(c:ByteArray)(a b:Nat):(c.extract a b).size<=b-a:=by rw[ByteArray.size_extract];omega
theorem bCt(g:ByteArray):∀c e f d b,gJ g c e f=zv (d,b)->d.size+f<=e.size+b/\b<=g.size:=by
 intro c;induction c with
 |zero=>intro e f d b i;simp[gJ]at i
 |succ c ih=>
  grind[bV,bCs,gJ]
theorem bCu{c:ByteArray}{g e:Nat}{d:Tk}(b:fT c g=.tok d e):d.txt.size<=c.size:=by
 unfold fT at b;split at b
 .split at b
  .cases b
  simp only[Nx.tok.injEq]at b;rw[<-b.1];simp only;rw[ByteArray.size_extract];omega
 split at b
 .split at b
  .rename_i i k f;simp only[Nx.tok.injEq]at b;rw[<-b.1];have j:=bCt _ _ _ _ _ _ f;rw[aEd]at j;show i.size<=c.size;omega
  cases b
 split at b
 .split at b
  .simp only[Nx.tok.injEq]at b;rw[<-b.1];exact zh _
  cases b
 split at b
 .simp only[Nx.tok.injEq]at b;rw[<-b.1];exact zh _
 cases b
theorem bCv(f:ByteArray):∀b d,∀e∈(cW f b d).1,e.txt.size<=f.size:=by
 intro b;induction b with
 |zero=>intro d;simp[cW]
 |succ b ih=>
  intro d;rw[cW];split
  .split
   .exact ih _
   split
   .exact ih _
   split
   .rename_i e i c;intro g hu;rcases List.mem_cons.1 hu with rfl|hu
    .exact bCu c
    exact ih _ g hu
   simp
  intro e c;simp at c;rw[c];exact zh _
structure vE(L T:List Tk):Prop where
 small:∀i,(aH T i).txt.size<=1000000
 low:∀i,i<Z L->(aH T i).kind≠63/\i<Z T
 rest:∀i,¬i<Z L->(aH T i).kind=63
theorem aEe(b:ByteArray)(j:b.size<=1000000):vE (cW b (b.size+1) 0).1 (fY (cW b (b.size+1) 0)):=by
 obtain⟨_,_,_,i⟩:=aHr b (b.size+1) 0;have g:=bCv b (b.size+1) 0;generalize cW b (b.size+1) 0=r at *;obtain⟨d,e⟩:=r;simp only at i g;have k:∀c,(c<Z d/\aH (fY (d,e)) c∈d/\c<Z (fY (d,e)))\/(¬c<Z d/\(aH (fY (d,e)) c).kind=63/\(aH (fY (d,e)) c).txt=⟨#[]⟩):=by grind[tW,aH,fY,zi,zf,List.getElem_mem]
 refine⟨λc=>?_,λc f=>?_,λc f=>?_⟩;all_goals grind[aEd]
def eO(l:List Nd):Prop:=∀x∈l,x.1.size<=1000000
theorem aP9{x:Nd}(b:eO l)(c:x.1.size<=1000000):eO (l++[x]):=by grind[eO]
theorem bCw(d:eO l)(b c:Nat):eO (eH l b c):=by grind[eH,List.mem_iff_getElem?,List.mem_of_getElem?,eO]
theorem aHx{p f:List Tk}(t:vE p f):∀e,(∀i st l d c,dB f e i st l=.ok (d,c)->eO l->eO c)/\(∀st l j d c k,eI f e st l j=.ok (d,c,k)->eO l->eO c):=by
 intro e;induction e with
 |zero=>exact⟨λi st l d c b=>by simp[dB]at b,λst l j d c k b=>by simp[eI]at b⟩
 |succ e ih=>
  obtain⟨u,n⟩:=ih;constructor
  .intro i st l d c b g;rw[dB]at b;split at b
   .simp only[Except.ok.injEq,Prod.mk.injEq]at b;obtain⟨rfl,rfl⟩:=b;exact aP9 g (by rw[aEd];omega)
   split at b
   .simp at b
   have m:=aP9 (x:=((aH f st.i).txt,0)) g (t.small _);split at b
   .split at b
    .simp at b
    rename_i q v y s;simp only[Except.ok.injEq,Prod.mk.injEq]at b;obtain⟨rfl,rfl⟩:=b;exact bCw (n _ _ _ _ _ _ s m) _ _
   simp only[Except.ok.injEq,Prod.mk.injEq]at b;obtain⟨rfl,rfl⟩:=b;exact m
  intro st l j d c k b g;rw[eI]at b;split at b
  .simp at b
  rename_i q v r;have o:=u _ _ _ _ _ r g;split at b
  .exact n _ _ _ _ _ _ b o
  split at b
  .simp only[Except.ok.injEq,Prod.mk.injEq]at b;obtain⟨rfl,rfl,rfl⟩:=b;exact o
  simp at b
theorem bCx(l e:List Nd)(b d:Nat)(c:b<Z l):eH (l++e) b d=eH l b d++e:=by
 induction l generalizing b with
 |nil=>simp at c
 |cons x t ih=>
  cases b with
  |zero=>rfl
  |succ b=>
   have:=ih b (by simpa using c);unfold eH at this ⊢;simpa using this
theorem bCy(l d:List Nd)(b c:Nat):eH (l++d) (Z l+b) c=l++eH d b c:=by
 induction l with
 |nil=>simp
 |cons x t ih=>
  grind[eH,zc]
theorem aA5(l:List Nd)(b c:Nat):Z (eH l b c)=Z l:=by simp[eH]
theorem bCz(l:List Nd)(b d c:Nat):eH (eH l b d) b c=eH l b c:=by
 induction l generalizing b with
 |nil=>simp[eH]
 |cons x t ih=>
  cases b with
  |zero=>rfl
  |succ b=>
   have:=ih b;unfold eH at this ⊢;simpa using this
theorem aPa(b:List Tk):∀c,(∀e st l,dB b c e st l=match dB b c e st []with | .error p=>.error p | .ok (s,r)=>.ok (s,l++r))/\(∀st l d,eI b c st l d=match eI b c st [] d with | .error p=>.error p | .ok (s,r,k)=>.ok (s,l++r,k)):=by
 intro c;induction c with
 |zero=>exact⟨λe st l=>by simp[dB],λst l d=>by simp[eI]⟩
 |succ c ih=>
  obtain⟨j,f⟩:=ih;constructor
  .intro e st l;rw[dB,dB];split
   .simp
   split
   .simp
   split
   .rw[f _ (l++[((aH b st.i).txt,0)]) 0,f _ ([]++[((aH b st.i).txt,0)]) 0];cases eI b c ⟨st.i+1,st.vars,st.pz++[((aH b st.i).txt,e,0,((aH b st.i).pos:Int))]⟩ [] 0 with
    |error p=>rfl
    |ok r=>
     obtain⟨i,g,m⟩:=r;simp only[List.nil_append,List.length_nil];have:=bCy l ([((aH b st.i).txt,0)]++g) 0 m;rw[List.append_assoc,show Z l=Z l+0 from rfl,this]
   simp
  intro st l d;rw[eI,eI,j zp _ l];cases hq:dB b c zp ⟨st.i+1,st.vars,st.pz⟩ []with
  |error p=>rfl
  |ok r=>
   obtain⟨i,g⟩:=r;simp only;split
   .rw[f i (l++g) (d+1),f i g (d+1)];cases eI b c i [] (d+1)with
    |error p=>rfl
    |ok r=>simp
   split
   .rfl
   rfl
def qZ(l:List Pl):List U:=l.map λp=>iQ p.2.2.2
theorem bD0(l:List Pl)(b:Pl):qZ (l++[b])=qZ l++[iQ b.2.2.2]:=by simp[qZ]
theorem bD1(l:List Pl)(b c:Nat):qZ (jN l b c)=qZ l:=by
 induction l generalizing b with
 |nil=>simp[jN]
 |cons x t ih=>
  cases b with
  |zero=>rfl
  |succ b=>
   have:=ih b;unfold jN qZ at this ⊢;simpa using this
theorem bD2(l:List Pl)(b c:Nat):Z (jN l b c)=Z l:=by simp[jN]
