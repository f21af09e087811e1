import Derived.Test.YtenobhkjiebhaaaGreatDoorSInS18
import Derived.Deep.DeepCutAuto
import Derived.Deep.RegionHeld
open Array renaming setIfInBounds_comm->ze,replicate->z3
open Bool renaming true->V,false->zt,noConfusion->zi
open List renaming length->Z,length_append->zm,length_nil->zg,length_singleton->zd,mem_cons_of_mem->zc,map_singleton->z0,mem_cons_self->z1,getElem_mem->z2
open Nat renaming le_refl->zo,le_trans->zk,lt_of_lt_of_le->za
open Option renaming some->zr,none->zq
open Prod renaming fst->zp,snd->z4
namespace Go.Proofs.YtenobhkjiebhaaaGreatDoor
open Go renaming Value->Y,World->U
open Region renaming ready->zl,wanted->zh,binds->zf
open _root_.Go.Proofs.Tryz renaming prog->zb
open Value renaming ownBlock->zs
open World renaming ownsRow->zv,setCell->zu,grownBy->zn,ownsRow_nil->zj
open Go.RowKit Go.WideMaps Go.Shelf
set_option maxHeartbeats 3000000
set_option maxRecDepth 100000
variable{a:Act}{at' bad brk:Int}{out:List (List Lt)}{c:List Lt}{L T:List Tk}{B i pa:Nat}{st:bC}{w w':U}{v vB vC vL vP vV:Y}
theorem cM.mono{e f:Nat}(b:cM B f w w')(q:e<=f):cM B e w w':=
 ⟨b.os,b.tape,b.output,b.size,λk s d=>b.block k s (d.imp id λd g T l r=>by
  obtain⟨m,n,o,p⟩:=d g T l r;exact⟨m,n,o,λj=>za (p j) q⟩)⟩
theorem cM.own{d e:Nat}{b:TypeId}{j:Nat}{n:Nat}{k:List Y}(o:cM B d w w')(x:zv w e b j v n k)(D:b≠137/\b≠9/\b≠91)(E:b=52->w.heap.size<=d):zv w' e b j v n k:=by
 obtain⟨f,⟨rfl,p⟩|⟨g,l,m,rfl,q,s,r,u,z,y⟩⟩:=x
 .exact⟨f,Or.inl ⟨rfl,p⟩⟩
 have t:=(bA s);refine⟨f,Or.inr ⟨g,l,m,rfl,q,?_,r,u,z,y⟩⟩;rw[o.block g t (Or.inr λA T C F=>?_)];all_goals grind
theorem cM.fresh{g j:Nat}{a:U}{e:TypeId}{o:Nat}{n:Nat}{p:List Y}(b:cM B g a w)(m:zv w j e o v n p)(q:a.heap.size<=j)(d:zn w w' (zs v)):cM B g a w':=
 ⟨d.os.trans b.os,d.tape.trans b.tape,d.output.trans b.output,zk b.size d.size,λf k l=>by
  rw[d.block f (za k b.size) (λe=>by have:=(bS m f e.symm).1;omega),b.block f k l]⟩
def lA(w:U)(B:Nat)(b:List (Lt×Y)×Y):Prop:=zv w B 55 2 b.2 (Z b.1) (bH b.1)/\∀d∈b.1,zv w B 52 2 d.2 (Z d.1.2) (aV d.1.2)
structure kF(B:Nat)(w:U)(vC vB:Y)(CV:List (List (Lt×Y)×Y))(bg:List Nat):Prop where
 cl:zv w B 36 1 vC (Z CV) (CV.map z4)
 each:∀p∈CV,lA w B p
 begins:zv w B 3 1 vB (Z bg) (bg.map λk:Nat=>iQ (k:Int))
section
variable {B:Nat}{w w':U}{vC vB:Y}{CV:List (List (Lt×Y)×Y)}{bg:List Nat}
theorem kF.keptP{f:Nat}(d:kF B w vC vB CV bg)(e:cM B f w w')(k:w.heap.size<=f):kF B w' vC vB CV bg:=
 ⟨e.own d.cl (by decide) (by intro b;exact absurd b (by decide)),λj g=>⟨e.own (d.each j g).1 (by decide) (by intro b;exact absurd b (by decide)),λm l=>e.own ((d.each j g).2 m l) (by decide) (λ_=>k)⟩,e.own d.begins (by decide) (by intro b;exact absurd b (by decide))⟩
theorem kF.below(b:kF B w vC vB CV bg)(k:aB w w'):kF B w' vC vB CV bg:=b.keptP (.of_below k) (zo _)
theorem kF.begin{k:Nat}(b:kF B w vC vB CV bg)(l:zv w' B 3 1 v (Z bg+1) ((bg.map λm:Nat=>iQ (m:Int))++[iQ k]))(f:zn w w' (zs vB)):kF B w' vC v CV (bg++[k]):=
 ⟨b.cl.kept f (dC b.cl b.begins (by decide)),λe d=>⟨(b.each e d).1.kept f (dC (b.each e d).1 b.begins (by decide)),λj g=>((b.each e d).2 j g).kept f (dC ((b.each e d).2 j g) b.begins (by decide))⟩,by rw[List.map_append,zm];exact l⟩
theorem kF.more{p:List (Lt×Y)×Y}(d:kF B w vC vB CV bg)(l:lA w B p)(k:zv w' B 36 1 v (Z CV+1) (CV.map z4++[p.2]))(e:zn w w' (zs vC)):kF B w' v vB (CV++[p]) bg:=by
 have g:∀b,lA w B b->lA w' B b:=λb hq=>⟨hq.1.kept e (dC hq.1 d.cl (by decide)),λj f=>(hq.2 j f).kept e (dC (hq.2 j f) d.cl (by decide))⟩
 refine⟨by rw[List.map_append,zm];exact k,λb hq=>?_,d.begins.kept e (dC d.begins d.cl (by decide))⟩;rcases List.mem_append.1 hq with hq|hq
 .exact g b (d.each b hq)
 simp at hq;subst hq;exact g b l
end
theorem bX.apart(n:bX w pa vL i bad vP vC vB vV){B:Nat}{b:TypeId}{j:Nat}{v:Y}{f:Nat}{k:List Y}(d:zv w B b j v f k)(o:b≠91):zs v=zq\/zs v≠zr pa:=by
 obtain⟨_,⟨rfl,_⟩|⟨g,l,m,rfl,_,p,_⟩⟩:=d
 .exact Or.inl rfl
 right;intro e;simp[zs]at e;grind[bX]
theorem bX.far(b:bX w pa vL i bad vP vC vB vV){B:Nat}{d:TypeId}{k:Nat}{v:Y}{n:Nat}{l:List Y}(j:zv w B d k v n l)(e:d≠91)(f:zn w w' (zs v)):bX w' pa vL i bad vP vC vB vV:=by have g:=b.lt;have m:=b.apart j e;unfold bX at b ⊢;rw[f.block pa g ?_];all_goals grind
structure jX(B pa:Nat)(w0:U)(L:List Tk)(vL vC vB:Y)(wr:U)(st:bC)(bad:Int)(vP vV vc:Y)(P:List (Lt×Y)):Prop where
 pin:cJ B wr pa L st bad vL vP vC vB vV
 kept:cM B w0.heap.size w0 wr
 row:zv wr w0.heap.size 55 2 vc (Z P) (bH P)
 atoms:∀q∈P,zv wr w0.heap.size 52 2 q.2 (Z q.1.2) (aV q.1.2)
section
variable {B pa:Nat}{w0 wr w':U}{L:List Tk}{vL vC vB vP vV vc:Y}{st:bC}{bad:Int}{P:List (Lt×Y)}
theorem jX.below(b:jX B pa w0 L vL vC vB wr st bad vP vV vc P)(k:aB wr w'):jX B pa w0 L vL vC vB w' st bad vP vV vc P:=
 ⟨b.pin.below k,b.kept.trans (.of_below k),bF b.row k (zo _),λe d=>bF (b.atoms e d) k (zo _)⟩
theorem jX.setI(b:jX B pa w0 L vL vC vB wr st bad vP vV vc P):jX B pa w0 L vL vC vB (zu wr (aQ pa 1) (iQ ((st.i:Int)+1))) ⟨st.i+1,st.vars,st.pz⟩ bad vP vV vc P:=
 ⟨b.pin.setI (st.i+1),b.kept.grownBox b.pin.box b.pin.high (cD _ _ _),b.pin.box.row b.row (by decide) _ _,λe d=>b.pin.box.row (b.atoms e d) (by decide) _ _⟩
theorem jX.wrong{e:Int}(b:jX B pa w0 L vL vC vB wr st bad vP vV vc P)(j:bX w' pa vL st.i e vP vC vB vV)(d:zn wr w' (zr pa)):jX B pa w0 L vL vC vB w' st e vP vV vc P:=
 ⟨b.pin.grownBox d j,b.kept.grownBox b.pin.box b.pin.high d,b.row.kept d (b.pin.box.apart b.row (by decide)),λg f=>(b.atoms g f).kept d (b.pin.box.apart (b.atoms g f) (by decide))⟩
theorem jX.atom{g:bC}{f:Int}{j k l:Y}{d:List Nd}(b:jX B pa w0 L vL vC vB wr st bad vP vV vc P)(n:cJ B w' pa L g f vL j vC vB k)(e:cM B wr.heap.size wr w')(o:zv w' wr.heap.size 52 2 l (Z d) (aV d)):jX B pa w0 L vL vC vB w' g f j k vc P/\zv w' w0.heap.size 52 2 l (Z d) (aV d):=
 ⟨⟨n,b.kept.trans (e.mono b.kept.size),e.own b.row (by decide) (by intro m;exact absurd m (by decide)),λq p=>e.own (b.atoms q p) (by decide) (λ_=>zo _)⟩,fM o b.kept.size⟩
theorem jX.lit{e j:Y}{x:Lt}(b:jX B pa w0 L vL vC vB wr st bad vP vV vc P)(f:zv wr w0.heap.size 52 2 e (Z x.2) (aV x.2))(k:zv w' w0.heap.size 55 2 j (Z P+1) (bH P++[.bool x.1,e]))(d:zn wr w' (zs vc)):jX B pa w0 L vL vC vB w' st bad vP vV j (P++[(x,e)]):=by
 refine⟨b.pin.far b.row (by decide) d,b.kept.fresh b.row (zo _) d,by rw[yY,zm];exact k,λg hq=>?_⟩;rcases List.mem_append.1 hq with hq|hq
 .exact(b.atoms g hq).kept d (dC (b.atoms g hq) b.row (by decide))
 simp at hq;subst hq;exact f.kept d (dC f b.row (by decide))
end
theorem aA3{P:List (Lt×Y)}(f:zv w B 55 2 v (Z P) (bH P))(p:∀b∈P,zv w B 52 2 b.2 (Z b.1.2) (aV b.1.2))(t:∀b∈P,eO b.1.2)(q:aY (P.map zp)<=1000000)(s:Z P<=2000000):∃a e,v=.slice a (Z P) e/\bU w a (P.map zp):=by
 obtain⟨a,e,rfl,g⟩:=tL f;refine⟨a,e,rfl,⟨by simp;omega,λd j=>?_⟩⟩;have k:d<Z P:=by simpa using j
 obtain⟨m,rfl,n,o⟩:=g d k;have l:P[d]∈P:=z2 _;have r:=xW (P.map zp) P[d].1 (List.mem_map.2 ⟨_,l,rfl⟩);grind[wC,z2,eO,aY,bH,aV]
theorem bBv{e:List (List (Lt×Y)×Y)}{f:List Nat}(b:cJ B w pa L st bad vL vP vC vB vV)(d:kF B w vC vB e f):cJ B (zu w (aQ pa 6) (nQ)) pa L ⟨st.i,[],st.pz⟩ bad vL vP vC vB (nQ)/\kF B (zu w (aQ pa 6) (nQ)) vC vB e f/\Below B w (zu w (aQ pa 6) (nQ))/\(zu w (aQ pa 6) (nQ)).heap.size=w.heap.size:=
 ⟨⟨b.high,b.box.set6 _,b.box.row b.toks (by decide) _ _,b.box.row b.pz (by decide) _ _,zj _ _ _ _⟩,
  ⟨b.box.row d.cl (by decide) _ _,λj g=>⟨b.box.row (d.each j g).1 (by decide) _ _,λl k=>b.box.row ((d.each j g).2 l k) (by decide) _ _⟩,b.box.row d.begins (by decide) _ _⟩,
  fK (dP) b.high _,by simp[zu]⟩
theorem bBw{d:U}{m:List (List (Lt×Y)×Y)}{s:List Nat}{g:List (Lt×Y)×Y}{o:Obj}(p:cJ B w pa L st bad vL vP vC vB vV)(x:kF B w vC vB m s)(l:lA w B g)(u:B<=w.heap.size)
  (y:zv d B 36 1 v (Z m+1) (m.map z4++[g.2])) (f:zn (w.alloc o) d (zs vC)):World.frozen? d (aQ pa 4)=zt/\cQ d pa 4 vC/\cJ B (zu d (aQ pa 4) v) pa L st bad vL vP v vB vV/\kF B (zu d (aQ pa 4) v) v vB (m++[g]) s/\Below B w (zu d (aQ pa 4) v)/\w.heap.size<=(zu d (aQ pa 4) v).heap.size:=by
 have k:=aI w o;have e:=p.below k;have j:=x.below k;have z:lA (w.alloc o) B g:=⟨bF l.1 k (zo _),λr q=>bF (l.2 r q) k (zo _)⟩;have b:=e.box.far j.cl (by decide) f;have n:=j.more z y f;have A:=f.size;refine⟨b.soft 4,b.c4,⟨p.high,b.set4 v,?_,?_,?_⟩,?_,?_,?_⟩
 .exact b.row (e.toks.kept f (dC e.toks j.cl (by decide))) (by decide) _ _
 .exact b.row (e.pz.kept f (dC e.pz j.cl (by decide))) (by decide) _ _
 .exact b.row (e.vars.kept f (dC e.vars j.cl (by decide))) (by decide) _ _
 .exact⟨b.row n.cl (by decide) _ _,λg l=>⟨b.row (n.each g l).1 (by decide) _ _,λr q=>b.row ((n.each g l).2 r q) (by decide) _ _⟩,b.row n.begins (by decide) _ _⟩
 .refine fK ((k.mono u).grown f ?_ ?_) p.high _
  .simp;omega
  exact λC t=>(bS j.cl C t).1
 simp[zu]at A ⊢;omega
theorem aE7:(Tryz.prog.info? 36).map (λi=>(i.zero,i.size,i.bytes))=zr (zr (nQ),1,24):=by kernel_rfl
theorem aOy{m:Array Oper}{b:Oper}{a:Act}{w:U}{K:Act->U->Prop}{o:Exit->Act->U->Prop}{n:Prop}(t:b.guard=zq)(d:Nat)(j:Array Operand)(A:Array TypeId)
  (x:b.op=.call {callee:=.value (.func d),args:=j,argTypes:=A}) (s:∀l w,(callFunc d l).run zb w=.ok (.enter d l) w) (f:Array Y) (g:j.toList.map a.eval=f.toList) {k:Ending->U->Prop} (r:Calls zb d f w k)
  (p:∀e w',k e w'->∃v,e=.returned v/\K (a.put b.dst v) w'):if zh b (yielded m a.tmps)=V then Oper.wp zb b a w K o else n:=by
 have z:zh b (yielded m a.tmps)=true:=by simp[zh,t]
 rw[aT z];have y:(execOp a.eval b).run zb w=.ok (.enter d f) w:=by
  have g:j.map a.eval=f:=by apply Array.ext';rw[Array.toList_map];exact g
  subst g;simp[execOp,x,resolve,invoke,s,Act.eval,Deferred.ofValue]
 unfold Oper.wp;rw[y,Oper.upon_enter];exact r.mono λe w' q=>by
  obtain⟨v,rfl,u⟩:=p e w' q;exact u
theorem bBx{t d:U}{p:List (List (Lt×Y)×Y)}{j:List Nat}{u:Nat}{q:Obj}(m:cJ B w pa L st bad vL vP vC vB vV)(z:kF B w vC vB p j)(y:B<=w.heap.size)(l:aB w t)
  (A:zv d B 3 1 v (Z j+1) ((j.map λo:Nat=>iQ (o:Int))++[iQ u])) (f:zn (t.alloc q) d (zs vB)):World.frozen? d (aQ pa 5)=zt/\cQ d pa 5 vB/\cJ B (zu d (aQ pa 5) v) pa L st bad vL vP vC v vV/\kF B (zu d (aQ pa 5) v) vC v p (j++[u])/\Below B w (zu d (aQ pa 5) v)/\w.heap.size<=(zu d (aQ pa 5) v).heap.size:=by
 have n:=l.alloc l.size q;have e:=m.below n;have g:=z.below n;have b:=e.box.far g.begins (by decide) f;have k:=g.begin A f;have D:=f.size;refine⟨b.soft 5,b.c5,⟨m.high,b.set5 v,?_,?_,?_⟩,?_,?_,?_⟩
 .exact b.row (e.toks.kept f (dC e.toks g.begins (by decide))) (by decide) _ _
 .exact b.row (e.pz.kept f (dC e.pz g.begins (by decide))) (by decide) _ _
 .exact b.row (e.vars.kept f (dC e.vars g.begins (by decide))) (by decide) _ _
 .exact⟨b.row k.cl (by decide) _ _,λs r=>⟨b.row (k.each s r).1 (by decide) _ _,λE C=>b.row ((k.each s r).2 E C) (by decide) _ _⟩,b.row k.begins (by decide) _ _⟩
 .refine fK ((n.mono y).grown f ?_ ?_) m.high _
  .have:=l.size;simp;omega
  exact λo x=>(bS g.begins o x).1
 have:=l.size;simp[zu]at D ⊢;omega
def aOz(B pa:Nat)(w:U)(L T:List Tk)(st:bC)(vL:Y)(j:List (List (Lt×Y)×Y))(k:List Nat)(l:Ending)(w':U):Prop:=
 l=.returned (.tuple #[])/\Below B w w'/\w.heap.size<=w'.heap.size/\
  match jO T st with
  | .ok (st',c)=>∃e d b f g v,cJ B w' pa L st' (-1) vL e d b f/\kF B w' d b (j++[(g,v)]) (k++[(aH T st.i).pos])/\g.map zp=bB c
  | .error p=>∃m e d b f,bX w' pa vL m (p:Int) e d b f
def aE8(B pa:Nat)(g:U)(L T:List Tk)(vL vC vB:Y)(st:bC)(f:Y)(wr:U):Prop:=
 ∃b bad vP vV d,jX B pa g L vL vC vB wr b bad vP vV f d/\b.i<=3000010/\
  match lD T st with
  | .ok (s1,c)=>bad=-1/\s1=b/\c=d.map zp/\b.i<Z T/\Z b.pz<=b.i/\Z d<=1000003/\aY (d.map zp)<=1000000/\(∀e∈d,eO e.1.2)
  | .error p=>bad=(p:Int)
def qY(B pa:Nat)(m:U)(L T:List Tk)(vL vC vB:Y)(d:bC)(j:Nat)(l:Y)(f:Bool)(wr:U):Prop:=
 ∃st bad vP vV b,j+Z b=Z T+1/\jX B pa m L vL vC vB wr st bad vP vV l b/\st.i<=3000000/\
  ((bad=-1/\st.i<Z T/\Z st.pz<=st.i/\Z st.vars<=st.i/\Z b<=st.i/\aY (b.map zp)<=st.i/\(∀k∈b,eO k.1.2)/\
    (f=V->∃e,Z T<st.i+e/\fR T (Z T+1) d []=fR T e st (b.map zp))/\(f=zt->fR T (Z T+1) d []=.ok (st,b.map zp)))\/
   ∃g:Nat,bad=(g:Int)/\fR T (Z T+1) d []=.error g)
def gR(T:List Tk)(st:bC):bC:=⟨if (aH T st.i).kind=126 then st.i+1 else st.i,st.vars,st.pz⟩
theorem aBi{e d:Nat}(b:dB T (Z T+1) V (gR T st) []=.error d):fR T (e+1) st c=.error d:=by unfold gR at b;rw[fR,b]
theorem aE9{d:Nat}{b:bC}{a:List Nd}(e:dB T (Z T+1) V (gR T st) []=.ok (b,a))(f:(aH T b.i).kind=124):fR T (d+1) st c=fR T d ⟨b.i+1,b.vars,b.pz⟩ (c++[(decide ((aH T st.i).kind=126),a)]):=by grind[fR,gR]
theorem aHm{d:Nat}{b:bC}{a:List Nd}(e:dB T (Z T+1) V (gR T st) []=.ok (b,a))(f:(aH T b.i).kind≠124):fR T (d+1) st c=.ok (b,c++[(decide ((aH T st.i).kind=126),a)]):=by grind[fR,gR]
theorem aA4(T:List Tk)(st:bC):st.i<=(gR T st).i/\(gR T st).i<=st.i+1/\(gR T st).vars=st.vars/\(gR T st).pz=st.pz:=by unfold gR;simp only;split<;>simp
theorem aEa(e:TL L T brk){st:bC}(b:st.i<Z T):(gR T st).i<Z T:=by
 unfold gR;simp only;split
 .rename_i d;exact e.more _ b (by rw[d];decide) (by rw[d];decide)
 exact b
section
variable {B pa:Nat}{w0 wr:U}{L T:List Tk}{brk:Int}{vL vC vB vP vV vc:Y}{s0 st:bC}{k g:Nat}{P:List (Lt×Y)}{s2:bC}{bad2:Int}{vl:Y}{l2:List Nd}
theorem qY.more(d:TL L T brk)(e:vE L T)(A:k+Z P=Z T+1)(C:Z P<=st.i)(u:aY (P.map zp)<=st.i)(E:∀q∈P,eO q.1.2)(o:st.i<Z T)(D:Z st.pz<=st.i)(G:Z st.vars<=st.i)(z:Z T<st.i+(g+1))(y:fR T (Z T+1) s0 []=fR T (g+1) st (P.map zp))(t:Z T<=1000002)
  (b:dB T (Z T+1) V (gR T st) []=.ok (s2,l2)) (f:(aH T s2.i).kind=124) (n:jX B pa w0 L vL vC vB wr ⟨s2.i+1,s2.vars,s2.pz⟩ (-1) vP vV vc (P++[((decide ((aH T st.i).kind=126),l2),vl)])):qY B pa w0 L T vL vC vB s0 (k-1) vc V wr:=by
 obtain⟨H,I,r,s⟩:=aA4 T st;have j:=(xB T (Z T+1)).1 _ _ _ _ _ b;have p:=(aEc d (Z T+1)).1 _ _ _ _ _ b (aEa d o);have F:=(aHx e (Z T+1)).1 _ _ _ _ _ b (by intro x e;simp at e);rw[r,s]at j;simp only[zg]at j;have m:=d.more _ p (by rw[f];decide) (by rw[f];decide);refine⟨_,-1,vP,vV,_,by simp;omega,n,by simp;omega,Or.inl ⟨rfl,m,by simp;omega,by simp;omega,by simp;omega,?_,?_,λ_=>⟨g,by simp;omega,?_⟩,λl=>by cases l⟩⟩;all_goals grind[tK,aE9,z0]
theorem qY.stop(e:TL L T brk)(d:vE L T)(r:k+Z P=Z T+1)(s:Z P<=st.i)(n:aY (P.map zp)<=st.i)(x:∀q∈P,eO q.1.2)(f:st.i<Z T)(u:Z st.pz<=st.i)(z:Z st.vars<=st.i)(o:fR T (Z T+1) s0 []=fR T (g+1) st (P.map zp))(m:Z T<=1000002)
  (b:dB T (Z T+1) V (gR T st) []=.ok (s2,l2)) (j:(aH T s2.i).kind≠124) (l:jX B pa w0 L vL vC vB wr s2 (-1) vP vV vc (P++[((decide ((aH T st.i).kind=126),l2),vl)])):qY B pa w0 L T vL vC vB s0 (k-1) vc zt wr:=by
 obtain⟨A,C,D,E⟩:=aA4 T st;have t:=(xB T (Z T+1)).1 _ _ _ _ _ b;have p:=(aEc e (Z T+1)).1 _ _ _ _ _ b (aEa e f);have y:=(aHx d (Z T+1)).1 _ _ _ _ _ b (by intro F d;simp at d);grind[zg,z0,qY,eO,aY,fR,eI,dB,gR,aH]
theorem qY.err{b:Nat}{d:Bool}{n:Bool}(o:k+Z P=Z T+1)(p:1<=k)(j:fR T (Z T+1) s0 []=fR T (g+1) st (P.map zp))
  (m:dB T (Z T+1) V (gR T st) []=.error b) (f:bad2=(b:Int)) (l:s2.i<=3000000) (e:jX B pa w0 L vL vC vB wr s2 bad2 vP vV vc (P++[((d,l2),vl)])):qY B pa w0 L T vL vC vB s0 (k-1) vc n wr:=
 ⟨_,bad2,vP,vV,_,by simp;omega,e,l,Or.inr ⟨b,f,by rw[j,aBi m]⟩⟩
end
theorem bBy(B pa:Nat)(brk:Int)(st:bC)(vL vP vC vB vV:Y)(L T:List Tk)(g:List (List (Lt×Y)×Y))(b7:List Nat)(w:U)(p:TL L T brk)(f2:vE L T)(h3:∀vC vB n2,aHu B pa brk L T vL vC vB n2)(m:cJ B w pa L st (-1) vL vP vC vB vV)(b8:kF B w vC vB g b7)(n9:B<=w.heap.size)(o3:st.i<Z L)(o6:Z st.pz<=st.i)(r3:Z T<=1000000)(r5:Z b7<=st.i)(r6:Z g<=st.i):Calls zb 40 #[.pointer (zr ⟨pa,0,zq⟩),.int .i64 brk] w λn w'=>aOz B pa w L T st vL g b7 n w':=by
 obtain⟨n6,j0⟩:=f2.low _ o3;have j6:=p.pos _ n6;obtain⟨u3,u7,rfl⟩:=aZ b8.begins;obtain⟨k,l,rfl⟩:=aZ b8.cl;have s6:=aHw;have s5:=bCr;have q:=O (rA B pa st.i (-1) vL vP _ _ vV L w.drew (m.drawn 1).box (m.drawn 1).toks);have l3:=O h3;clear h3;unfold pM at q;rw[j6]at q;obtain⟨k1,e2⟩:∃k1,(aH L st.i).kind=k1:=⟨_,rfl⟩;obtain⟨k5,j8⟩:∃k5,(aH L st.i).txt=k5:=⟨_,rfl⟩;obtain⟨f4,f1⟩:∃f4,(aH T st.i).pos=f4:=⟨_,rfl⟩;rw[e2,j8,f1]at q;have q1:=O e2;have m2:=O f1;have g3:=O m;have d4:=O b8;have h0:=m.box.c5;clear m b8 e2 j8 f1 j6;go_enter Tryz.func40,Tryz.ntmps40;go_upto_region 0 with(fail);go_cut [] (λf=>∃e,cJ B f pa L st (-1) vL vP (.slice k (Z g) l) e vV/\kF B f (.slice k (Z g) l) e g (b7++[f4])/\Below B w f/\w.heap.size<=f.heap.size);case first=>
  refine tT ?_;go_region_law (first
   |(refine aOy (by rfl) 38 _ _ (by rfl) (enters_of Tryz.func38 (by kernel_rfl) rfl) _ (by rfl) (aD q) ?_;rintro n d1 ⟨rfl,a5⟩;refine⟨_,rfl,?_⟩;have b4:aE (aB w d1):=O ((aN (w1:=w.drew) ⟨1,rfl⟩).trans a5);have s7:=b4.o.size;have n1:=aC b4.o h0;have q6:=(λp5=>aC (aI d1 p5) n1);have m0:=O (bF d4.o.begins b4.o (zo _));clear a5)
   |(refine dG mR Tryz.underlying24 (m0.o.alloc _) ?_;intro u0 b0 e6 i6;obtain⟨t7,q4,h8,h6,z,j7⟩:=bBx g3.o d4.o n9 b4.o e6 i6;have l8:=O h8;have l6:=O h6;have l1:=O z;have m1:=O j7;obtain⟨u4,u8,rfl⟩:=aZ e6;clear e6 i6 h8 h6 z j7))
  all_goals
   refine tU ?_;go_wp2_with fail;go_meet;case rel=>exact⟨_,l8.o,l6.o,l1.o,m1.o⟩
 case rest=>
  obtain⟨e,b9,h4,c1,o7⟩:=hcut;obtain⟨c0,h5,a5,p0⟩:=bBv b9 h4;have m6:=b9.box.c6;have n4:=b9.box.soft 6;go_upto_region 3 with(fail);generalize zu wc ⟨pa,6,zq⟩ (.slice zq 0 0)=w0 at *;have l0:=O (c1.trans a5);have d9:B<=w0.heap.size:=by omega
  have o9:w.heap.size<=w0.heap.size:=by omega
  have b1:=O (rA B pa st.i (-1) vL vP _ e (.slice zq 0 0) L w0 c0.box c0.toks);unfold pM at b1;obtain⟨f3,e0⟩:∃f3,(aH L st.i).kind=f3:=⟨_,rfl⟩;rw[e0]at b1;have g1:=O e0;have f8:aE (jX B pa w0 L vL (.slice k (Z g) l) e w0 ⟨st.i,[],st.pz⟩ (-1) vP (.slice zq 0 0) (.slice zq 0 0) []):=O ⟨c0,cM.refl _ _ _,zj _ _ _ _,λd0 d=>by simp at d⟩;have l5:=O h5;clear b9 h4 c1 o7 c0 h5 a5 p0 m6 n4 e0 g3 d4 q h0;go_upto_if 27 with(first
   |(go_at_call 38;refine(aD b1).mono ?_;rintro n d1 ⟨rfl,A⟩;have G:=O (f8.o.below A);have a2:=G.o.pin.box.c1;have a3:=G.o.pin.box.soft 1;clear A)
   |go_in)
  clear f8 b1;obtain⟨m5,J⟩:∃m4,((f3:Int)==102)=m4:=⟨_,rfl⟩;rw[J];go_cut [4] (λc f=>aE8 B pa w0 L T vL (.slice k (Z g) l) e st c f);case first=>
   cases m5;case true=>
    have E:(aH T st.i).kind=102:=by rw[<-p.kind,g1.o];simp at J;omega
    have o5:=p.more _ j0 (by rw[E];decide) (by rw[E];decide);have I:aE (∀f,jX B pa w0 L vL (.slice k (Z g) l) e f ⟨st.i+1,[],st.pz⟩ (-1) vP (.slice zq 0 0) (.slice zq 0 0) []->aE8 B pa w0 L T vL (.slice k (Z g) l) e st (.slice zq 0 0) f):=O λf m=>⟨_,-1,_,_,[],m,by simp;omega,by
     rw[lD,aT E];exact⟨rfl,rfl,rfl,o5,by simp;omega,by simp,by simp[aY],λd0 d=>by simp at d⟩⟩
    clear E J;go_wp2_with fail;go_meet;case rel=>exact I.o _ G.o.setI
   case false=>
    have E:(aH T st.i).kind≠102:=by rw[<-p.kind,g1.o];rw[beq_eq_false_iff_ne]at J;omega
    have f7:aE (lD T st=fR T (Z T+1) ⟨st.i,[],st.pz⟩ []):=O (by rw[lD,aS E]);have g5:aE (qY B pa w0 L T vL (.slice k (Z g) l) e ⟨st.i,[],st.pz⟩ (Z T+1) (.slice zq 0 0) V d1):=O ⟨_,-1,_,_,[],by simp,G.o,by simp;omega,Or.inl ⟨rfl,j0,by simpa using o6,by simp,by simp,by simp[aY],(λd0 d=>by simp at d),λ_=>⟨Z T+1,by simp;omega,rfl⟩,λm=>by cases m⟩⟩;clear E G a2 a3 J;go_wp2_with fail;go_loopg [4,5] (Z T+1) (λp1 c p3 wr=>∃a7:Bool,p3=.bool a7/\qY B pa w0 L T vL (.slice k (Z g) l) e ⟨st.i,[],st.pz⟩ p1 c a7 wr);exact⟨V,rfl,g5.o⟩;clear g5;obtain⟨a7,rfl,b,bad,a8,a9,a1,e1,o,r7,o1⟩:=hrel;have a2:=o.pin.box.c1;have g9:=o.pin.box.c2;have a3:=o.pin.box.soft 1;have f9:=O o;rcases o1 with⟨rfl,c2,e9,j9,j4,i4,c6,e4,e5⟩|⟨Q,rfl,a6⟩
    .cases a7 with
     |false=>
      have I:aE (aE8 B pa w0 L T vL (.slice k (Z g) l) e st _ wr):=O ⟨b,-1,a8,a9,a1,o,by omega,by
       rw[f7.o,e5 rfl];exact⟨rfl,rfl,rfl,c2,e9,by omega,by omega,c6⟩⟩
      clear o e4 e5 c6;go_wp2_with fail;go_meet;case rel=>exact I.o
     |true=>
      obtain⟨d7,o2,a6⟩:=e4 rfl;obtain⟨d7,rfl⟩:∃n5,d7=n5+1:=⟨d7-1,by omega⟩;have d5:=O a6;have g7:=O c6;have q:=O (rA B pa b.i (-1) vL a8 _ e a9 L wr o.pin.box o.pin.toks);unfold pM at q;obtain⟨c7,c3⟩:∃c7,(aH L b.i).kind=c7:=⟨_,rfl⟩;rw[c3]at q;rw[p.kind]at c3;have b6:=O c3;clear o e4 e5 c6 a6 c3;go_upto_if 47 with(first
       |(go_at_call 38;refine(aD q).mono ?_;rintro n v2 ⟨rfl,i2⟩;have R:=O (f9.o.below i2);have m7:=R.o.pin.box.c1;have n3:=R.o.pin.box.soft 1;clear i2)
       |go_in)
      clear q f9 a2 g9 a3;go_cut [6] (λp4 f=>p4=.bool (decide ((aH T b.i).kind=126))/\jX B pa w0 L vL (.slice k (Z g) l) e f (gR T b) (-1) a8 a9 _ a1);case first=>
       by_cases d8:c7=126
       .subst d8;have d6:aE (gR T b=⟨b.i+1,b.vars,b.pz⟩):=O (by unfold gR;rw[aT b6.o]);go_wp2_with fail;go_meet;case rel=>exact⟨by rw[b6.o];rfl,by rw[d6.o];exact R.o.setI⟩
       have d6:aE (gR T b=b):=O (by unfold gR;rw[aS (by rw[b6.o];exact d8)]);have s1:((c7:Int)==126)=false:=by rw[beq_eq_false_iff_ne];omega
       go_wp2_with fail;go_meet;case rel=>exact⟨by rw[b6.o];simp[d8];omega,by rw[d6.o];exact R.o⟩
      case rest=>
       clear R m7 n3;obtain⟨rfl,j⟩:=hcut;obtain⟨k2,k3,rfl⟩:=aZ j.row;obtain⟨t4,t5,p6,p7⟩:=aA4 T b;have n8:B<=wc.heap.size:=zk d9 j.kept.size;have f6:=O (l3.o (.slice k (Z g) l) e (Z T+1) wc.heap.size V (gR T b) a8 a9 (.slice zq 0 0) [] wc j.pin (zj _ _ _ _) n8 (zo _) (aEa p c2) (by omega) (by omega) (by simp) (by rw[p7];omega) (by rw[p6];omega));have b5:=O j;clear j;go_wp2_with(first
        |(go_at_call 71;refine(aD f6).mono ?_;rintro n b0 ⟨v1,p8,p9,k4,q2,p2,rfl,j5,e3,j1,i3,u⟩;obtain⟨t0,t1,rfl⟩:=aZ e3;obtain⟨t,j2⟩:=b5.o.atom j5 j1 e3;have s:=O t;have g2:=O j2;have g6:=O u;have r8:=i3.2.1;have s8:=t.kept.size;clear t j2 u j5 e3 j1 i3)
        |(at_builtin;refine eU qJ Tryz.underlying36 (s.o.row.alloc _) ?_)
        |go_in)
       intro u1 d2 e7 i8 _;have a4:=(s.o.below (aI _ _)).lit (x:=(decide ((aH T b.i).kind=126),p2)) (g2.o.alloc _) e7 i8;obtain⟨u5,u9,rfl⟩:=aZ e7;have S:=O a4;have q7:=a4.pin.box.c1;have q8:=a4.pin.box.c2;have r1:=a4.pin.box.soft 1;clear a4 e7 i8 s g2 f6 b5;have u:=g6.o;clear g6;cases d:dB T (Z T+1) V (gR T b) []with
       |error Q=>
        rw[d]at u;simp only at u;subst u;have H:=O d;clear d;have c1:decide ((Q:Int)<0)=false:=by simp
        go_wp2_with fail;go_roundg (gk-1);case measure=>omega
        case rel=>exact⟨false,rfl,qY.err e1 (by omega) d5.o H.o rfl (by omega) S.o⟩
       |ok r=>
        obtain⟨t6,s9⟩:=r;rw[d]at u;simp only at u;obtain⟨rfl,rfl,rfl⟩:=u;have H:=O d;clear d;have b2:=O (rA B pa k4.i (-1) vL p8 _ e p9 L d2 S.o.pin.box S.o.pin.toks);unfold pM at b2;obtain⟨c8,c4⟩:∃c8,(aH L k4.i).kind=c8:=⟨_,rfl⟩;rw[c4]at b2;rw[p.kind]at c4;have X:=O c4;clear c4;by_cases h1:c8=124
        .subst h1;go_wp2_with(first
          |(go_at_call 38;refine(aD b2).mono ?_;rintro n k8 ⟨rfl,C⟩;have W:=O (S.o.below C);have r0:=W.o.pin.box.c1;have r2:=W.o.pin.box.soft 1;clear C)
          |go_in)
         go_roundg (gk-1);case measure=>omega
         case rel=>exact⟨true,rfl,qY.more p f2 e1 j4 i4 g7.o c2 e9 j9 o2 d5.o (by omega) H.o X.o W.o.setI⟩
        have s0:((c8:Int)==124)=false:=by rw[beq_eq_false_iff_ne];omega
        go_wp2_with(first
         |(go_at_call 38;refine(aD b2).mono ?_;rintro n k8 ⟨rfl,C⟩;have W:=O (S.o.below C);clear C)
         |go_in)
        go_roundg (gk-1);case measure=>omega
        case rel=>exact⟨false,rfl,qY.stop p f2 e1 j4 i4 g7.o c2 e9 j9 d5.o (by omega) H.o (by rw[X.o];exact h1) W.o⟩
    have I:aE (aE8 B pa w0 L T vL (.slice k (Z g) l) e st _ wr):=O ⟨b,_,a8,a9,a1,o,by omega,by
     rw[f7.o,a6]⟩
    have c1:decide ((Q:Int)<0)=false:=by simp
    clear o a6;cases a7 with
    |true=>
     go_wp2_with fail;go_meet;case rel=>exact I.o
    |false=>
     go_wp2_with fail;go_meet;case rel=>exact I.o
  case rest=>
   clear G a2 a3 J;obtain⟨t9,q3,k6,k7,a1,y,r9,P⟩:=hcut;have d3:=O y;have a2:=y.pin.box.c1;have g9:=y.pin.box.c2;have a3:=y.pin.box.soft 1;have F:aE (∀f,cM B w0.heap.size w0 f->Below B w f/\w.heap.size<=f.heap.size):=O λf m=>⟨l0.o.trans (m.below d9),zk o9 m.size⟩
   cases d:lD T st with
   |error Q=>
    rw[d]at P;simp only at P;subst P;have a0:aE (jO T st=.error Q):=O (by rw[jO,d]);have r4:decide ((Q:Int)<0)=false:=by simp
    clear y d;go_wp2_with fail;go_returns;have D:=d3.o.setI;refine⟨rfl,(F.o _ D.kept).1,(F.o _ D.kept).2,?_⟩;rw[a0.o];exact⟨_,_,_,_,_,D.pin.box⟩
   |ok r=>
    obtain⟨b,c⟩:=r;rw[d]at P;simp only at P;obtain⟨rfl,rfl,rfl,o4,s4,s3,i5,o8⟩:=P;have b3:=O (rA B pa b.i (-1) vL k6 _ e k7 L wc y.pin.box y.pin.toks);unfold pM at b3;obtain⟨c9,N⟩:∃c9,(aH L b.i).kind=c9:=⟨_,rfl⟩;rw[N]at b3;rw[p.kind]at N;clear y;by_cases h2:c9=46
    .subst h2;have a0:aE (jO T st=.ok (⟨b.i+1,b.vars,b.pz⟩,a1.map zp)):=O (by rw[jO,d];simp only;rw[aT N]);clear d N;go_wp2_with(first
      |(go_at_call 38;refine(aD b3).mono ?_;rintro n b0 ⟨rfl,z⟩;have j:=(d3.o.below z);have m8:=j.pin.box.c1;have n0:=j.pin.box.soft 1;have t:=j.setI;have m9:=t.pin.box.c2;obtain⟨k2,k3,rfl,j3⟩:=aA3 t.row t.atoms o8 i5 (by omega);have f5:=O (aFl k2 k3 _ _ j3 i5);rw[List.length_map]at f5;have s:=O t;clear z j t j3)
      |(go_at_call 72;refine(aD f5).mono ?_;rintro n d2 ⟨q0,g8,rfl,i0,f0,i1,A⟩;have c5:B<=(zu b0 ⟨pa,1,none⟩ (.int .i64 ((b.i:Int)+1))).heap.size:=zk d9 s.o.kept.size;have g0:=O ((l5.o.keptP s.o.kept (zo _)).below A);have g4:=O (s.o.pin.below A);have l4:aE (lA d2 B (g8,q0)):=O ⟨fM f0 c5,λd0 d=>fM (i1 d0 d) c5⟩;have X:=O (s.o.kept.trans (.of_below A));have q5:=g4.o.box.c4;have n7:B<=d2.heap.size:=zk c5 A.size;have H:=O i0;obtain⟨t2,t3,rfl⟩:=aZ f0;clear f0 i1 A i0 c5)
      |(at_builtin;refine eU aE7 Tryz.underlying25 (g0.o.cl.alloc _) ?_)
      |go_in)
     intro u2 k8 e8 i9 _;obtain⟨u6,v0,rfl⟩:=aZ e8;obtain⟨t8,q9,h9,h7,C,k0⟩:=bBw g4.o g0.o l4.o n7 e8 i9;have l9:=O h9;have l7:=O h7;have l2:=O C;have m3:=O k0;clear h9 h7 C k0 e8 i9;go_wp2_with fail;go_returns;refine⟨rfl,(F.o _ X.o).1.trans l2.o,zk (F.o _ X.o).2 m3.o,?_⟩;rw[a0.o,m2.o];exact⟨_,_,_,_,g8,_,l9.o,l7.o,H.o⟩
    have s2:((c9:Int) != 46)=true:=by simp;omega
    have a0:aE (jO T st=.error (aH T b.i).pos):=O (by rw[jO,d];simp only;rw[aS (by rw[N];exact h2)]);have o0:=p.bad _ o4;clear d N;go_wp2_with(first
     |(go_at_call 38;refine(aD b3).mono ?_;rintro n b0 ⟨rfl,z⟩;have j:=d3.o.below z;have k9:=O (aEg B pa b.i brk vL k6 _ e k7 L b0 j.pin.box j.pin.toks);have b5:=O j;clear z j)
     |(go_at_call 39;refine(aD k9).mono ?_;rintro n v3 ⟨rfl,M,i7⟩;rw[o0]at M;have s:=O (b5.o.wrong M i7);have m8:=M.c1;have m9:=M.c2;have n0:=M.soft 1;clear M i7)
     |go_in)
    go_returns;have D:=s.o.setI;refine⟨rfl,(F.o _ D.kept).1,(F.o _ D.kept).2,?_⟩;rw[a0.o];exact⟨_,_,_,_,_,D.pin.box⟩
section
variable {P:Program}{ops:Array Oper}{Q:Exit->Act->U->Prop}{md:Region.Mode}{k:Nat}{C D:U->Prop}
def nR(k:Nat)(C D:U->Prop)(L:Array Bool)(w:U):Prop:=(L.getD k V=zt->C w)/\D w
def pJ(P:Program)(md:Region.Mode)(ops:Array Oper)(Q:Exit->Act->U->Prop)(k:Nat)(C D:U->Prop):Nat->Array Bool->Act->U->Prop
 |0,listed,a,w=>zl md ops listed=[]/\Q .normal a w
 |fuel+1,listed,a,w=>
  (zl md ops listed=[]->Q .normal a w)/\
  ∀i∈zl md ops listed,wpOp P ops Q i (λb w'=>nR k C D (listed.setIfInBounds i V) w'/\pJ P md ops Q k C D fuel (listed.setIfInBounds i V) b w') a w
theorem aP0:∀(fuel:Nat) (b:Array Bool) (a:Act) (w:U),pJ P md ops Q k C D fuel b a w->wpAny P md ops Q fuel b a w
 |0,_,_,_,h=>h
 |fuel+1,_,_,_,h=>⟨h.1,λi f=>wpOp_mono (λd w' e=>aP0 fuel _ d w' e.2) (h.2 i f)⟩
theorem nR.set{L:Array Bool}(i:Nat)(b:nR k C D L w):nR k C D (L.setIfInBounds i V) w:=by refine⟨λe=>b.1 ?_,b.2⟩;by_cases d:i=k;all_goals simp_all
theorem nR.unset{L:Array Bool}(d:i≠k)(b:nR k C D (L.setIfInBounds i V) w):nR k C D L w:=
 ⟨λe=>b.1 (by rwa[getD_set_ne V d]),b.2⟩
def yF(md:Region.Mode)(ops:Array Oper)(k i:Nat):Bool:=match ops[k]? with
 |none=>false
 |some o=>o.after.any λb=>zf md b && b.on==i
theorem bBz(e:yF md ops k i=V):∃d b,ops[k]?=zr d/\b∈d.after/\zf md b=V/\b.on=i:=by grind[yF,Array.any_eq_true']
theorem bC0{m:Oper}{x:U->Prop}(E:ops[i]?=zr m)(b4:i≠k)(X:∀(b:Nat) (G:Oper) r q,ops[b]?=zr G->G.op≠.select r q)
  (a4:∀c a w,Q (.panic c) (a.put m.dst v) w->Q (.panic c) a w) (a5:(∀w,D w->x w)\/((∀w,C w->D w->x w)/\yF md ops k i=V)):∀(s:Nat) (d:Array Bool) (a:Act) (w:U),
   (∀b n,ops[b]?=zr n->b≠i->d.getD b V=zt->(∀e∈n.after,zf md e=V->e.on≠i)->m.apart ops n=V)->
   i∈zl md ops d->YieldsIf P ops x m v a->nR k C D d w->(yF md ops k i=V->d.getD k V=zt)->
   pJ P md ops Q k C D s (d.setIfInBounds i V) (a.put m.dst v) w->pJ P md ops Q k C D (s+1) d a w:=by
 have M:∀(L:Array Bool) (w:U),nR k C D L w->(yF md ops k i=V->L.getD k V=zt)->x w:=λL w f z=>by
  rcases a5 with j|⟨j,a2⟩
  .exact j w f.2
  exact j w (f.1 (z a2)) f.2
 intro s;induction s with
 |zero=>
  intro d a w _ l A f o p;refine⟨λj=>(by rw[j]at l;cases l),λb y=>?_⟩;by_cases g:b=i
  .subst g;exact A.wpOp E (M _ _ f o) ⟨f.set _,p⟩
  have:=ready_mono y g;rw[p.1]at this;cases this
 |succ s ih=>
  intro d a w S l A f o p;refine⟨λj=>(by rw[j]at l;cases l),λb y=>?_⟩;by_cases g:b=i
  .subst g;exact A.wpOp E (M _ _ f o) ⟨f.set _,p⟩
  have H:=p.2 b (ready_mono y g);obtain⟨W,n,F,a6⟩:=mem_ready.1 y;have b1:∀e∈n.after,zf md e=V->e.on≠i:=λe R N b3=>by
   have H:=a6 e R N;have b2:=(mem_ready.1 l).1;grind
  have a3:=wpOp_putIf F (S b n F g W b1) (λr q=>X i m r q E) (λr q=>X b n r q F) a4 A H;have a7:∀k u,ops[k]?=zr u->k≠i->(d.setIfInBounds b V).getD k V=zt->
    (∀e∈u.after,zf md e=V->e.on≠i)->m.apart ops u=true:=λk u o a9 a0 b0=>by
   refine S k u o a9 ?_ b0;by_cases t:b=k
   .subst t;exact W
   rw[getD_set_ne V t]at a0;exact a0
  have a8:yF md ops k i=V->(d.setIfInBounds b V).getD k V=false:=λz=>by
   obtain⟨G,e,b5,R,N,b6⟩:=bBz z;have t:b≠k:=λt=>by
    grind
   rw[getD_set_ne V t];exact o z
  refine wpOp_mono (λa1 w' I=>?_) a3;have J:nR k C D (d.setIfInBounds b V) w':=by grind[nR.unset,ze]
  refine⟨J,ih (d.setIfInBounds b V) a1 w' a7 (ready_mono l (Ne.symm g)) I.1 J a8 ?_⟩;rw[ze _ _ g];exact I.2.2
def TkT(P:Program)(md:Region.Mode)(ops:Array Oper)(k:Nat)(C D:U->Prop):List (Bool×Nat×Nat×Y)->Array Bool->Act->Prop
 |[],_,_=>True
 |(c,i,d,v)::L,ls,a=>(∃b,ops[i]?=some b/\b.dst=some d/\((!c || yF md ops k i) && (i != k) && !(ls.getD k true))=true/\Region.free md ops ls i=true/\(zl md ops ls).contains i=true/\YieldsIf P ops (λw=>(c=true->C w)/\D w) b v a)/\TkT P md ops k C D L (ls.setIfInBounds i true) (a.put (some d) v)
theorem aP2(n:Region.noSelect ops=V)(m:∀c a w (j:Nat) v,Q (.panic c) (Act.put a (zr j) v) w->Q (.panic c) a w){w:U}{fuel:Nat}:∀(L:List (Bool×Nat×Nat×Y)) (b:Array Bool) (a:Act),nR k C D b w->TkT P md ops k C D L b a->pJ P md ops Q k C D fuel (L.foldl (λq g=>q.setIfInBounds g.2.1 V) b) (L.foldl (λa g=>a.put (zr g.2.2.1) g.2.2.2) a) w->pJ P md ops Q k C D (fuel+Z L) b a w
 |[],_,_,_,_,d=>d
 |(c,i,j,v)::L,b,a,hT,⟨⟨oi,e,f,h3,h4,h5,h6⟩,h7⟩,d=>by
  have l:=aP2 n m L _ _ (hT.set i) h7 d;simp only[Bool.and_eq_true,bne_iff_ne,ne_eq,Bool.not_eq_true',Bool.or_eq_true]at h3;rw[<-f]at l;refine bC0 e h3.1.2 (Region.noSelect_spec n) (λc a w o=>m c a w j v (by rw[f]at o;exact o)) ?_ _ b a w (Region.free_spec e h4) (by simpa using h5) h6 hT (λ_=>h3.2) l;cases c
  .exact Or.inl λw d=>⟨λp=>(by cases p),d⟩
  exact Or.inr ⟨λw e f=>⟨λ_=>e,f⟩,by simpa using h3.1.1⟩
def oS(P:Program)(md:Region.Mode)(ops:Array Oper)(Q:Exit->Act->U->Prop)(k:Nat)(C D:U->Prop)(e:Nat)(b:Array Bool)(a:Act)(w:U)(rs:List Nat):Prop:=
 ∀i∈rs,wpOp P ops Q i (λd w'=>nR k C D (b.setIfInBounds i V) w'/\pJ P md ops Q k C D e (b.setIfInBounds i V) d w') a w
theorem oS.nil{b:Nat}{e:Array Bool}:oS P md ops Q k C D b e a w []:=λ_ d=>by cases d
theorem oS.cons{e:Nat}{d:Array Bool}{a:Act}{w:U}{i:Nat}{o:Oper}{rs:List Nat}(m:ops[i]?=zr o)
  (f:∀b:Act->U->Prop,Shut (∀a w,nR k C D (d.setIfInBounds i V) w->pJ P md ops Q k C D e (d.setIfInBounds i V) a w->b a w)->if zh o (yielded ops a.tmps)=V then Oper.wp P o a w b Q else b (a.put o.dst undef) w)
  (n:oS P md ops Q k C D e d a w rs):oS P md ops Q k C D e d a w (i::rs):=λj hj=>by
 rcases List.mem_cons.1 hj with rfl|hj
 .exact wpOp_step m (λb hK=>f b (λa w g l=>hK a w ⟨g,l⟩))
 exact n j hj
theorem aHn{rs:List Nat}{d:Nat}{b:Array Bool}(e:zl md ops b=rs)(j:rs≠[])
 (f:oS P md ops Q k C D d b a w rs):pJ P md ops Q k C D (d+1) b a w:=⟨λg=>absurd (e▸g) j,e▸f⟩
theorem sS(i:Nat){f:Nat}{b:Array Bool}{a:Act}{w:U}{d:Oper}(l:zl md ops b=[i])(j:ops[i]?=zr d)
 (g:∀e:Act->U->Prop,Shut (∀a w,nR k C D (b.setIfInBounds i V) w->pJ P md ops Q k C D f (b.setIfInBounds i V) a w->e a w)->if zh d (yielded ops a.tmps)=V then Oper.wp P d a w e Q else e (a.put d.dst undef) w):pJ P md ops Q k C D (f+1) b a w:=aHn l (by simp) (oS.cons j g oS.nil)
theorem bC1{e:Array Bool}(d:zl md ops e=[])(b:Q .normal a w):∀f,pJ P md ops Q k C D f e a w
 |0=>⟨d,b⟩
 |_+1=>⟨λ_=>b,by rw[d];simp⟩
theorem bC2{g:Nat}(k:Nat)(C D:U->Prop)(f:P.follows .mixedOrders=V)(d:C w.drew)(e:D w.drew)
  (b:nR k C D (z3 ops.size zt) w.drew->pJ P .any ops Q k C D ops.size (z3 ops.size zt) a w.drew):(Code.region g ops V).wp P Q a w:=
 wp_region_any f (aP0 _ _ _ _ (b ⟨λ_=>d,e⟩))
end
theorem aP3:eO []:=λd b=>by simp at b
theorem bC3(k:TL L T brk)(o:vE L T):∀g st c b d,fR T g st c=.ok (b,d)->st.i<Z T->(∀f∈c,eO f.2)->
  (∀f∈d,eO f.2)/\st.i<b.i/\b.i<Z T/\aY d<=aY c+(b.i-st.i)/\Z d<=Z c+(b.i-st.i)/\Z st.pz<=Z b.pz/\Z b.pz<=Z st.pz+(b.i-st.i):=by
 intro g;induction g with
 |zero=>intro st c b d e;simp[fR]at e
 |succ g ih=>
  intro st c b d e m y;cases hq:dB T (Z T+1) V (gR T st) []with
  |error p=>rw[aBi hq]at e;simp at e
  |ok r=>
   obtain⟨u,q⟩:=r;obtain⟨C,D,s,t⟩:=aA4 T st;have l:=(xB T (Z T+1)).1 _ _ _ _ _ hq;have n:=(aEc k (Z T+1)).1 _ _ _ _ _ hq (aEa k m);have A:=(aHx o (Z T+1)).1 _ _ _ _ _ hq aP3;rw[s,t]at l;simp only[zg]at l;have z:∀f∈c++[(decide ((aH T st.i).kind=126),q)],eO f.2:=by grind
   by_cases j:(aH T u.i).kind=124
   .rw[aE9 hq j]at e;have x:=k.more _ n (by rw[j];decide) (by rw[j];decide);grind[tK,zm,zd]
   rw[aHm hq j]at e;grind[tK,zm,zd,Prod.mk.injEq]
theorem aHo(f:TL L T brk)(g:vE L T){st d:bC}{c:List Lt}(b:jO T st=.ok (d,c))(k:st.i<Z T):(∀l∈c,eO l.2)/\st.i<d.i/\d.i<Z T/\aY c<=Z T/\Z c<=Z T/\Z st.pz<=Z d.pz/\Z d.pz<=Z st.pz+(d.i-st.i):=by
 unfold jO at b;cases hq:lD T st with
 |error p=>rw[hq]at b;simp at b
 |ok r=>
  obtain⟨A,q⟩:=r;rw[hq]at b;simp only at b;split at b
  .rename_i e;simp only[Except.ok.injEq,Prod.mk.injEq]at b;obtain⟨rfl,rfl⟩:=b;unfold lD at hq;split at hq
   .rename_i j;have m:=f.more _ k (by rw[j];decide) (by rw[j];decide);simp only[Except.ok.injEq,Prod.mk.injEq]at hq;obtain⟨rfl,rfl⟩:=hq;have n:=f.more _ m (by rw[e];decide) (by rw[e];decide);grind[aY]
   obtain⟨s,t,o,u,x,y,z⟩:=bC3 f g _ _ _ _ _ hq k (λl g=>by simp at g);have n:=f.more _ o (by rw[e];decide) (by rw[e];decide);grind[aY,zg]
  simp at b
theorem bC4(b:(aH T st.i).kind=63):jO T st=.error (aH T st.i).pos:=by grind[aBi,lD,jO,dB,gR,aH]
theorem bC5(b:List Nd):∀f,eO b->eO (eF b f).1:=by
 have g:∀(b:List Nd) (d:List Nd×List Int),eO b->eO d.1->eO (b.foldl fH d).1:=by
  intro b;induction b with
  |nil=>intro d _ e;exact e
  |cons x r ih=>
   grind[fH,zc,z1,eO,eF]
 exact λf e=>g b ([],f) e aP3
theorem bC6(c:List Lt)(e:∀b∈c,eO b.2):∀b∈(dY c).1,eO b.2:=by
 have g:∀(c:List Lt) (d:List Lt×List Int),(∀b∈c,eO b.2)->(∀b∈d.1,eO b.2)->∀b∈(c.foldl iZ d).1,eO b.2:=by
  intro c;induction c with
  |nil=>intro d _ e;exact e
  |cons y r ih=>
   grind[iZ,bC5,zc,z1]
 exact g c ([],[]) e (λb f=>by simp at f)
theorem bC7(c:List Lt):aY (dY c).1=aY c:=by
 have d:∀(c:List Lt) (b:List Lt×List Int),aY (c.foldl iZ b).1=aY b.1+aY c:=by
  intro c;induction c with
  |nil=>intro b;simp[aY]
  |cons y r ih=>
   grind[aY,tK,iZ,xV]
 grind[aY,dY]
theorem aHp(c:List Lt)(e:∀b∈c,eO b.2):(∀b∈bB c,eO b.2)/\aY (bB c)<=aY c/\Z (bB c)<=Z c:=by obtain⟨g,j,d⟩:=sC c;refine⟨bC6 _ λb f=>e b (d b f),?_,?_⟩;all_goals grind[sD,bC7,bB]
def lS(b:List (Nat×List Lt))(i:Nat)(d:i<Z b):Prop:=40<=i\/bN (bB b[i].2)=zt
def pK(b:List (Nat×List Lt))(out:List (List Lt))(at' e:Int):Prop:=
 (∃i d,lS b i d/\(∀f g,f<i->¬lS b f g)/\out=[]/\at'=b[i].1/\e=4)\/((∀i d,¬lS b i d)/\out=b.map (λj=>bB j.2)/\at'=0/\e=0)
def iS(e:ByteArray)(out:List (List Lt))(at' b:Int):Prop:=
 (3000<e.size/\out=[]/\at'=0/\b=1)\/(e.size<=3000/\
  match sV e with
  | .error p=>out=[]/\at'=p/\b=2
  | .ok (st,cs)=>∃d,lR st.pz d/\((0<=d/\out=[]/\at'=d/\b=3)\/(d<0/\pK cs out at' b)))
def nS(B:Nat)(w:U)(v:Y)(d:List (List (Lt×Y)×Y)):Prop:=
 zv w B 36 1 v (Z d) (d.map z4)/\∀b∈d,lA w B b/\(∀e∈b.1,eO e.1.2)/\aY (b.1.map zp)<=1000000/\Z b.1<=1000000
theorem nS.nil(B:Nat)(w:U):nS B w (nQ) []:=⟨zj _ _ _ _,λp b=>by simp at b⟩
structure lT(B:Nat)(w:U)(v:Y)(QV:List (List (Lt×Y)×Y)):Prop where
 mem:nS B w v QV
 once:(QV.map λp=>zs p.2).Nodup
 atoms:(QV.flatMap λp=>p.1.filterMap λq=>zs q.2).Nodup
theorem lT.nil(B:Nat)(w:U):lT B w (nQ) []:=⟨nS.nil _ _,by simp,by simp⟩
theorem lR.none{d:List Pl}{e:Int}(b:lR d e)(f:∀i b,¬lQ d i b):e=-1:=by grind[lR,lQ]
theorem aP4{e:ByteArray}{f:Int}(b:iS e out at' f)(m:e.size<=3000){st:bC}{d:List (Nat×List Lt)}(l:sV e=.ok (st,d))(j:∀i b,¬lQ st.pz i b)(k:∀i b,¬lS d i b):out=d.map (λg=>bB g.2)/\at'=0/\f=0:=by grind[lR.none,pK,lR,iS,lS,lQ,bB,sV]
def pN:Nd:=(⟨#[112]⟩,0)
theorem bC8:sV ⟨#[112,46,32,126,112,46]⟩=.ok (⟨5,[],[(⟨#[112]⟩,V,0,0),(⟨#[112]⟩,V,0,4)]⟩,[(0,[(zt,[pN])]),(3,[(V,[pN])])]):=by kernel_rfl
def cP:List Lt:=[(zt,[pN])]
def gS:List Lt:=[(V,[pN])]
theorem aP5{d:Int}(b:iS ⟨#[112,46,32,126,112,46]⟩ out at' d):out=[cP,gS]/\at'=0/\d=0:=by
 have:=aP4 b (by decide) bC8 (λi b=>by
  match i,b with
  |0,_=>simp[lQ]
  |1,_=>
   simp only[lQ,pG];rintro(b|⟨k,hk,h1,h2⟩)
   .exact absurd b (by simp)
   obtain rfl:k=0:=by omega
   simp at h2) (λi b=>by
  match i,b with
  |0,_=>simp only[lS];exact not_or.2 ⟨by omega,λb=>zi (b.symm.trans (show bN (bB _)=true by kernel_rfl))⟩
  |1,_=>simp only[lS];exact not_or.2 ⟨by omega,λb=>zi (b.symm.trans (show bN (bB _)=true by kernel_rfl))⟩)
 rw[show [cP,gS]=[(0,[(zt,[pN])]),(3,[(V,[pN])])].map (λp:Nat×List Lt=>bB p.2) by kernel_rfl];exact this
def sT:List Nd:=[(⟨#[112]⟩,1),(⟨#[97]⟩,0)]
def sU:List Nd:=[(⟨#[112]⟩,1),(⟨#[]⟩,0)]
theorem bC9:sV ⟨#[112,40,97,41,46,32,126,112,40,88,41,46]⟩=.ok (⟨11,[⟨#[88]⟩],[(⟨#[112]⟩,V,1,0),(⟨#[97]⟩,zt,0,2),(⟨#[112]⟩,V,1,7)]⟩,[(0,[(zt,sT)]),(6,[(V,sU)])]):=by kernel_rfl
theorem bCa{d:Int}(b:iS ⟨#[112,40,97,41,46,32,126,112,40,88,41,46]⟩ out at' d):out=[[(zt,sT)],[(V,sU)]]/\at'=0/\d=0:=by
 have:=aP4 b (by decide) bC9 (λi b=>by
  match i,b with
  |0,_=>simp[lQ]
  |1,_=>
   simp only[lQ,pG];rintro(b|⟨k,hk,h1,h2⟩)
   .exact absurd b (by simp)
   obtain rfl:k=0:=by omega
   simp at h1
  |2,_=>
   simp only[lQ,pG];rintro(b|⟨k,hk,h1,h2⟩)
   .exact absurd b (by simp)
   match k,hk with
   |0,_=>simp at h2
   |1,_=>simp at h1) (λi b=>by
  match i,b with
  |0,_=>simp only[lS];exact not_or.2 ⟨by omega,λb=>zi (b.symm.trans (show bN (bB _)=true by kernel_rfl))⟩
  |1,_=>simp only[lS];exact not_or.2 ⟨by omega,λb=>zi (b.symm.trans (show bN (bB _)=true by kernel_rfl))⟩)
 rw[show [[(zt,sT)],[(V,sU)]]=[(0,[(zt,sT)]),(6,[(V,sU)])].map (λp:Nat×List Lt=>bB p.2) by kernel_rfl];exact this
theorem iS.few{d:ByteArray}{a b:Int}(e:iS d out a b):Z out<=40/\∀c∈out,Z c<=8:=by grind[lS,bN,bB,sV,List.getElem_of_mem,List.length_map,Nat.le_of_not_lt,pK,lR,iS,aY]
