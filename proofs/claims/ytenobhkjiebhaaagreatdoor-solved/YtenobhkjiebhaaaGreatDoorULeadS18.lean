import Derived.Test.YtenobhkjiebhaaaGreatDoorUForS18
import Derived.RangeFuncOwn
open Bool renaming true->zn,false->zi
open List renaming length->Z,getElem?_eq_getElem->zw,getElem?_append_left->zl,getElem?_append_right->zk,getElem_mem->zj,getElem?_eq_some_iff->zh,drop_eq_getElem_cons->zg,replicate->zf,getElem?_eq_none->zb,drop_eq_nil_of_le->z2,getElem?_map->z4,take_succ_eq_append_getElem->z6,length_append->z9,ext_getElem?->yz,append_assoc->yy,drop_append->yu,length_drop->yt,map_toArray->yo
open Nat renaming le_trans->z3,le_refl->z7,zero_le->yw
open Option renaming some->V,none->zv,map_eq_some_iff->ys
open Or renaming inr->z5,inl->yp
open Prod renaming snd->ze
namespace Go.Proofs.YtenobhkjiebhaaaGreatDoor
open Go renaming World->zu,Value->zq
open Region renaming wanted->zc
open _root_.Go.Proofs.Tryz renaming prog->zm,underlying156->z8,underlying50->yx,underlying24->yq,func96->yn
open Value renaming ownBlock->U
open World renaming setCell->zt,grownBy->zs,cell?->zr,ownsRow->zo,frozen?->za,block_lt_of_cell?->yv
open Go.RowKit Go.Shelf Go.WideMaps
set_option maxHeartbeats 8000000
set_option maxRecDepth 100000
variable{t:List Nd}{M:List Tg}{mp n p:Nat}{k:TypeId}{w:zu}
theorem aIl{a:DataW Unit}{b c:zu}(f:b.ownsMap zm k jC mp n a)(g:c.heap[mp]?=b.heap[mp]?):c.ownsMap zm k jC mp n a:=by obtain⟨e,d,i,j⟩:=f;exact⟨e,d,by rw[g];exact i,j⟩
theorem aIm{b:DataW Unit}{a:zu}(c:a.ownsMap zm k jC mp n b):mp<a.heap.size:=by obtain⟨f,e,d,_⟩:=c;exact(bA d)
theorem vQ{a:DataW Unit}{b c:zu}(d:b.ownsMap zm k jC mp n a)(e:aB b c):c.ownsMap zm k jC mp n a:=aIl d (e.block mp (aIm d))
theorem bF3(E mp l b2:Nat)(b1:Option Addr)(m:DataW Unit)(M:List Tg)(b:Int)(c:ByteArray)(a:Int)(w:zu)(S:zr w ⟨E,0,zv⟩=V (.slice b1 (Z M) b2))(H:zr w ⟨E,4,zv⟩=V (.map (V mp)))
  (D:w.ownsMap zm 198 jC mp l m) (B:pV m M) (b8:l<=Z M) (b7:Z M<=1000000) (N:-1000000000<=b/\b<=1000000000) (j:-1000000000<=a/\a<=1000000000):Calls zm 96 #[.pointer (V ⟨E,0,zv⟩),.int .i64 b,.agg #[.string c,.int .i64 a]] w λI a7=>∃a6 Q,I=.returned (.int .i64 (pU M b (c,a)))/\a7.ownsMap zm 198 jC mp a6 Q/\pV Q (M++[(b,(c,a))])/\a6<=Z M+1/\zs w a7 (V mp):=by
 have c0:E<w.heap.size:=yv w _ H;have z:=O (λwx=>sJ c a wx);by_cases r:c.toList.isEmpty=zn
 .have e:aK (c,a)=true:=r;rw[r]at z;obtain⟨a5,X⟩:=bDx b a N j;have A:=O D;have f:=O B;have o:=O X;clear D B r N j;go_enter yn,Tryz.ntmps96;go_wp2_with(first
   |(go_at_call 89;refine(aD z _).mono ?_;rintro I d ⟨rfl,q⟩;have g:aB w d:=(aI _ _).trans (q.mono (by simp));have a3:=aC g S;have a4:=aC g H;have b6:zr d ⟨w.heap.size,1,none⟩=some (.int .i64 a):=aC q (by simp);have R:=O g;clear g q)
   |go_in)
  have C:aB d (d.alloc (.cells #[.int .i64 b,.int .i64 a] 198)):=aI _ _;have c1:=aC C a3;have c2:=aC C a4;have b3:w.heap.size<=d.heap.size:=R.o.size;have F:=O (R.o.trans (C.mono b3));have c3:zr (d.alloc (.cells #[.int .i64 b,.int .i64 a] 198)) ⟨d.heap.size,0,zv⟩=V (.int .i64 b):=by simp
  have c4:zr (d.alloc (.cells #[.int .i64 b,.int .i64 a] 198)) ⟨d.heap.size,1,zv⟩=V (.int .i64 a):=by simp
  generalize d.alloc (.cells #[.int .i64 b,.int .i64 a] 198)=w2 at *;have s:=O (vQ A.o F.o);clear a3 a4 b6 C X S H;cases hf:lX M b a with
  |some p=>
   have P:=f.o.old b a a5 p o.o hf;have u:aE (pU M b (c,a)=p):=O (by unfold pU;rw[e];simp[hf]);have G:=O (f.o.skip (p:=(b,(c,a))) (z5 (by simp[hf])));have i:∀wx:zu,wx.ownsMap zm 198 jC mp l m->(Instr.lookup 156 (.map (V mp)) (.agg #[.int .i64 b,.int .i64 a]) zn).run zm wx=.ok (.tuple #[.int .i64 p,.bool zn]) wx:=λwx j=>by
    obtain⟨b5,b4,x,y⟩:=j.look_ok aBr z8 (Tryz.zeroValue3 _) (zd:=.lit (.int .i64 0)) (zp:=[]) rfl o.o;rw[P.2]at y;have J:=aDo y;subst J;rw[P.1]at x;exact x
   have a1:=i w2 s.o;have a2:=λv=>i (w2.drewN v) (vQ s.o (aN ⟨v,rfl⟩))
   clear P hf e i;go_quiet (fail);go_wp2;go_ret;have T:=bE F.o (aN (w1:=w2.drewN nq) ⟨nq,rfl⟩);exact⟨l,m,lK (by rw[u.o]),vQ A.o T,G.o,by omega,jL T⟩
  |none=>
   have L:=f.o.new b a a5 o.o hf;have u:aE (pU M b (c,a)=Z M):=O (by unfold pU;rw[e];simp[hf]);have G:=O (f.o.put e hf o.o);have i:∀wx:zu,wx.ownsMap zm 198 jC mp l m->(Instr.lookup 156 (.map (V mp)) (.agg #[.int .i64 b,.int .i64 a]) zn).run zm wx=.ok (.tuple #[.int .i64 0,.bool zi]) wx:=λwx j=>by
    obtain⟨b5,b4,x,y⟩:=j.look_ok aBr z8 (Tryz.zeroValue3 _) (zd:=.lit (.int .i64 0)) (zp:=[]) rfl o.o;rw[aDm f.o.tidy.isMap L]at y;have J:=aDo y;subst J;rw[L]at x;exact x
   have a1:=i w2 s.o;have a2:=λv=>i (w2.drewN v) (vQ s.o (aN ⟨v,rfl⟩))
   clear L hf e i;go_quiet (fail);go_wp2;obtain⟨c5,b9,a0,W⟩:=(vQ s.o (aN (w1:=w2.drewN (nq+1)) ⟨_,rfl⟩)).update aBr z8 (by unfold maxLen;omega) (key:=.agg #[.int .i64 b,.int .i64 a]) (val:=.int .i64 (Z M)) (aD o) (d:=.lit (.int .i64 (Z M))) (ps:=[]) rfl;have b0:=O a0;have a9:=O W;clear a0 W a1 a2;go_region;all_goals
    go_wp2;go_ret;exact⟨l+1,_,lK (by rw[u.o]),b0.o,G.o,by omega,(jL (bE F.o (aN (w1:=w2.drewN (nq+1)) ⟨_,rfl⟩))).trans a9.o⟩
 have e:aK (c,a)=false:=by simpa[aK]using r
 rw[show c.toList.isEmpty=zi by simpa using r]at z;have u:aE (pU M b (c,a)=Z M):=O (by unfold pU;rw[e];rfl);have f:=O (B.skip (p:=(b,(c,a))) (yp e));have A:=O D;clear D B r e N j;go_enter yn,Tryz.ntmps96;go_wp2_with(first
  |(go_at_call 89;refine(aD z _).mono ?_;rintro I d ⟨rfl,q⟩;have a8:=O q;clear q)
  |go_in)
 go_ret;have g:aB w d:=(aI _ _).trans (a8.o.mono (by simp));exact⟨l,m,lK (by rw[u.o]),vQ A.o g,f.o,by omega,jL g⟩
theorem aEs{o:Array Oper}{b:Oper}{a:Act}{w:zu}{K:Act->zu->Prop}{r:Exit->Act->zu->Prop}{q:Prop}(y:b.guard=zv)(c:Nat)(i:Array Operand)(D:Array TypeId)
  (A:b.op=.call {callee:=.value (.func c),args:=i,argTypes:=D}) (x:∀m w,(callFunc c m).run zm w=.ok (.enter c m) w) (e:Array zq) (g:i.toList.map a.eval=e.toList) {l:Ending->zu->Prop} (v:Calls zm c e w l)
  (s:∀d f,l d f->∃j,d=.returned j/\K (a.put b.dst j) f):if zc b (yielded o a.tmps)=zn then Oper.wp zm b a w K r else q:=by
 have C:zc b (yielded o a.tmps)=true:=by simp[zc,y]
 rw[aT C];have B:(execOp a.eval b).run zm w=.ok (.enter c e) w:=by
  have g:i.map a.eval=e:=by apply Array.ext';rw[Array.toList_map];exact g
  subst g;simp[execOp,A,resolve,invoke,x,Act.eval,Deferred.ofValue]
 unfold Oper.wp;rw[B,Oper.upon_enter];exact v.mono λd f u=>by
  obtain⟨j,rfl,z⟩:=s d f u;exact z
theorem aQp(w:zu)(l:TypeId)(d:Nat)(a:zq)(n:Nat)(i:List zq)(u:zo w d 3 1 a n i)(I:U a≠zv)(J:n<=1000000)(D:d<=w.heap.size)(e j:Nat)(b:Int)(H:cQ w e 0 (iQ b)):∃c f,(Builtin.append_ #[24,24] l #[a,sQ e 1 j]).run zm w=.ok c f/\zo f d 3 1 c (n+1) (i++[iQ b])/\zs w f (U a)/\(U c=U a\/U c=V w.heap.size):=by
 obtain⟨B,q,A,x,z⟩:=info_parts mR;have s:∀(g:Nat) (m:zq),[iQ b][g]?=V m->zr w (((aQ e 0):Addr).add g)=V m:=by
  intro g m r;have F:g=0:=by grind
  subst F;simp at r;subst r;exact H
 have o:∀C∈[iQ b],C.oneCell'=true:=by intro C y;simp at y;subst y;rfl
 obtain⟨c,f,v,G,E,_⟩:=run_append_own (P:=zm) w d 24 l 3 B (iQ 0) 1 8 yq q A x z rfl (by decide) a n i u (aQ e 0) 1 j [iQ b] rfl s o (by unfold maxLen;omega) (by omega) D;exact⟨c,f,v,G,E,aB9 w d 24 l 3 B (iQ 0) 1 8 yq q A x z (by decide) a n i u I (aQ e 0) 1 j [iQ b] rfl s o (by unfold maxLen;omega) (by omega) v⟩
theorem bF4{m:Array Oper}{a:Oper}{b:Act}{w:zu}{K:Act->zu->Prop}{s:Exit->Act->zu->Prop}{r:Prop}(A:a.guard=zv)(o q:Operand)
  (C:a.op=.call {callee:=.builtin .append,args:=#[o,q],argTypes:=#[24,24]}) (f:Nat) (c:zq) (n:Nat) (j:List zq) (F:b.eval o=c) (D:zo w f 3 1 c n j) (H:U c≠zv) (B:n<=1000000) (z:f<=w.heap.size)
  (g l:Nat) (i:Int) (J:b.eval q=sQ g 1 l) (G:cQ w g 0 (iQ i))
  (u:∀d e,zo e f 3 1 d (n+1) (j++[iQ i])->zs w e (U c)->(U d=U c\/U d=V w.heap.size)->K (b.put a.dst d) e):if zc a (yielded m b.tmps)=zn then Oper.wp zm a b w K s else r:=by
 have I:zc a (yielded m b.tmps)=true:=by simp[zc,A]
 rw[aT I];obtain⟨d,e,E,v,x,y⟩:=aQp w a.type f c n j D H B z g l i G;unfold Oper.wp execOp;simp only[C,resolve,invoke,builtin,Sem.run_bind,Sem.run_pure,Result.andThen_ok,yo,List.map_cons,List.map_nil,F,J,E];exact u d e v x y
theorem tD{a:Nat}(b:aP t a=zn):dV t:=by
 intro f n e;have d:=aPp t a b;have c:aM t a=Z t:=by have:=zZ t a [] b;simpa using this
 grind[aI1,zh]
theorem dV.append{a:List Nd}(b:dV a)(k:dV t):dV (a++t):=by grind[aPq,yu,z2,zl,zk,dV,eY,bI]
theorem dV.one{L:List Nd}(a:dV L){p:Nat}(b:p<Z L):eY (L.drop p) 1:=by grind[eY,zg,zw,dV,bI]
theorem bF5{a:List Nd}(b:dV a):gA (a++t)=gA a++(gA t).map (· + Z a):=by apply yz;grind[dV.one,aI0,aI6,pT,yu,z2,zl,zk,zb]
def kR(M:List Tg)(b:Int)(t:List Nd)(k:Nat):List Nat:=(List.range k).map λa=>pU (M++(t.take a).map λn=>(b,n)) b (t.getD a (⟨#[]⟩,0))
theorem aQq(M:List Tg)(a:Int)(t:List Nd)(k:Nat):Z (kR M a t k)=k:=by simp[kR]
theorem bF6(M:List Tg)(a:Int)(t:List Nd)(k:Nat)(b:k<Z t):kR M a t (k+1)=kR M a t k++[pU (M++(t.take k).map λn=>(a,n)) a t[k]]:=by simp[kR,List.range_succ,b]
theorem bF7(M:List Tg)(a:Int)(t:List Nd)(k:Nat)(b:k<Z t):(M++(t.take k).map λn=>(a,n))++[(a,t[k])]=M++(t.take (k+1)).map λn=>(a,n):=by grind[yy,z6]
def eL(a t:List Nd)(b:Nat):List Nat:=gA a++(zf b 0++((gA t).map (· + Z a)).drop b)
theorem bF8(a t:List Nd)(b:Nat)(c:b<=Z t):Z (eL a t b)=Z a+Z t:=by simp[eL,pT];omega
theorem bF9(a t:List Nd):eL a t (Z t)=gA a++zf (Z t) 0:=by grind[eL,pT,z2]
theorem bFa{a:List Nd}(b:dV a):eL a t 0=gA (a++t):=by rw[bF5 b];simp[eL]
theorem aQr(b t:List Nd)(c a:Nat)(d:c<=a)(e:a<Z t):(eL b t c)[Z b+a]?=V (Z b+(a+aM (t.drop a) 1)):=by grind[eL,aI6,pT,zk,zf]
theorem aQs(a t:List Nd)(b p:Nat)(c:Z a<=p)(d:p<Z a+b):(eL a t b)[p]?=V 0:=by grind[eL,pT,zl,zk]
theorem bFb(b t:List Nd)(a:Nat)(c:a<Z t):(eL b t (a+1)).set (Z b+a) (Z b+(a+aM (t.drop a) 1))=eL b t a:=by apply yz;intro p;rw[List.getElem?_set];grind[eL,aQr,bF8,aQs,pT,zl,zb]
structure dZ(w:zu)(B tb:Nat)(vn ve vl vs vm:zq)(L:List Nd)(E F:List Nat)(S:List Int):Prop where
 box:w.heap[tb]?=V (.cells #[vn,ve,vl,vs,vm] 158)
 high:B<=tb
 rn:zo w B 52 2 vn (Z L) (aV L)
 re:zo w B 3 1 ve (Z E) (lF E)
 rl:zo w B 3 1 vl (Z F) (lF F)
 rs:zo w B 3 1 vs (Z S) (S.map (Value.int .i64))
 ab:U ve≠U vl
 ac:U ve≠U vs
 bc:U vl≠U vs
 ne:U ve≠zv
 nl:U vl≠zv
 ns:U vs≠zv
section
variable {w:zu}{B tb:Nat}{vn ve vl vs vm:zq}{L:List Nd}{E F:List Nat}{S:List Int}
theorem dZ.below(a:dZ w B tb vn ve vl vs vm L E F S){wx:zu}(k:aB w wx):dZ wx B tb vn ve vl vs vm L E F S:=
 ⟨by rw[k.block tb (bA a.box),a.box],a.high,bF a.rn k (z7 _),bF a.re k (z7 _),bF a.rl k (z7 _),bF a.rs k (z7 _),a.ab,a.ac,a.bc,a.ne,a.nl,a.ns⟩
theorem dZ.lt(a:dZ w B tb vn ve vl vs vm L E F S):tb<w.heap.size:=(bA a.box)
theorem dZ.cells(a:dZ w B tb vn ve vl vs vm L E F S):zr w (aQ tb 0)=V vn/\zr w (aQ tb 1)=V ve/\zr w (aQ tb 2)=V vl/\zr w (aQ tb 3)=V vs/\zr w (aQ tb 4)=V vm:=by simp[zr,a.box]
theorem dZ.soft(a:dZ w B tb vn ve vl vs vm L E F S)(j:Nat):za w (aQ tb j)=false:=by simp[za,a.box]
theorem dZ.grown(a:dZ w B tb vn ve vl vs vm L E F S){c:zu}{o:Option Nat}(b:zs w c o)(e:o≠V tb)(f:U vn=zv\/U vn≠o)(g:U ve=zv\/U ve≠o)(i:U vl=zv\/U vl≠o)(j:U vs=zv\/U vs≠o):dZ c B tb vn ve vl vs vm L E F S:=
 ⟨by rw[b.block tb (bA a.box) (λd=>e d.symm),a.box],a.high,eW a.rn b f,eW a.re b g,eW a.rl b i,eW a.rs b j,a.ab,a.ac,a.bc,a.ne,a.nl,a.ns⟩
theorem aEt{w:zu}{tb:Nat}{c d e f b x:zq}{a:TypeId}(g:w.heap[tb]?=V (.cells #[c,d,e,f,b] a)):((zt w (aQ tb 0) x).heap[tb]?=V (.cells #[x,d,e,f,b] a))/\((zt w (aQ tb 1) x).heap[tb]?=V (.cells #[c,x,e,f,b] a))/\((zt w (aQ tb 2) x).heap[tb]?=V (.cells #[c,d,x,f,b] a))/\((zt w (aQ tb 3) x).heap[tb]?=V (.cells #[c,d,e,x,b] a)):=by
 have i:=(bA g);have j:=(Array.getElem?_eq_some_iff.1 g).2;refine⟨?_,?_,?_,?_⟩<;>simp[zt,Array.getElem?_modify,g]
theorem dZ.stays(a:dZ w B tb vn ve vl vs vm L E F S)(b:Obj){d:zu}{c:Option Nat}(f:zs (w.alloc b) d c)(g:c≠V tb):d.heap[tb]?=V (.cells #[vn,ve,vl,vs,vm] 158):=by rw[f.block tb (by have:=a.lt;simp;omega) (λe=>g e.symm)];exact(a.below (aI _ b)).box
theorem aEu{w:zu}{tb:Nat}{a b c d f:zq}{e:TypeId}(g:w.heap[tb]?=V (.cells #[a,b,c,d,f] e)):zr w (aQ tb 0)=V a/\zr w (aQ tb 1)=V b/\zr w (aQ tb 2)=V c/\zr w (aQ tb 3)=V d/\∀j,za w (aQ tb j)=false:=by simp[zr,za,g]
theorem dZ.stays2(a:dZ w B tb vn ve vl vs vm L E F S)(c:Obj){b:zu}(d:zs (w.alloc c) b (U vl)):cQ b tb 2 vl/\za b (aQ tb 2)=false:=by have:=aEu (a.stays c d (eX a.rl a.box (by decide)));exact⟨this.2.2.1,this.2.2.2.2 2⟩
theorem dZ.stays0(a:dZ w B tb vn ve vl vs vm L E F S)(c:Obj){b:zu}(d:zs (w.alloc c) b (U vn)):cQ b tb 0 vn/\za b (aQ tb 0)=false:=by have:=aEu (a.stays c d (eX a.rn a.box (by decide)));exact⟨this.1,this.2.2.2.2 0⟩
theorem dZ.leads(a:dZ w B tb vn ve vl vs vm L E F S){f:zu}{b:zq}{x:Nat}(d:zs w f (U vl))(m:zo f B 3 1 b (Z F+1) (lF F++[iQ x]))(g:U b=U vl\/U b=V w.heap.size):dZ (zt f (aQ tb 2) b) B tb vn ve b vs vm L E (F++[x]) S:=by
 have c:f.heap[tb]?=V (.cells #[vn,ve,vl,vs,vm] 158):=by rw[d.block tb a.lt (λe=>eX a.rl a.box (by decide) e.symm),a.box]
 have l:U vn=zv\/U vn≠U vl:=dC a.rn a.rl (by decide);refine⟨(aEt c).2.2.1,a.high,lZ (eW a.rn d l) c (by decide),lZ (eW a.re d (z5 a.ab)) c (by decide),?_,lZ (eW a.rs d (z5 λe=>a.bc e.symm)) c (by decide),?_,a.ac,?_,a.ne,?_,a.ns⟩
 .have:=lZ (j:=2) (x:=b) m c (by decide);simpa[lF]using this
 .rcases g with e|e
  .rw[e];exact a.ab
  rw[e];exact wS a.re
 .rcases g with e|e
  .rw[e];exact a.bc
  rw[e];exact λi=>wS a.rs i.symm
 rcases g with e|e
 .rw[e];exact a.nl
 rw[e];simp
theorem dZ.nodes(a:dZ w B tb vn ve vl vs vm L E F S){d:zu}{e:zq}{x:Nd}(c:zs w d (U vn))(g:zo d B 52 2 e (Z (L++[x])) (aV (L++[x]))):dZ (zt d (aQ tb 0) e) B tb e ve vl vs vm (L++[x]) E F S:=by
 have b:d.heap[tb]?=V (.cells #[vn,ve,vl,vs,vm] 158):=by rw[c.block tb a.lt (λf=>eX a.rn a.box (by decide) f.symm),a.box]
 refine⟨(aEt b).1,a.high,lZ g b (by decide),lZ (eW a.re c (dC a.re a.rn (by decide))) b (by decide),lZ (eW a.rl c (dC a.rl a.rn (by decide))) b (by decide),lZ (eW a.rs c (dC a.rs a.rn (by decide))) b (by decide),a.ab,a.ac,a.bc,a.ne,a.nl,a.ns⟩
theorem dZ.ends(a:dZ w B tb vn ve vl vs vm L E F S){w1:zu}{b:zq}{k:Nat}(d:zs w w1 (U ve))(i:zo w1 B 3 1 b (Z E+k) (lF E++zf k (iQ 0)))(g:U b=U ve\/U b=V w.heap.size):dZ (zt w1 (aQ tb 1) b) B tb vn b vl vs vm L (E++zf k 0) F S:=by
 have c:w1.heap[tb]?=V (.cells #[vn,ve,vl,vs,vm] 158):=by rw[d.block tb a.lt (λe=>eX a.re a.box (by decide) e.symm),a.box]
 refine⟨(aEt c).2.1,a.high,lZ (eW a.rn d (dC a.rn a.re (by decide))) c (by decide),?_,lZ (eW a.rl d (z5 λe=>a.ab e.symm)) c (by decide),lZ (eW a.rs d (z5 λe=>a.ac e.symm)) c (by decide),?_,?_,a.bc,?_,a.nl,a.ns⟩
 .have:=lZ (j:=1) (x:=b) i c (by decide);simpa[lF]using this
 .rcases g with e|e
  .rw[e];exact a.ab
  rw[e];exact λf=>wS a.rl f.symm
 .rcases g with e|e
  .rw[e];exact a.ac
  rw[e];exact λf=>wS a.rs f.symm
 rcases g with e|e
 .rw[e];exact a.ne
 rw[e];simp
theorem dZ.sizes(a:dZ w B tb vn ve vl vs vm L E F S){f:zu}{b:zq}{k:Nat}(d:zs w f (U vs))(i:zo f B 3 1 b (Z S+k) (S.map (Value.int .i64)++zf k (iQ 0)))(g:U b=U vs\/U b=V w.heap.size):dZ (zt f (aQ tb 3) b) B tb vn ve vl b vm L E F (S++zf k 0):=by
 have c:f.heap[tb]?=V (.cells #[vn,ve,vl,vs,vm] 158):=by rw[d.block tb a.lt (λe=>eX a.rs a.box (by decide) e.symm),a.box]
 refine⟨(aEt c).2.2.2,a.high,lZ (eW a.rn d (dC a.rn a.rs (by decide))) c (by decide),lZ (eW a.re d (z5 a.ac)) c (by decide),lZ (eW a.rl d (z5 a.bc)) c (by decide),?_,a.ab,?_,?_,a.ne,a.nl,?_⟩
 .have:=lZ (j:=3) (x:=b) i c (by decide);simpa using this
 .rcases g with e|e
  .rw[e];exact a.ac
  rw[e];exact wS a.re
 .rcases g with e|e
  .rw[e];exact a.bc
  rw[e];exact wS a.rl
 rcases g with e|e
 .rw[e];exact a.ns
 rw[e];simp
theorem dZ.endAt{c f:Nat}(a:dZ w B tb vn (sQ c n f) vl vs vm L E F S)(p e:Nat):dZ (zt w (aQ c p) (iQ e)) B tb vn (sQ c n f) vl vs vm L (E.set p e) F S:=by
 have i:n=Z E:=by obtain⟨j,l,b⟩:=aZ a.re;simp at b;exact b.2.1
 subst i;have d:=cD w (aQ c p) (iQ e);refine⟨?_,a.high,eW a.rn d (dC a.rn a.re (by decide)),?_,eW a.rl d (z5 λb=>a.ab b.symm),eW a.rs d (z5 λb=>a.ac b.symm),a.ab,a.ac,a.bc,a.ne,a.nl,a.ns⟩
 .rw[d.block tb a.lt (λb=>eX a.re a.box (by decide) b.symm),a.box]
 have g:=(a.re.stored p (iQ e)).1;rw[aQ1]at g;simpa using g
theorem dZ.endOf{f:Nat}{b:Option Addr}(d:dZ w B tb vn (.slice b n f) vl vs vm L E F S){p e:Nat}(m:E[p]?=V e):∃a,b=V ⟨a,0,zv⟩/\zr w ⟨a,p,zv⟩=V (.int .i64 e)/\za w ⟨a,p,zv⟩=zi/\n=Z E:=by obtain⟨l,o⟩:=List.getElem?_eq_some_iff.1 m;obtain⟨q,r,c,j⟩:=xQ d.re;simp at c;obtain⟨rfl,rfl,rfl⟩:=c;obtain⟨g,rfl,i⟩:=j p l;refine⟨g,rfl,by rw[i,o],?_,rfl⟩;exact d.re.frozenAt p
theorem dZ.toIn(a:dZ w B tb vn ve vl vs vm L (gA L) F S)(b:Z F=Z L)(c:Z S=Z L)(d:Z L<=1000000)(e:∀n∈L,n.1.size<=140737488355328):cE w B tb vn ve vl vs vm L F S:=
 ⟨a.box,a.high,a.rn,by have:=a.re;rwa[pT]at this,by have:=a.rl;rwa[b]at this,by have:=a.rs;rwa[c]at this,b,c,d,e,a.ab,a.ac,a.bc⟩
end
theorem bFc{J:Array Oper}{c:Oper}{j:Act}{w:zu}{K:Act->zu->Prop}{Q:Exit->Act->zu->Prop}{N:Prop}(W:c.guard=zv)(L G:Operand)
  (a1:c.op=.call {callee:=.builtin .append,args:=#[L,G],argTypes:=#[50,50]}) (l:Nat) (d:zq) (b:List Nd) (a2:j.eval L=d) (y:zo w l 52 2 d (Z b) (aV b)) (b1:Z b<=1000000) (T:l<=w.heap.size)
  (f o:Nat) (a:Nd) (q:j.eval G=sQ f 1 o) (a3:cQ w f 0 (.string a.1)) (a4:cQ w f 1 (iQ a.2))
  (s:∀i m,zo m l 52 2 i (Z b+1) (aV (b++[a]))->zs w m (U d)->dM w d i->K (j.put c.dst i) m):if zc c (yielded J j.tmps)=zn then Oper.wp zm c j w K Q else N:=by
 have a5:zc c (yielded J j.tmps)=true:=by simp[zc,W]
 rw[aT a5];obtain⟨E,v,D,A,C⟩:=info_parts kK;have x:∀(r:Nat) (F:zq),[Value.string a.1,iQ a.2][r]?=V F->zr w (((aQ f 0):Addr).add r)=V F:=by
  intro r F g;have H:=(eE g);simp at H;match r,H,g with
  |0,_,g=>simp at g;subst g;exact a3
  |1,_,g=>simp at g;subst g;exact a4
 have u:∀a7∈[Value.string a.1,iQ a.2],a7.oneCell'=true:=by intro G q;simp at q;rcases q with rfl|rfl<;>rfl
 obtain⟨i,m,z,R,S,_⟩:=run_append_own (P:=zm) w l 50 c.type 52 E (.agg #[.string ⟨#[]⟩,iQ 0]) 2 24 yx v D A C rfl (by decide) d (Z b) (aV b) y (aQ f 0) 1 o [.string a.1,iQ a.2] rfl x u (by unfold maxLen;omega) (by omega) T;have X:dM w d i:=by
  by_cases B:U d=zv
  .have a0:d=nQ/\Z b=0:=by
    obtain⟨_,s|⟨f,a8,a9,rfl,_⟩⟩:=y
    .exact s
    simp[U]at B
   obtain⟨rfl,b0⟩:=a0;obtain⟨b2,b3,I,a6,_⟩:=run_append_own (P:=zm) w w.heap.size 50 c.type 52 E (.agg #[.string ⟨#[]⟩,iQ 0]) 2 24 yx v D A C rfl (by decide) (nQ) 0 [] (World.ownsRow_nil _ _ _ _) (aQ f 0) 1 o [.string a.1,iQ a.2] rfl x u (by unfold maxLen;omega) (by omega) (z7 _);rw[z]at I;injection I with e1 e2;subst e1;subst e2;cases hb:U i with
   |none=>exact yp (by rw[hb,B])
   |some g'=>exact z5 ⟨g',hb,(bS a6 g' hb).1⟩
  rcases aB9 w l 50 c.type 52 E (.agg #[.string ⟨#[]⟩,iQ 0]) 2 24 yx v D A C (by decide) d (Z b) (aV b) y B (aQ f 0) 1 o [.string a.1,iQ a.2] rfl x u (by unfold maxLen;omega) (by omega) z with e|e;all_goals grind[dM,aV]
 unfold Oper.wp execOp;simp only[a1,resolve,invoke,builtin,Sem.run_bind,Sem.run_pure,Result.andThen_ok,yo,List.map_cons,List.map_nil,a2,q,z];exact s i m (by rw[sA];exact R) S X
structure gM(B:Nat)(N:zq)(w w':zu):Prop where
 low:Below B w w'
 nod:∀(k:Nat) (cs:Array zq) (T:TypeId) (fr:Nat×Nat),w.heap[k]?=V (.cells cs T fr)->T≠3->T≠158->U N≠V k->w'.heap[k]?=w.heap[k]?
section
variable {B:Nat}{N:zq}{w w1 w2:zu}
theorem gM.refl(B:Nat)(N:zq)(w:zu):gM B N w w:=⟨dP,λ_ _ _ _ _ _ _ _=>rfl⟩
theorem gM.below(a:gM B N w w1)(hb:aB w1 w2)(l:B<=w1.heap.size):gM B N w w2:=
 ⟨a.low.trans (hb.mono l),λk d c f b g i j=>by
  have e:=a.nod k d c f b g i j;rw[hb.block k (by rw[b]at e;exact(bA e)),e]⟩
theorem gM.grown(g:gM B N w w1){o:Option Nat}(m:zs w1 w2 o)(s:B<=w1.heap.size)(v:∀k,o=V k->B<=k)(u:∀k b a c,o=V k->w1.heap[k]?=V (.cells b a c)->a=3\/a=158\/U N=V k\/w.heap.size<=k):gM B N w w2:=
 ⟨g.low.grown m s v,λk b a c e i j l=>by
  have f:=g.nod k b a c e i j l;have d:=f;rw[e]at d;rw[m.block k (bA d) (λr=>?_),f];have x:=(bA e);rcases u k b a c r.symm d with q|q|q|q
  .exact i q
  .exact j q
  .exact l q
  omega⟩
theorem gM.ints(c:gM B N w w1){v:zq}{n:Nat}{f:List zq}(b:zo w1 B 3 1 v n f)(e:zs w1 w2 (U v))(d:B<=w1.heap.size):gM B N w w2:=by
 refine c.grown e d (λk a=>(bS b k a).1) (λk j g m a r=>yp ?_);obtain⟨_,⟨rfl,_⟩|⟨o,i,l,rfl,_,q,_⟩⟩:=b
 .simp[U]at a
 simp[U]at a;grind
theorem gM.nodes(c:gM B N w w1){a:zq}{n:Nat}{b:List zq}(g:zo w1 B 52 2 a n b)(f:dM w N a)(e:zs w1 w2 (U a))(d:B<=w1.heap.size):gM B N w w2:=by grind[gM.grown,bS,dM]
theorem gM.set(b:gM B N w w1){tb j:Nat}{v:zq}{a:Array zq}(d:w1.heap[tb]?=V (.cells a 158))(c:B<=tb):gM B N w (zt w1 (aQ tb j) v):=by grind[gM.grown,cD,Array.getElem?_eq_some_iff]
end
theorem bFd:∀{a:Nat},aP t a=zn->∀n∈t,-1000000000<=n.2/\n.2<=1000000000:=by
 induction t with
 |nil=>intro a _ n b;simp at b
 |cons m r ih=>
  grind[dQ,aP,mC]
theorem aA9:∀{a:Nat},aP t a=zn->∀n∈t,dQ n=true:=by
 induction t with
 |nil=>intro a _ n b;simp at b
 |cons m r ih=>
  grind[aP,mC]
theorem aIn{n:Nd}(a:dQ n=zn):(if n.1.toList.isEmpty then (0:Int) else n.2)=((bI n:Nat):Int)/\bI n<=5:=by grind[dQ,aK,bI]
theorem aQt{b:List Nd}{c a:Nat}(f:eY b c)(j:a<c):aM b a<Z b/\aM b (a+1)=aM b a+aM (b.drop (aM b a)) 1:=by refine⟨?_,xC b a 1⟩;have g:=(yH b a (c-a)).1 (by rw[show a+(c-a)=c by omega];exact f);obtain⟨e,i⟩:∃e,c-a=e+1:=⟨c-a-1,by omega⟩;have d:=g.2;rw[i]at d;have l:=aHz d;grind[aM,oC,yt]
def iV(w:zu)(mp:Nat)(M:List Tg):Prop:=∃b a,w.ownsMap zm 198 jC mp b a/\pV a M/\b<=Z M
theorem iV.lt(a:iV w mp M):mp<w.heap.size:=by obtain⟨c,D,b,_⟩:=a;exact aIm b
theorem iV.at{w':zu}(a:iV w mp M)(hb:w'.heap[mp]?=w.heap[mp]?):iV w' mp M:=by obtain⟨e,D,b,c,d⟩:=a;exact⟨e,D,aIl b hb,c,d⟩
theorem iV.grown{w':zu}{o:Option Nat}(a:iV w mp M)(c:zs w w' o)(d:o≠V mp):iV w' mp M:=a.at (c.block mp a.lt (λb=>d b.symm))
theorem uA{b:Nat}{c:TypeId}{g:Nat}{v:zq}{i:List zq}(d:zo w b c g v n i)(f:iV w mp M):U v≠V mp:=by
 obtain⟨s,j,⟨q,m,e,_⟩,_⟩:=f;obtain⟨_,⟨rfl,_⟩|⟨r,l,o,rfl,_,a,_⟩⟩:=d
 .simp[U]
 simp[U];rintro rfl;rw[e]at a;simp at a
section
variable {w w1 w2:zu}{B tb mp bx:Nat}{N vn ve vl vs v':zq}{L:List Nd}{E F:List Nat}{S:List Int}{M:List Tg}{s:ByteArray}{x:Int}{o:Obj}
theorem jF{w:zu}{tb bx j a:Nat}{b v:zq}(c:cQ w bx a b)(d:bx≠tb):zr (zt w (aQ tb j) v) (aQ bx a)=V b:=
 (cD w (aQ tb j) v).cell c (by simpa using d)
theorem bFe{l:Nat}(g:dZ w1 B tb vn ve vl vs (.map (V mp)) L E F S)(e:iV w1 mp M)(r:gM B N w w1)(m:B<=w1.heap.size)(y:mp≠tb)(C:cQ w1 bx 0 (.string s))(D:cQ w1 bx 1 (iQ x))(i:U vl≠V bx)(j:bx≠tb)
  (z:zo w2 B 3 1 v' (Z F+1) (lF F++[iQ l])) (c:zs (w1.alloc o) w2 (U vl)) (A:U v'=U vl\/U v'=V (w1.alloc o).heap.size):dZ (zt w2 (aQ tb 2) v') B tb vn ve v' vs (.map (V mp)) L E (F++[l]) S/\iV (zt w2 (aQ tb 2) v') mp M/\zr (zt w2 (aQ tb 2) v') (aQ bx 0)=V (.string s)/\zr (zt w2 (aQ tb 2) v') (aQ bx 1)=V (iQ x)/\gM B N w (zt w2 (aQ tb 2) v')/\w1.heap.size<=(zt w2 (aQ tb 2) v').heap.size:=by
 have d:aB w1 (w1.alloc o):=aI _ o;have b:=g.below d;have f:iV (w1.alloc o) mp M:=e.at (d.block mp e.lt);have G:=c.cell (aC d C) (λa=>i a.symm);have H:=c.cell (aC d D) (λa=>i a.symm);have q:=f.grown c (uA b.rl f);have u:gM B N w w2:=(r.below d m).ints b.rl c (by simp;omega);have v:w2.heap[tb]?=V (.cells #[vn,ve,vl,vs,.map (V mp)] 158):=by rw[c.block tb b.lt (λa=>eX b.rl b.box (by decide) a.symm)];exact b.box
 refine⟨b.leads c z A,q.grown (cD _ _ _) (by simpa using λa=>y a.symm),jF G j,jF H j,u.set v g.high,?_⟩;have:=c.size;simp[zt]at this ⊢;omega
theorem bFf{i:Nd}(g:dZ w1 B tb vn ve vl vs (.map (V mp)) L E F S)(e:iV w1 mp M)(m:gM B N w w1)(j:B<=w1.heap.size)(v:mp≠tb)(u:dM w N vn)
  (y:zo w2 B 52 2 v' (Z L+1) (aV (L++[i]))) (b:zs (w1.alloc o) w2 (U vn)):dZ (zt w2 (aQ tb 0) v') B tb v' ve vl vs (.map (V mp)) (L++[i]) E F S/\iV (zt w2 (aQ tb 0) v') mp M/\gM B N w (zt w2 (aQ tb 0) v'):=by
 have d:aB w1 (w1.alloc o):=aI _ o;have a:=g.below d;have f:iV (w1.alloc o) mp M:=e.at (d.block mp e.lt);have l:=f.grown b (uA a.rn f);have q:gM B N w w2:=(m.below d j).nodes a.rn u b (by simp;omega);have r:w2.heap[tb]?=V (.cells #[vn,ve,vl,vs,.map (V mp)] 158):=by rw[b.block tb a.lt (λc=>eX a.rn a.box (by decide) c.symm)];exact a.box
 exact⟨a.nodes b (by rw[z9];exact y),l.grown (cD _ _ _) (by simpa using λc=>v c.symm),q.set r g.high⟩
end
theorem aQu(f d mp:Nat)(g8 c9 w4 d0:zq)(a:List Nd)(x:List Nat)(u:List Int)(M:List Tg)(o:Int)(d6:Option Addr)(r6:Nat)(t:List Nd)(w:zu)
  (b5:dZ w f d g8 c9 w4 d0 (.map (V mp)) a (gA a) x u) (e1:M.map ze=a) (j7:dV a) (k7:iV w mp M) (l0:Z x=Z a) (l2:Z u=Z a) (C:f<=w.heap.size) (a3:mp≠d) (z8:f<=mp)
  (m5:aP t 1=zn) (l5:dI w d6 t) (l1:∀p,d6=V p->p.block<f) (z4:Z a+Z t<=1000000) (A1:-1000<=o/\o<=1000):Calls zm 59 #[.pointer (V ⟨d,0,zv⟩),.int .i64 o,.slice d6 (Z t) r6] w λe g9=>∃L w2 y w5,e=.returned (.int .i64 (Z a))/\
   dZ g9 f d L w2 y w5 (.map (V mp)) (a++t) (gA (a++t)) (x++kR M o t (Z t)) (u++zf (Z t) 0)/\iV g9 mp (M++t.map λn=>(o,n))/\gM f g8 w g9/\dM w g8 L:=by
 have j4:Z M=Z a:=by rw[<-e1];simp
 obtain⟨u7,u8,u9,v0,v1⟩:=b5.cells;have q8:=O b5;have o5:=O k7;have q5:=O l5;have R:=O m5;have r4:=O j7;have x2:=O e1;have p6:=O l0;have p9:=O l2;have p8:=O l1;have q1:=O j4;obtain⟨b3,b4,u3⟩:=aZ b5.rn;subst u3;clear b5 k7 l5 m5 j7 e1 l0 l2 l1 u8 u9 v0 v1 j4;go_enter Tryz.func59,Tryz.ntmps59;go_wp2;clear u7;go_loopw[19] (λs wr=>∃(k:Nat) (L y:zq),k<=Z t/\s=.int .i64 k/\dZ wr f d L c9 y d0 (.map (V mp)) (a++t.take k) (gA a) (x++kR M o t k) u/\iV wr mp (M++(t.take k).map λn=>(o,n))/\gM f (.slice b3 (Z a) b4) w wr/\dM w (.slice b3 (Z a) b4) L) (λs _=>Z t-(intOf s).toNat);exact⟨0,_,_,yw _,rfl,by simpa[kR]using q8.o,by simpa using o5.o,gM.refl _ _ _,dM.refl _ _⟩;obtain⟨k,L,y,f0,rfl,c,v,E,c3⟩:=hrel;by_cases J:k<Z t
 .have f2:(k:Int)<(Z t:Int):=by omega
  obtain⟨i1,b,rfl,i2,i3⟩:=q5.o.cell k J;have e6:=p8.o _ rfl;simp only at e6;have s0:=(E.low.cell (p:=⟨i1,b+k*2,zv⟩) e6).trans i2;have s1:=(E.low.cell (p:=⟨i1,b+k*2+1,zv⟩) e6).trans i3;have p5:aE (x++kR M o t (k+1)=(x++kR M o t k)++[pU (M++(t.take k).map λn=>(o,n)) o t[k]]):=O (by rw[bF6 M o t k J,yy]);have p3:=O (bF7 M o t k J);have p4:aE (a++t.take (k+1)=(a++t.take k)++[t[k]]):=O (by rw[z6 J,yy]);have r5:=O (bFd R.o t[k] (zj _));clear i2 i3;generalize t[k]=nd at *;obtain⟨r,j⟩:=nd;simp only at s0 s1;obtain⟨S,T,rfl⟩:=aZ c.rn;obtain⟨m9,h1,f6,e0,l8⟩:=v;have t6:Z (t.take k)=k:=by simp;omega
  have c2:Z (a++t.take k)=Z (M++(t.take k).map λn=>(o,n)):=by simp[q1.o]
  have k9:Z (M++(t.take k).map λn=>(o,n))<=1000000:=by rw[<-c2];simp;omega
  have u4:-1000000000<=j/\j<=1000000000:=r5.o;have t7:Z (x++kR M o t k)<=1000000:=by rw[z9,aQq,p6.o];omega
  generalize (M++(t.take k).map λn=>(o,n))=Mk at *;generalize (x++kR M o t k)=Fk at *;generalize (a++t.take k)=Lk at *;clear t6;have b2:=O c3;clear c3;have c0:aB wr (wr.alloc (.cells #[.string r,.int .i64 j] 52)):=aI _ _;have w8:zr (wr.alloc (.cells #[.string r,.int .i64 j] 52)) ⟨wr.heap.size,0,zv⟩=V (.string r):=by simp
  have w9:zr (wr.alloc (.cells #[.string r,.int .i64 j] 52)) ⟨wr.heap.size,1,zv⟩=V (.int .i64 j):=by simp
  have X:=c.below c0;have f7:=vQ f6 c0;have k2:=E.below c0 (z3 C E.low.size);have A4:(wr.alloc (.cells #[.string r,.int .i64 j] 52)).heap.size=wr.heap.size+1:=by simp
  obtain⟨c6,n0,n1,n2,g0⟩:=X.cells;have B3:=X.soft 2;have B2:=X.soft 0;rw[c2]at c6;have n8:=O (λ(z:zu) (a4:∃q,z=(wr.alloc (.cells #[.string r,.int .i64 j] 52)).drewN q)=>bF3 d mp m9 T S h1 Mk o r j z (by obtain⟨q,rfl⟩:=a4;exact c6) (by obtain⟨q,rfl⟩:=a4;exact g0) (vQ f7 (aN a4)) e0 l8 k9 (by omega) u4);have d3:=O X;have p7:=O c2;clear c2;have b0:=O k2;have q2:=O f7;have q0:=O e0;have q4:=O (aIm f6);have i0:aE (U y≠V wr.heap.size/\wr.heap.size≠d):=O ⟨wS c.rl,by have:=c.lt;omega⟩;clear c X f6 f7 e0 E k2 c0;have x3:=O (λq=>d3.o.below (wx:=(wr.alloc (.cells #[.string r,.int .i64 j] 52)).drewN q) (aN ⟨q,rfl⟩));have A7:=d3.o.lt;generalize hW0:wr.alloc (.cells #[.string r,.int .i64 j] 52)=W0 at *;have x4:=O hW0;have A5:wr.heap.size<W0.heap.size:=by omega
  have q7:=O (λ(z i:zu) (a4:∃q,z=W0.drewN q) (a6:Nat) (P:DataW Unit) (d9:i.ownsMap zm 198 jC mp a6 P) (b6:pV P (Mk++[(o,(r,j))])) (W:a6<=Z Mk+1) (a2:zs z i (V mp))=>
   (show iV i mp (Mk++[(o,(r,j))])/\dZ i f d (.slice S (Z Lk) T) c9 y d0 (.map (V mp)) Lk (gA a) Fk u/\zr i ⟨d,2,zv⟩=V y/\za i ⟨d,2,zv⟩=zi/\zr i ⟨wr.heap.size,0,zv⟩=V (.string r)/\zr i ⟨wr.heap.size,1,zv⟩=V (.int .i64 j)/\gM f (.slice b3 (Z a) b4) w i/\W0.heap.size<=i.heap.size/\U y≠V d from by
    obtain⟨q,rfl⟩:=a4;have c:=d3.o.below (wx:=W0.drewN q) (aN ⟨q,rfl⟩);have l4:iV (W0.drewN q) mp Mk:=⟨m9,h1,vQ q2.o (aN ⟨q,rfl⟩),q0.o,l8⟩;have c5:∀{g7:zq}{e:TypeId}{w0 n:Nat}{x0:List zq},zo (W0.drewN q) f e w0 g7 n x0->U g7=zv\/U g7≠V mp:=λu2=>z5 (uA u2 l4)
    have D:=c.grown a2 (by simpa using a3) (c5 c.rn) (c5 c.re) (c5 c.rl) (c5 c.rs);have l7:wr.heap.size≠mp:=by have:=q4.o;omega
    exact⟨⟨a6,P,d9,b6,by simpa using W⟩,D,D.cells.2.2.1,D.soft 2,a2.cell w8 (by simpa using l7),a2.cell w9 (by simpa using l7),(b0.o.below (aN ⟨q,rfl⟩) (z3 C b0.o.low.size)).grown a2 (z3 C b0.o.low.size) (λk e=>by simp at e;omega) (λk x8 x5 y1 e f0=>by obtain⟨_,_,⟨y0,x7,t4,_⟩,_⟩:=l4;simp at e;subst e;rw[t4]at f0;simp at f0),a2.size,eX D.rl D.box (by decide)⟩))
  have y4:f<=W0.heap.size:=z3 C b0.o.low.size;go_wp2_with fail;go_region_law (first
   |(refine aEs (by rfl) 96 _ _ (by rfl) (enters_of yn (by kernel_rfl) rfl) _ (by rfl) (aD n8 _ ⟨1,rfl⟩) ?_;rintro e i ⟨a6,P,rfl,m0,i9,l9,k8⟩;refine⟨_,rfl,?_⟩;obtain⟨j0,D,d7,s4,n6,n7,j9,A2,u1⟩:=q7.o _ i ⟨1,rfl⟩ a6 P m0 i9 l9 k8;have u0:d<i.heap.size:=yv i _ d7;have r9:=(λB=>aC (aI i B) d7);have h5:=O j0;have Q:=O D;have h2:=O j9;clear m0 i9 l9 k8 j0 D j9)
   |(refine bF4 (by rfl) _ _ (by rfl) f _ _ _ (by rfl) (Q.o.rl.alloc _) Q.o.nl t7 (by simp;omega) i.heap.size 1 (pU Mk o (r,j)) (by rfl) (by simp) ?_;intro B5 w7 f8 e8 m6;obtain⟨n3,n4,rfl⟩:=aZ f8;obtain⟨r7,s5⟩:=Q.o.stays2 _ e8))
  all_goals
   obtain⟨a0,j1,C2,C3,k0,A3⟩:=bFe Q.o h5.o h2.o (by omega) a3 n6 n7 i0.o.1 i0.o.2 f8 e8 m6;clear f8 e8 m6 r7 s5 r9 d7 s4 n6 n7 u0 u1;generalize zt w7 ⟨d,2,zv⟩ (.slice n3 (Z Fk+1) n4)=w3 at *;generalize hvl:(Value.slice n3 (Z Fk+1) n4)=vl3 at *;clear hvl Q h5 h2;obtain⟨v2,v3,v4,g1,v5⟩:=a0.cells;have B4:=a0.soft 0;have A6:=a0.lt;have r0:=O a0;have o7:=O j1;have h4:=O k0;clear v3 v4 g1 v5 a0 j1 k0;have t8:Z Lk<=1000000:=by rw[p7.o];exact k9
   have d5:=O (r0.o.below (wx:=w3.drew) (aN ⟨1,rfl⟩));have A0:∀B,zr (w3.alloc B) ⟨d,0,zv⟩=V (.slice S (Z Lk) T):=λB=>aC (aI w3 B) v2
   have t0:f<=w3.heap.size:=by omega
   have o0:=O (h4.o.below (aN (w1:=w3.drew) ⟨1,rfl⟩) t0);have A8:=h4.o.low.size;have o8:=O (o7.o.at (w':=w3.drew) rfl);go_wp2_with fail;go_region_law (refine bFc (by rfl) _ _ (by rfl) f _ Lk (by rfl) (d5.o.rn.alloc _) t8 (by simp;omega) w3.heap.size 1 (r,j) (by rfl) (by simp) (by simp) ?_;intro B6 C1 f9 e9 l3;obtain⟨B9,C0,rfl⟩:=aZ f9;obtain⟨r8,s6⟩:=d5.o.stays0 _ e9);all_goals
    obtain⟨j6,j2,k1⟩:=bFf d5.o o8.o o0.o (by simp;omega) a3 b2.o f9 e9;have q3:=O (b2.o.trans l3 (by simp;omega));have r1:=O j6;have o9:=O j2;have o1:=O k1;clear j6 j2 k1 f9 e9 l3 r8 s6;go_wp2;exact⟨⟨k+1,_,_,by omega,by go_num,by rw[p4.o,p5.o];exact r1.o,by rw[<-p3.o];exact o9.o,o1.o,q3.o⟩,by simp[intOf];omega⟩
 have f1:k=Z t:=by omega
 subst f1;have f2:¬((Z t:Int)<(Z t:Int)):=by omega
 rw[List.take_length]at c v;have m1:0<Z t:=by
  rcases Nat.eq_zero_or_pos (Z t)with e|e
  .have:=List.eq_nil_of_length_eq_zero e;rw[this]at R;have:=R.o;simp[aP]at this
  exact e
 have i7:f<=wr.heap.size:=z3 C E.low.size;have b2:=O c3;clear c3;obtain⟨S,T,rfl⟩:=aZ c.rn;have t3:Z (gA a)=Z a:=pT a;obtain⟨B7,h0,m2,f4,H,m7⟩:=aQ3 wr 24 f c9 (Z (gA a)) (Z t) _ c.re c.ne m1 (by omega) i7;obtain⟨a7,a8,rfl⟩:=aZ f4;have e4:=aEu (by rw[H.block d c.lt (λe=>eX c.re c.box (by decide) e.symm)];exact c.box);have g:=c.ends H f4 m7;have b7:=(v.grown H (uA c.re v)).grown (cD h0 ⟨d,1,zv⟩ (.slice a7 (Z (gA a)+Z t) a8)) (by simpa using λe=>a3 e.symm);have c1:=(E.ints c.re H i7).set (tb:=d) (j:=1) (v:=.slice a7 (Z (gA a)+Z t) a8) (by rw[H.block d c.lt (λe=>eX c.re c.box (by decide) e.symm)];exact c.box) c.high;have i8:f<=(zt h0 ⟨d,1,zv⟩ (.slice a7 (Z (gA a)+Z t) a8)).heap.size:=z3 C c1.low.size;obtain⟨c6,n0,n1,n2,g0⟩:=c.cells;have r2:=O g;have p0:=O b7;have o2:=O c1;have s2:=e4.2.1;have s7:=e4.2.2.2.2 1;generalize hw8g:zt h0 ⟨d,1,zv⟩ (.slice a7 (Z (gA a)+Z t) a8)=W8 at *;obtain⟨B8,n5,m3,f5,I,m8⟩:=aQ3 W8 24 f d0 (Z u) (Z t) _ g.rs g.ns m1 (by rw[p9.o];omega) i8;obtain⟨c7,c8,rfl⟩:=aZ f5;have e5:=aEu (by rw[I.block d g.lt (λe=>eX g.rs g.box (by decide) e.symm)];exact g.box);have b8:=g.sizes I f5 m8;have j3:=(b7.grown I (uA g.rs b7)).grown (cD n5 ⟨d,3,zv⟩ (.slice c7 (Z u+Z t) c8)) (by simpa using λe=>a3 e.symm);have k3:=(c1.ints g.rs I i8).set (tb:=d) (j:=3) (v:=.slice c7 (Z u+Z t) c8) (by rw[I.block d g.lt (λe=>eX g.rs g.box (by decide) e.symm)];exact g.box) c.high;have g1:=g.cells.2.2.2.1;have s3:=e5.2.2.2.1;have s8:=e5.2.2.2.2 3;have g2:=b8.cells.1;rw[z9]at g2;rw[<-bF9]at b8;have r3:=O b8;have p1:=O j3;have o3:=O k3;have h7:=O m2;have h8:=O m3;clear c v E H f4 m7 e4 g b7 c1 I f5 m8 e5 b8 j3 k3 m2 m3 c6 n1 n2 g0 t3;go_wp2_with(first
  |(at_builtin;refine Go.Lib.wpList_append_run _ rfl _ _ _ _ rfl _ _ rfl rfl _ _ (aD h7) ?_)
  |(at_builtin;refine Go.Lib.wpList_append_run _ rfl _ _ _ _ rfl _ _ rfl rfl _ _ (aD h8) ?_)
  |go_in)
 clear g2 s2 s7 s3 s8 g1 n0;generalize zt n5 ⟨d,3,zv⟩ (.slice c7 (Z u+Z t) c8)=W9 at *;clear r2 p0 o2 h7 h8;generalize (.slice c7 (Z u+Z t) c8:zq)=vs9 at *;go_loopw[10] (λs a9=>∃a5:Nat,a5<=Z t/\s=.int .i64 ((Z a:Int)+a5-1)/\dZ a9 f d (.slice S (Z (a++t)) T) (.slice a7 (Z (gA a)+Z t) a8) y vs9 (.map (V mp)) (a++t) (eL a t a5) (x++kR M o t (Z t)) (u++zf (Z t) 0)/\iV a9 mp (M++t.map λn=>(o,n))/\gM f (.slice b3 (Z a) b4) w a9) (λs _=>(intOf s+1-Z a).toNat);exact⟨Z t,z7 _,rfl,r3.o,p1.o,o3.o⟩;obtain⟨a5,z0,rfl,c,v,a1⟩:=hrel;cases a5 with
 |zero=>
  generalize hA:((Z a:Int)+((0:Nat):Int)-1)=A at *;have y3:A<(Z a:Int):=by omega
  have d4:=O c;have b1:=O v;have d2:=O a1;clear hA c v a1;go_wp2;go_ret;exact⟨_,_,_,_,rfl,by rw[<-bFa r4.o];exact d4.o,b1.o,d2.o,b2.o⟩
 |succ b=>
  rename zu=>a9
  have c4:b<Z t:=by omega
  obtain⟨l,e2⟩:∃l,l=Z a+b:=⟨_,rfl⟩;have m4:(Z a:Int)+((b+1:Nat):Int)-1=(l:Int):=by omega
  rw[m4];have l6:(a++t)[l]?=V t[b]:=by rw[e2,zk (by omega)];simp[c4]
  have y8:(l:Int)<(Z (a++t):Int):=by simp;omega
  have y7:(Z a:Int)<=(l:Int):=by omega
  have y5:(l:Int)<=1000000:=by omega
  obtain⟨x6,x9,i4,k4⟩:=aN0 c.rn;simp at i4;obtain⟨rfl,rfl⟩:=i4;obtain⟨y2,rfl,u5,u6⟩:=k4 l _ l6;obtain⟨g2,v6,v7,v8,v9⟩:=c.cells;have e7:=(tD R.o) b t[b] (zw c4);have k6:aM (t.drop b) 1=1+aM (t.drop (b+1)) (bI t[b]):=by rw[zg c4];simp[aM]
  have h9:=O (bFb a t b c4);rw[k6]at h9;have f3:=aA9 R.o t[b] (zj _);have A9:bI t[b]<=1000000:=by have:=aIn f3;omega
  have d1:=O (λz=>aH4 t[b].1 t[b].2 z);rw[(aIn f3).1]at d1;have x1:=O e7;have o4:=O (aQr a t (b+1));have t9:=oC (t.drop (b+1)) (bI t[b]);rw[yt]at t9;have F:=O e2;have p2:=O (λ(s:Nat) (t5:s<bI t[b])=>aQt e7 t5);generalize bI t[b]=m at *;generalize t[b]=nd at *;obtain⟨B0,B1⟩:=nd;simp only at u5 u6 d1;have d4:=O c;have b1:=O v;have d2:=O a1;have s9:f<=a9.heap.size:=z3 C a1.low.size;have z2:Z (a++t)<=1000000:=by simp;omega
  generalize Z (a++t)=N at *;clear c v a1 e2 l6 e7 k6 f3 m4 k4 v6 v7 v8 v9;go_wp2_with(first
   |(go_at_call 97;refine(aD d1 _).mono ?_;rintro e w6 ⟨rfl,b9⟩;have j5:=d4.o.below b9;have G:=O j5;have h6:=O (b1.o.at (b9.block mp b1.o.lt));have h3:=O (d2.o.below b9 s9);clear b9 j5)
   |go_in)
  go_loopw[11,88] (λe s z=>∃k:Nat,k<=m/\s=.int .i64 k/\e=.int .i64 ((Z a+(b+1+aM (t.drop (b+1)) k):Nat):Int)/\z=w6) (λ_ s _=>m-(intOf s).toNat);exact⟨0,yw _,rfl,by simp[F.o];omega,rfl⟩;obtain⟨k,z1,rfl,rfl,rfl⟩:=hrel;by_cases J:k<m
  .have f2:(k:Int)<(m:Int):=by omega
   obtain⟨i5,i6⟩:=p2.o k J;rw[yt]at i5;rw[List.drop_drop]at i6;have k5:=o4.o (b+1+aM (t.drop (b+1)) k) (by omega) (by omega);obtain⟨d8,rfl,d9,b6,W⟩:=G.o.endOf k5;obtain⟨g3,w1,g4,g5,g6⟩:=G.o.cells;have t2:(Z a+(b+1+aM (t.drop (b+1)) k):Nat)<Z (gA a)+Z t:=by rw[pT];omega
   have q6:aE (Z a+(b+1+aM (t.drop (b+1)) k+aM (t.drop (b+1+aM (t.drop (b+1)) k)) 1)=Z a+(b+1+aM (t.drop (b+1)) (k+1))):=O (by omega);generalize Z a+(b+1+aM (t.drop (b+1)) k+aM (t.drop (b+1+aM (t.drop (b+1)) k)) 1)=Y at *;generalize Z a+(b+1+aM (t.drop (b+1)) k)=B at *;have y9:(B:Int)<(Z (gA a):Int)+(Z t:Int):=by omega
   clear i5 i6 k5 b6 W g3 g4 g5 g6 t2;go_wp2;exact⟨⟨k+1,by omega,by go_num,by rw[<-q6.o],by first|rfl|trivial⟩,by simp[intOf];omega⟩
  have f1:k=m:=by omega
  subst f1;have f2:¬((k:Int)<(k:Int)):=by omega
  obtain⟨d8,rfl,d9,b6,W⟩:=G.o.endOf (aQs a t (b+1) l (by have:=F.o;omega) (by have:=F.o;omega));obtain⟨g3,w1,g4,g5,g6⟩:=G.o.cells;have e3:=G.o.endAt l (Z a+(b+(1+aM (t.drop (b+1)) k)));rw[show (eL a t (b+1)).set l=(eL a t (b+1)).set (Z a+b) by rw[F.o],h9.o]at e3;have j8:Z a+(b+1+aM (t.drop (b+1)) k)=Z a+(b+(1+aM (t.drop (b+1)) k)):=by omega
  rw[j8];clear j8;have t1:l<Z (gA a)+Z t:=by rw[pT];have:=F.o;omega
  have o6:=O (h6.o.grown (cD _ ⟨d8,l,zv⟩ (.int .i64 ((Z a+(b+(1+aM (t.drop (b+1)) k)):Nat):Int))) (by
   have:=uA G.o.re h6.o;simpa[U]using this))
  have n9:=O (h3.o.ints G.o.re (cD _ ⟨d8,l,zv⟩ (.int .i64 ((Z a+(b+(1+aM (t.drop (b+1)) k)):Nat):Int))) (z3 C h3.o.low.size));generalize Z a+(b+(1+aM (t.drop (b+1)) k))=B at *;have q9:=O e3;have y6:(l:Int)<(Z (gA a):Int)+(Z t:Int):=by omega
  clear e3 W g3 g4 g5 g6 t1;go_wp2;go_roundw;·exact⟨b,by omega,by have:=F.o;go_num,q9.o,o6.o,n9.o⟩
  have:=F.o;simp[intOf];omega
def nD(a:List Nd)(b:Nat->Nat):Prop:=∀p,(aF a).named p->(aF a).named (b p)
def oI(c:List Nd)(f d:Nat->Nat)(g i:Nat)(l:Bool):Prop:=
 ∀(e j:Nat->Nat->Prop),(∀a b,f a=f b->Cl (aF c) e a b)->Cl (aF c) e g i->fP (aF c) (λa b=>f a=f b) (xH j g i)->
  (l=zn->d g=d i/\(∀a b,d a=d b->Cl (aF c) e a b)/\fP (aF c) (λa b=>d a=d b) j)/\(l=zi->¬fU (aF c) (Cl (aF c) e))
structure bFg(w:zu)(B tb:Nat)(vn ve vl vs vm:zq)(L:List Nd)(F:List Nat)(S:List Int)(rt:Nat->Nat)(a b:Nat)(ok:Bool)(w':zu)(F':List Nat)(rt' d':Nat->Nat):Prop where
 tm:cE w' B tb vn ve vl vs vm L F' S
 forest:jP F' rt' d'
 named:nD L rt'
 fewer:pS F'<=pS F
 far:zs w w' (U vl)
 mono:∀i j,rt i=rt j->rt' i=rt' j
 sem:oI L rt rt' a b ok
section
variable {L:List Nd}{rt:Nat->Nat}{a b:Nat}
theorem oI.same(c:rt a=rt b):oI L rt rt a b true:=λg i f j e=>⟨λ_=>⟨c,f,e.same c⟩,λd=>by cases d⟩
theorem bFh{u v:Nat}(e:u=rt a)(f:v=rt b):oG (λc d=>rt c=rt d) (λc d=>jQ rt u v c=jQ rt u v d) a b:=by subst e;subst f;intro p g;exact aPz p g
theorem aIo{e f:Nat}(g:e=rt b)(i:f=rt a):oG (λc d=>rt c=rt d) (λc d=>jQ rt e f c=jQ rt e f d) a b:=by subst g;subst i;intro p j;grind[jQ,aPz]
theorem oG.sound{f g e:Nat->Nat->Prop}(i:oG f g a b)(o:∀c d,f c d->e c d)(j:∀c d,e c d->e d c)(l:∀c d k,e c d->e d k->e c k)(m:e a b):∀c d,g c d->e c d:=by grind[oG]
theorem oI.var{d:Nat->Nat}(c:oG (λi j=>rt i=rt j) (λi j=>d i=d j) a b)(m:(∀p,rt p=rt a->¬(aF L).named p)\/∀p,rt p=rt b->¬(aF L).named p):oI L rt d a b true:=λo q l f g=>
 ⟨λ_=>⟨c.ab (vN rt),c.sound l (λ_ _=>Cl.symm) (λ_ _ _=>Cl.trans) f,g.var (vN rt) c m⟩,λe=>by cases e⟩
theorem oI.clash{l:Nat->Nat}(c:∀p,rt (rt p)=rt p)(i:(aF L).named (rt a))(j:(aF L).named (rt b))(g:(aF L).lab (rt a)≠(aF L).lab (rt b)):oI L rt l a b false:=λm o d f q=>
 ⟨λe=>(by cases e),λ_ n=>g (n (rt a) (rt b) ((d _ _ (c a)).trans (f.trans (d _ _ (c b).symm))) i j)⟩
theorem nD.var(d:nD L rt){c:Nat}(f:¬(aF L).named c):∀p,rt p=c->¬(aF L).named p:=by rintro p rfl e;exact f (d p e)
theorem nD.join(c:nD L rt){u v:Nat}(e:(aF L).named u->(aF L).named v):nD L (jQ rt u v):=by intro p d;have:=c p d;grind[jQ]
theorem aBy(rt:Nat->Nat)(u v:Nat):∀c d,rt c=rt d->jQ rt u v c=jQ rt u v d:=by intro c d e;unfold jQ;rw[e]
end
theorem aIp(b a:Nat)(w:zu):Calls zm 129 #[pQ b,iQ a] w λc d=>c=.returned (.func (.func 152) #[] #[pQ (w.heap.size+1),pQ w.heap.size])/\
   d=(w.alloc (.cells #[pQ b] 113)).alloc (.cells #[iQ a] 3):=by
 go_enter Tryz.func129,Tryz.ntmps129;go_wp2;go_ret;exact⟨rfl,rfl⟩
def kS(c:Tb)(d e a b:Nat):Prop:=(a=d/\b=e)\/bQ c a b
theorem bFi{a:Tb}(e:jY a){b c:Nat}(d:b<Z a)(g:c<Z a):vI a (kS a b c) (iD a a[b].1.cls a[c].1.cls):=by refine⟨aPk _ _ _,rC _ _ _,e.join _ _ (e.cls b d),aPl (C:=Cl (bJ a) (kS a b c)) (λi j f=>Cl.base (z5 f)) (λ_ _=>Cl.symm) (λ_ _ _=>Cl.trans) d g (Cl.base (yp ⟨rfl,rfl⟩)),?_⟩;grind[bDd,aPm,kS,bQ,bJ,iD]
theorem bFj(w:zu)(d e f g i j l m:zq)(c:TypeId):∃b a,b=w.alloc (.cells #[d,e,f,g] c)/\a=b.alloc (.cells #[i,j,l,m] c)/\aB w b/\
  cQ a w.heap.size 0 d/\cQ a w.heap.size 1 e/\cQ a w.heap.size 2 f/\cQ a w.heap.size 3 g/\
  cQ a (w.heap.size+1) 0 i/\cQ a (w.heap.size+1) 1 j/\cQ a (w.heap.size+1) 2 l/\cQ a (w.heap.size+1) 3 m:=by
 refine⟨_,_,rfl,rfl,aI _ _,?_,?_,?_,?_,?_,?_,?_,?_⟩<;>simp
theorem bFk(E C:Nat)(v:zq)(a:Tb)(y B:Nat)(e9:y<Z a)(h9:B<Z a)(w:zu)(h:dO w E C v a)(i6:jY a)(m3:Z a<=1000000)(i7:∀p∈a,Z p.1.parts<=1000000):Calls zm 114 #[pQ C,iQ y,iQ B] w λl A=>∃b3,l=.returned b3/\bGn a E C v (kS a y B) b3 A/\zs w A (U v):=by
 obtain⟨s3,d2,rfl,b1⟩:=h.shape;obtain⟨F,rfl,o2,o3,o4,o5⟩:=b1 y e9;clear b1 o2 o3 o4 o5;have j7:=O (aPj E C _ a y B e9 h9 w h m3);have k4:=O (bFi i6 e9 h9);have e1:=O i7;clear h i6 i7;go_enter Tryz.func114,Tryz.ntmps114;go_wp2_with(first
  |(go_at_call 143;refine(aD j7).mono ?_;rintro l s5 ⟨rfl,d5,I⟩;have R:=O (qC.mk (w:=w) d5 k4.o ((Sh.refl a).join _ _) I);clear d5 I)
  |go_in)
 generalize iD a a[y].1.cls a[B].1.cls=Q1 at *;go_loopw[7] (λJ wr=>∃(g:Bool) (f:Tb),J=.bool g/\qC w E C (sQ F (Z a) d2) a (kS a y B) f wr/\(g=zi->∀b k,k<b->b<Z f->mK f b k)) (λJ wr=>2*aA6 (Z a) (aJ4 wr F (Z a))+aAh J);exact⟨zn,Q1,rfl,R.o,by simp⟩;rename zu=>wo
 obtain⟨g,f,rfl,H,e7⟩:=hrel;have r2:=H.sh.len;cases g with
 |true=>
  have s:=O H;clear H e7;go_wp2;go_loopw[7,8] (λJ b j5=>∃(g:Bool) (k:Nat) (i:Tb),k<=Z a/\J=.bool g/\b=iQ k/\qC w E C (sQ F (Z a) d2) a (kS a y B) i j5/\rU (Z a) f i g (∀e c,c<e->e<k->mK f e c)) (λ_ b _=>Z a-(intOf b).toNat);exact⟨zi,0,f,yw _,rfl,rfl,s.o,rU.start _ _ (λe c m q=>by omega)⟩;rename zu=>j5
  obtain⟨g,b,i,b2,rfl,rfl,j,G⟩:=hrel;have a7:=j.tab.cell;by_cases c5:b<Z a
  .have m9:(b:Int)<(Z a:Int):=by omega
   have R:=O j;have c1:=O G;clear j G;go_wp2;go_loopw[7,9] (λJ g0 u=>∃(g:Bool) (k:Nat) (i:Tb),k<=b/\J=.bool g/\g0=iQ k/\qC w E C (sQ F (Z a) d2) a (kS a y B) i u/\rU (Z a) f i g ((∀e c,c<e->e<b->mK f e c)/\∀c,c<k->mK f b c)) (λ_ g0 _=>b-(intOf g0).toNat);exact⟨g,0,i,yw _,rfl,rfl,R.o,c1.o.imp λ_ h=>⟨h,λc h=>by omega⟩⟩;rename zu=>u
   obtain⟨g,k,i,q8,rfl,rfl,j,G⟩:=hrel;have a7:=j.tab.cell;by_cases r0:k<b
   .have m5:(k:Int)<(b:Int):=by omega
    have c4:k<Z a:=by omega
    have r1:(k:Int)<(Z a:Int):=by omega
    have r8:=j.sh.len;obtain⟨s4,p9,h7,b1⟩:=j.tab.shape;simp at h7;obtain⟨rfl,n3,rfl⟩:=h7;obtain⟨q2,i4,f8,f9,j0,n5⟩:=b1 b (by omega);obtain⟨q3,i5,d8,d9,g1,j1⟩:=b1 k (by omega);simp at i4 i5;subst i4;subst i5;clear b1 n3;obtain⟨b4,a4,b5⟩:=j.sh.row b c5 (by omega);obtain⟨b6,a5,b7⟩:=j.sh.row k c4 (by omega);obtain⟨o6,j2,g2⟩:=s.o.sh.row b c5 (by omega);obtain⟨o7,j3,g3⟩:=s.o.sh.row k c4 (by omega);have P:=j.tab.parts i[b] (zj _);have Q:=j.tab.parts i[k] (zj _);rw[b4,a4]at P;rw[b6,a5]at Q;obtain⟨e3,a8,a0,_⟩:=xQ P;obtain⟨e4,a9,a1,_⟩:=xQ Q;have r3:=e1.o a[b] (zj _);have r4:=e1.o a[k] (zj _);have h8:aK a[b].1.node=zi->aK a[k].1.node=zi->a[b].1.node=a[k].1.node->a[b].1.parts.length=a[k].1.parts.length:=λl0 l1 l2=>by
     have j4:=j.inv.ok.ary b (by omega) (by rw[b5];exact l0);have o8:=j.inv.ok.ary k (by omega) (by rw[b7];exact l1);rw[a4,b5]at j4;rw[a5,b7]at o8;rw[l2]at j4;omega
    have k2:=O (show i[b].1.cls≠i[k].1.cls->i=f->mK f b k from λn0 l=>by
     subst l;intro _ _ c2;exact absurd c2 n0)
    have h0:=O (show aK a[b].1.node=zn\/aK a[k].1.node=zn->mK f b k from λn1 _ _ _ c2 e6=>by
     rw[g2]at c2;rw[g3]at e6;rcases n1 with h|h
     .rw[h]at c2;cases c2
     rw[h]at e6;cases e6)
    have k3:=O (show a[b].1.node=a[k].1.node->(∀p d b3:Nat,a[b].1.parts[p]?=V d->a[k].1.parts[p]?=V b3->bQ f d b3)->mK f b k from λf2 f4 _ _ _ _ _=>by
     rw[g2,g3,j2,j3];exact⟨f2,f4⟩)
    have k1:=O (show i[b].1.cls=i[k].1.cls->aK a[b].1.node=zi->aK a[k].1.node=zi->a[b].1.node≠a[k].1.node->¬fU (bJ a) (Cl (bJ a) (kS a y B)) from λl g4 g5 f2=>j.inv.clash (by omega) (by omega) l (by rw[b5];exact g4) (by rw[b7];exact g5) (by rw[b5,b7];exact f2));have k0:=O (show i[b].1.cls=i[k].1.cls->aK a[b].1.node=zi->aK a[k].1.node=zi->∀d o v:Nat,a[b].1.parts[d]?=V o->a[k].1.parts[d]?=V v->Cl (bJ a) (kS a y B) o v from λl g4 g5 d o v m q=>Cl.down (j.inv.sound b k ((bQ.iff (by omega) (by omega)).2 l)) (aF4 c5 g4) (aF4 c4 g5) (by rw[vH a b c5];exact m) (by rw[vH a k c4];exact q));have q7:F<u.heap.size:=aGz j.tab.row rfl;have c0:=O (λ(o0 o1:Obj)=>j.below ((aI u o0).alloc (by simp) o1));rw[b5]at f8 f9;rw[b7]at d8 d9;rw[b4,a0]at j0;rw[b6,a1]at g1;have h4:=O a0;have h5:=O a1;have j8:=O h8;have h2:=O j;have a6:=O G;clear b4 a4 b5 b6 a5 b7 o6 j2 g2 o7 j3 g3 P Q a0 a1 h8 j G;generalize i[b].1.cls=cli at *;generalize i[k].1.cls=clk at *;generalize hni:a[b].1.node=ni at *;generalize hnk:a[k].1.node=nk at *;obtain⟨a2,b8⟩:=ni;obtain⟨a3,b9⟩:=nk;simp only at f8 f9 d8 d9;clear hni hnk;generalize hpli:a[b].1.parts=li at *;generalize hplk:a[k].1.parts=lk at *;obtain⟨o9,p0,m0,m1,b0,p3,p4,l3,p5,p6,p7,l4,p8⟩:=bFj u (.string a2) (iQ b8) (.slice e3 (Z li) a8) (iQ cli) (.string a3) (iQ b9) (.slice e4 (Z lk) a9) (iQ clk) 185;subst m1;subst m0;have h6:=aC b0 a7;have n6:=aC b0 d8;have n7:=aC b0 d9;have n8:=aC b0 g1;have n9:=aC b0 j1;clear b0;have d1:aE (∀(g7:mK f b k) (h:(∀e c,c<e->e<b->mK f e c)/\∀c,c<k->mK f b c),(∀e c,c<e->e<b->mK f e c)/\∀c,c<k+1->mK f b c):=O (λg7 h=>⟨h.1,λc q9=>by
     by_cases m6:c<k
     .exact h.2 c m6
     have:c=k:=by omega
     subst this;exact g7⟩)
    by_cases i1:cli=clk
    .subst i1;by_cases i8:a2.toList.isEmpty=zn
     .go_wp2;exact⟨⟨g,k+1,i,by omega,rfl,by go_num,c0.o _ _,a6.o.imp λl h=>d1.o (h0.o (yp i8)) h⟩,by simp[intOf];omega⟩
     by_cases i9:a3.toList.isEmpty=zn
     .go_wp2;exact⟨⟨g,k+1,i,by omega,rfl,by go_num,c0.o _ _,a6.o.imp λl h=>d1.o (h0.o (z5 i9)) h⟩,by simp[intOf];omega⟩
     have c8:aK (a2,b8)=false:=by simpa[aK]using i8
     have c9:aK (a3,b9)=false:=by simpa[aK]using i9
     have s2:=rZ a2 a3 b8 b9;have f3:=rY (a2,b8) (a3,b9);simp only at f3;by_cases W:(a2,b8)=(a3,b9)
     .rw[fL W]at f3;have m8:=j8.o c8 c9 W;have r5:Z li<=Z lk:=by omega
      have r6:Z lk<=Z li:=by omega
      clear m8;have j9:=O (k0.o rfl c8 c9);have e0:=O (k3.o W);have k9:=O (c0.o (.cells #[.string a2,iQ b8,.slice e3 (Z li) a8,iQ cli] 185) (.cells #[.string a3,iQ b9,.slice e4 (Z lk) a9,iQ cli] 185));clear W c8 c9;go_wp2;clear n6 n7 n8 n9 f8 f9 j0 n5 d8 d9 g1 j1;go_loopw[7,12] (λJ p D=>∃(g:Bool) (d:Nat) (x:Tb),d<=Z li/\J=.bool g/\p=iQ d/\qC w E C (sQ F (Z a) d2) a (kS a y B) x D/\rU (Z a) f x g (((∀e c,c<e->e<b->mK f e c)/\∀c,c<k->mK f b c)/\∀z,z<d->∀o v:Nat,li[z]?=V o->lk[z]?=V v->bQ f o v)/\cQ D u.heap.size 2 (.slice e3 (Z li) a8)/\cQ D (u.heap.size+1) 2 (.slice e4 (Z lk) a9)) (λ_ p _=>Z li-(intOf p).toNat);exact⟨g,0,i,yw _,rfl,rfl,k9.o,a6.o.imp λ_ h=>⟨h,λz h=>by omega⟩,l3,l4⟩;rename zu=>D
      obtain⟨g,d,x,r9,rfl,rfl,r,d3,l6,l7⟩:=hrel;by_cases f5:d<Z li
      .have n4:(d:Int)<(Z li:Int):=by omega
       have s1:(d:Int)<(Z lk:Int):=by omega
       have m7:=r.sh.len;obtain⟨b4,a4,_⟩:=r.sh.row b c5 (by omega);obtain⟨b6,a5,_⟩:=r.sh.row k c4 (by omega);have P:=r.tab.parts x[b] (zj _);have Q:=r.tab.parts x[k] (zj _);have f6:=r.inv.ok.parts b (by omega);have a1:=r.inv.ok.parts k (by omega);rw[b4,a4,hpli]at P;rw[b6,a5,hplk]at Q;rw[a4,hpli]at f6;rw[a5,hplk]at a1;obtain⟨p1,q0,a0,i2⟩:=xQ P;obtain⟨p2,q1,f7,i3⟩:=xQ Q;rw[h4.o]at a0;rw[h5.o]at f7;simp at a0 f7;obtain⟨rfl,rfl⟩:=a0;obtain⟨rfl,rfl⟩:=f7;have f0:=dC P r.tab.row (by decide);have f1:=dC Q r.tab.row (by decide);obtain⟨S,rfl,l8⟩:=i2 d f5;obtain⟨T,rfl,l9⟩:=i3 d (by omega);have d6:=f6 li[d] (zj _);have d7:=a1 lk[d] (zj _);have c3:=j9.o d li[d] lk[d] (zw f5) (zw (by omega));have g6:=O (λ(L:zu) (c7:∃n,L=D.drewN n)=>aPj E C _ x li[d] lk[d] d6 d7 L (by obtain⟨n,rfl⟩:=c7;exact r.tab.drewN n) (by omega));have h3:=O (λ(L N:zu) (c7:∃n,L=D.drewN n) (d5:dO N E C _ _) (I:zs L N _)=>(r.below (aN c7)).join d6 d7 c3 d5 I);have h1:=O (d3.join (F':=((∀e c,c<e->e<b->mK f e c)/\∀c,c<k->mK f b c)/\∀z,z<d+1->∀o v:Nat,li[z]?=V o->lk[z]?=V v->bQ f o v) r.inv.ok m7 d6 d7 (λl h d4=>⟨h.1,λz r7 o v m q=>by
        by_cases n2:z<d
        .exact h.2 z n2 o v m q
        have:z=d:=by omega
        subst this;rw[zw f5]at m;rw[zw (by omega)]at q;simp at m q;subst m;subst q;rw[<-l];exact d4⟩))
       generalize hnn:decide (x[li[d]].1.cls≠x[lk[d]].1.cls)=nn at *;generalize iD x x[li[d]].1.cls x[lk[d]].1.cls=Q4 at *;generalize li[d]=o at *;generalize lk[d]=v at *;have q5:S≠F:=by rintro rfl;rw[h4.o]at f0;simp[U]at f0
       have q6:T≠F:=by rintro rfl;rw[h5.o]at f1;simp[U]at f1
       clear f0 f1;have g9:=O (show ∀L N,(∃n,L=D.drewN n)->zs L N (V F)->cQ N u.heap.size 2 (sQ S (Z li) a8)/\cQ N (u.heap.size+1) 2 (sQ T (Z lk) a9)/\cQ N S d (iQ o)/\cQ N T d (iQ v) from λL N c7 I=>by
        obtain⟨n,rfl⟩:=c7;exact⟨I.cell (w:=D.drewN n) l6 (by simp;omega),I.cell (w:=D.drewN n) l7 (by simp;omega),I.cell (w:=D.drewN n) l8 (by simp;omega),I.cell (w:=D.drewN n) l9 (by simp;omega)⟩)
       clear hnn P Q f6 a1 i2 i3 b4 a4 b6 a5 r d3 c3 d6 d7;cases g with
       |true=>
        go_wp2_with fail;go_region_held3 (λA=>cQ A u.heap.size 2 (sQ S (Z li) a8)/\cQ A (u.heap.size+1) 2 (sQ T (Z lk) a9)/\cQ A S d (iQ o)/\cQ A T d (iQ v)) (go_keep)
         ((go_at_call 143;refine(aD g6 _ (by first|exact⟨0,rfl⟩|exact⟨1,rfl⟩|exact⟨_,rfl⟩)).mono ?_;rintro l d0 ⟨rfl,c6,X⟩;have e2:=O (h3.o _ d0 (by first|exact⟨0,rfl⟩|exact⟨1,rfl⟩|exact⟨_,rfl⟩) c6 X);obtain⟨e5,a7,h6,l5⟩:=g9.o _ d0 (by first|exact⟨0,rfl⟩|exact⟨1,rfl⟩|exact⟨_,rfl⟩) X;clear c6 X))
        all_goals
         go_wp2;exact⟨⟨zn,d+1,Q4,by omega,rfl,by go_num,e2.o,by simpa using h1.o,e5,a7⟩,by simp[intOf];omega⟩
       |false=>
        go_wp2_with fail;go_region_held3 (λA=>cQ A u.heap.size 2 (sQ S (Z li) a8)/\cQ A (u.heap.size+1) 2 (sQ T (Z lk) a9)/\cQ A S d (iQ o)/\cQ A T d (iQ v)) (go_keep)
         ((go_at_call 143;refine(aD g6 _ (by first|exact⟨0,rfl⟩|exact⟨1,rfl⟩|exact⟨_,rfl⟩)).mono ?_;rintro l d0 ⟨rfl,c6,X⟩;have e2:=O (h3.o _ d0 (by first|exact⟨0,rfl⟩|exact⟨1,rfl⟩|exact⟨_,rfl⟩) c6 X);obtain⟨e5,a7,h6,l5⟩:=g9.o _ d0 (by first|exact⟨0,rfl⟩|exact⟨1,rfl⟩|exact⟨_,rfl⟩) X;clear c6 X))
        all_goals
         go_wp2;exact⟨⟨nn,d+1,Q4,by omega,rfl,by go_num,e2.o,by simpa using h1.o,e5,a7⟩,by simp[intOf];omega⟩
      have n4:¬((d:Int)<(Z li:Int)):=by omega
      have k8:=O r;have k6:=O d3;have s0:d=Z li:=by omega
      clear r d3;go_wp2;exact⟨⟨g,k+1,x,by omega,rfl,by go_num,k8.o,k6.o.imp λl h=>d1.o (e0.o λp o v m q=>h.2 p (by
       have:=(eE m);omega) o v m q) h.1⟩,by simp[intOf];omega⟩
     rw[gG W]at f3;have k5:=O (k1.o rfl c8 c9 W);clear W c8 c9;go_wp2;go_ret;exact⟨_,rfl,⟨zi,rfl,⟨by simp,λh=>absurd h.1 k5.o⟩,by simp⟩,(c0.o _ _).far⟩
    have q4:¬((cli:Int)=(clk:Int)):=by omega
    go_wp2;exact⟨⟨g,k+1,i,by omega,rfl,by go_num,c0.o _ _,a6.o.imp λl h=>d1.o (k2.o i1 l) h⟩,by simp[intOf];omega⟩
   have m5:¬((k:Int)<(b:Int)):=by omega
   have h2:=O j;have a6:=O G;clear j G;go_wp2;go_roundw;case rel=>
    refine⟨g,b+1,i,by omega,rfl,by go_num,h2.o,a6.o.imp λ_ h e c m q=>?_⟩;by_cases m4:e<b
    .exact h.1 e c m m4
    have:e=b:=by omega
    subst this;exact h.2 c (by omega)
   case measure=>simp[intOf];omega
  have m9:¬((b:Int)<(Z a:Int)):=by omega
  have R:=O j;have c1:=O G;clear j G;go_wp2;go_roundw;case rel=>exact⟨g,i,rfl,R.o,λl e c m q=>by
   obtain⟨rfl,h⟩:=c1.o.2.2 l;exact h e c m (by omega)⟩
  case measure=>
   rw[aRr s.o.tab s.o.sh.len,aRr R.o.tab R.o.sh.len];have m:=c1.o.1;unfold cN at m;cases g with
   |true=>have q:=c1.o.2.1 rfl;unfold cN at q;simp[aAh];omega
   |false=>simp[aAh];omega
 |false=>
  have e8:=e7 rfl;have c3:=H.closed e8;have j6:=O (bGm E C _ f wo H.tab (by omega) H.inv.ok c3 (λp f4=>by
   obtain⟨b,b2,rfl⟩:=List.getElem_of_mem f4;rw[(H.sh.row b (by omega) b2).2.1];exact e1.o _ (zj _)))
  have s:=O H;have e0:=O e8;clear H e7 e8 c3;go_wp2_with(first
   |(go_at_call 144;refine(aD j6).mono ?_;rintro l s6 ⟨b3,rfl,d4,i0⟩;have k7:=O d4;have g8:=O i0;clear d4 i0)
   |go_in)
  go_ret;obtain⟨g,rfl,m2⟩:=k7.o;obtain⟨m,q⟩:=s.o.inv.done e0.o;refine⟨_,rfl,⟨g,rfl,?_,λ_=>⟨f,s.o.tab.below g8.o,s.o.sh,s.o.inv.gr,s.o.inv.ok,m⟩⟩,s.o.far.trans (aRq g8.o)⟩;rw[m2,s.o.inv.gr,s.o.inv.len];exact⟨λh=>⟨q,λb b2=>(bZ.iff m).1 (h b b2)⟩,λh b b2=>(bZ.iff m).2 (h.2 b b2)⟩
def cA(M:List Tg)(p:Nat):Nat:=match M[p]? with|some t=>if aK t.2 then M.findIdx (rE t.1 t.2.2) else p|none=>p
theorem aAa(a:Z M<=p):cA M p=p:=by unfold cA;rw[zb a]
theorem xK{t:Tg}(a:M[p]?=V t)(b:aK t.2=zi):cA M p=p:=by unfold cA;rw[a];simp[b]
theorem aBz{t:Tg}(b:M[p]?=V t)(c:aK t.2=zn):cA M p=M.findIdx (rE t.1 t.2.2)/\cA M p<=p/\∃a,M[cA M p]?=V a/\aK a.2=zn/\a.1=t.1/\a.2.2=t.2.2:=by grind[rE,cA,List.findIdx_getElem,zw,zh,List.not_of_lt_findIdx,Nat.le_of_not_lt]
def aAb(M:List Tg)(p b:Nat):Prop:=p=b\/∃a t,M[p]?=V a/\M[b]?=V t/\aK a.2=zn/\aK t.2=zn/\a.1=t.1/\a.2.2=t.2.2
theorem xL(M:List Tg)(p a:Nat):cA M p=cA M a↔aAb M p a:=by grind[cA,xK,aAa,aBz,aK,rE,aAb]
def vR(M:List Tg):List Nat:=(List.range (Z M)).map λp=>cA M p
theorem rJ(M:List Tg):Z (vR M)=Z M:=by simp[vR]
theorem aC0(a:p<Z M):(vR M)[p]?=V (cA M p):=by simp[vR,a]
theorem aIq{a:List Tg}(b:p<Z M):cA (M++a) p=cA M p:=by
 have c:M[p]?=V M[p]:=zw b;have d:(M++a)[p]?=V M[p]:=by rw[zl b,c]
 cases hv:aK M[p].2;all_goals grind[xK,aBz]
theorem bFl(a:p<Z M):pU (M.take p) M[p].1 M[p].2=cA M p:=by grind[lX,rE,pU,xK,aBz,aK,zg,List.findIdx?_eq_none_iff_findIdx_eq,List.findIdx?_eq_some_iff_findIdx_eq,List.findIdx_le_length]
theorem aQv(M:List Tg)(a:Int)(t:List Nd):vR (M++t.map λn=>(a,n))=vR M++kR M a t (Z t):=by
 apply yz;intro p;by_cases b:p<Z M
 .rw[aC0 (by simp;omega),zl (by rw[rJ];exact b),aC0 b,aIq b]
 rw[zk (by rw[rJ];omega),rJ];by_cases e:p-Z M<Z t
 .have c:p<Z (M++t.map λn=>(a,n)):=by simp;omega
  rw[aC0 c,<-bFl c];have d:(M++t.map λn=>(a,n))[p]=(a,t[p-Z M]):=by rw[List.getElem_append_right (by omega)];simp
  rw[d];have f:(M++t.map λn=>(a,n)).take p=M++(t.take (p-Z M)).map λn=>(a,n):=by rw[List.take_append,List.take_of_length_le (by omega),List.map_take]
  rw[f];simp[kR,e]
 rw[zb (by rw[rJ];simp;omega),zb (by rw[aQq];omega)]
theorem aIr(M:List Tg):jP (vR M) (cA M) (λp=>if cA M p=p then 0 else 1):=by refine⟨λp b a=>?_,λp a=>?_,λp b a c=>?_,λp a=>aAa (by rw[rJ]at a;exact a)⟩;all_goals grind[aC0,rJ,cA,xK,aBz,aK,zw,zh]
theorem bFm(M:List Tg):fP (aF (M.map ze)) (λd e=>cA M d=cA M e) λ_ _=>False:=by
 intro f g b o q;rcases(xL M f g).1 b with rfl|⟨s,t,i,j,l,m,_⟩
 .refine⟨rfl,λk p r c a=>?_⟩;rw[c]at a;simp at a;subst a;exact fZ.refl _
 grind[nC]
theorem bFn(M:List Tg):nD (M.map ze) (cA M):=by intro p a;grind[nC,xK,ys]
theorem bFo:∀{a:Nat},aP t a=zn->∀n∈t,aK n=zn->0<=n.2/\n.2<60:=by
 induction t with
 |nil=>intro a _ n b;simp at b
 |cons m r ih=>
  grind[dQ,aP,mC]
structure Rows(M:List Tg)(R:List Rw)(g:Nat->Nat):Prop where
 whole:dV (M.map ze)
 var:∀(p:Nat) (t:Tg),M[p]?=V t->aK t.2=zn->∃r,R[g p]?=V r/\r.node=(t.2.1,t.2.2+60*t.1)
 name:∀(p:Nat) (t:Tg),M[p]?=V t->aK t.2=zi->R[g p]?=V ⟨t.2,g p,((aF (M.map ze)).ch p).map g⟩
 inj:∀(p q:Nat) (s t:Tg),M[p]?=V s->M[q]?=V t->aK s.2=zi->aK t.2=zi->g p=g q->p=q
 onto:∀r,r<Z R->∃p,p<Z M/\g p=r
 fresh:∀(r:Nat) (x:Rw),R[r]?=V x->x.cls=r/\(aK x.node=zn->x.parts=[])
 once:nU R
 num:∀(p:Nat) (t:Tg),M[p]?=V t->aK t.2=zn->0<=t.2.2/\t.2.2<60
theorem Rows.start:Rows [] [] id:=⟨λb n a=>by simp at a,λp t a=>by simp at a,λp t a=>by simp at a,λp e i t a=>by simp at a,λc a=>by simp at a,λc j a=>by simp at a,λb d f g a=>by simp at a,λp t a=>by simp at a⟩
theorem pY{L:List Nd}(b:dV L){p:Nat}(a:p<Z L):(aF (L++t)).ch p=(aF L).ch p:=by grind[jE,bDg,zl,zw,dV,aF,gE,bI]
theorem aC1{L:List Nd}(a:p<Z t):(aF (L++t)).ch (Z L+p)=((aF t).ch p).map (· + Z L):=by
 have b:t[p]?=V t[p]:=zw a;have c:(L++t)[Z L+p]?=V t[p]:=by rw[zk (by omega)];simp[a]
 rw[jE b,jE c,<-aEh];grind[yu,z2]
theorem Rows.put{R:List Rw}{A:Nat->Nat}(i:Rows M R A){o:Int}{t:List Nd}(E:aP t 1=zn){R':List Rw}{a1:List Nat}{a2:List Nd}{B:Nat->Nat}(g:mL (60*o) R 1 t R' a1 a2 B):Rows (M++t.map λn=>(o,n)) R' (uD (Z M) A B):=by
 have a4:aM t 1=Z t:=by have:=zZ t 1 [] E;simpa using this
 have S:Z (M.map ze)=Z M:=by simp
 have I:(M++t.map λn=>(o,n)).map ze=M.map ze++t:=by rw[List.map_append,List.map_map];congr 1;exact List.map_id _
 have s:∀(p:Nat) (x:Tg),p<Z M->(M++t.map λn=>(o,n))[p]?=V x->M[p]?=V x:=λp x e d=>by rwa[zl e]at d
 have r:∀(p:Nat) (x:Tg),¬p<Z M->(M++t.map λn=>(o,n))[p]?=V x->∃n,t[p-Z M]?=V n/\x=(o,n)/\p-Z M<Z t:=λp x e d=>by
  grind
 have C:∀(p:Nat) (x:Tg),M[p]?=V x->A p<Z R:=by
  intro p x d;cases j:aK x.2
  .exact(eE (i.name p x d j))
  obtain⟨m,c,_⟩:=i.var p x d j;exact(eE c)
 have v:∀p,¬p<Z M->uD (Z M) A B p=B (p-Z M):=λp g=>aS g
 refine⟨?_,?_,?_,?_,?_,?_,g.once i.once,?_⟩
 .rw[I];exact i.whole.append (tD E)
 .intro p x d j;by_cases e:p<Z M
  .have z:=s p x e d;obtain⟨m,c,f⟩:=i.var p x z j;exact⟨m,by rw[nZ e,g.ext _ (C p x z),c],f⟩
  obtain⟨n,c,rfl,q⟩:=r p x e d;rw[v p e];exact g.var _ n (by omega) c j
 .intro p x d j;rw[I];by_cases e:p<Z M
  .have z:=s p x e d;rw[nZ e,g.ext _ (C p x z),i.name p x z j,pY i.whole (by omega)];congr 2
   rw[aJ1];intro l P;have N:(M.map ze)[p]?=V x.2:=by rw[z4,z];rfl
   rw[jE N]at P;have c:=(sY _ _ _ (i.whole p _ N) l P).2;grind[dV.one,aM,oC,zg,zh]
  obtain⟨n,c,rfl,q⟩:=r p x e d;rw[v p e,(g.name _ n (by omega) c j).1];congr 2
  have T:p=Z (M.map ze)+(p-Z M):=by omega
  have J:=aC1 (L:=M.map ze) (t:=t) (p:=p-Z M) q;rw[<-T]at J;rw[J,S,aJ2,jE c]
 .intro p l x y d D F G u;by_cases c:p<Z M<;>by_cases f:l<Z M
  .rw[nZ c,nZ f]at u;exact i.inj p l x y (s p x c d) (s l y f D) F G u
  .obtain⟨n,q,rfl,H⟩:=r l y f D;rw[nZ c,v l f]at u;have a:=C p x (s p x c d);have b:=(g.name _ n (by omega) q G).2;omega
  .obtain⟨n,q,rfl,H⟩:=r p x c d;rw[nZ f,v p c]at u;have a:=C l y (s l y f D);have b:=(g.name _ n (by omega) q F).2;omega
  obtain⟨n,q,rfl,H⟩:=r p x c d;obtain⟨a0,Q,rfl,a3⟩:=r l y f D;rw[v p c,v l f]at u;have:=g.inj _ _ n a0 (by omega) (by omega) q Q F G u;omega
 .intro m W;by_cases e:m<Z R
  .obtain⟨p,c,f⟩:=i.onto m e;exact⟨p,by simp;omega,by rw[nZ c];exact f⟩
  obtain⟨X,c,f⟩:=g.onto m (by omega) W;exact⟨X+Z M,by simp;omega,by rw[aF2];exact f⟩
 .intro m x d;by_cases e:m<Z R
  .rw[g.ext m e]at d;exact i.fresh m x d
  exact g.fresh m x (by omega) d
 intro p x d j;by_cases e:p<Z M
 .exact i.num p x (s p x e d) j
 obtain⟨n,c,rfl,q⟩:=r p x e d;exact bFo E n (List.mem_of_getElem? c) j
def pZ(M:List Tg)(a:List Rw)(b:Nat->Nat)(p:Nat):Nat:=if p<Z M then b p else Z a+(p-Z M)
section
variable {M:List Tg}{R:List Rw}{g:Nat->Nat}{T:Tb}
theorem aIs(d:T.map Prod.fst=R){a:Nat}{b:Rw}(c:R[a]?=V b):(bJ T).lab a=b.node/\(bJ T).ch a=b.parts:=by grind[vH,sX,zh,ys]
theorem bFp(i:T.map Prod.fst=R)(e:∀(f:Nat) (c:Rw),R[f]?=V c->c.cls=f/\(aK c.node=zn->c.parts=[])){a b:Nat}(d:bQ T a b):a=b:=by
 rcases d with d|⟨j,l,q⟩
 .exact d
 subst i;have m:=(e a T[a].1 (by rw[z4,zw j];rfl)).1;have o:=(e b T[b].1 (by rw[z4,zw l];rfl)).1;omega
theorem Rows.at(a:Rows M R g){p:Nat}{t:Tg}(b:M[p]?=V t):∃x,R[g p]?=V x/\aK x.node=aK t.2:=by
 cases hv:aK t.2
 .exact⟨_,a.name p t b hv,hv⟩
 obtain⟨r,c,d⟩:=a.var p t b hv;refine⟨r,c,?_⟩;rw[d];exact hv
theorem Rows.lt(a:Rows M R g){p:Nat}(c:p<Z M):g p<Z R:=by obtain⟨x,b,_⟩:=a.at (zw c);exact(eE b)
theorem aQw{n:Nd}(b:aK n=zn):n.1=⟨#[]⟩:=by
 have a:n.1.toList=[]:=by simpa[aK]using b
 rw[ByteArray.toList_eq]at a;obtain⟨⟨c⟩,d⟩:=n;simp at a;simp[a]
theorem Rows.laid(c:Rows M R g)(A:T.map Prod.fst=R){u y:Nat}(L:u<Z M)(N:y<Z M):Laid (aF (M.map ze)) (bJ T) (λS W=>cA M S=cA M W\/(S=u/\W=y)) (kS T (g u) (g y)) (pZ M R g):=by
 have b1:Z T=Z R:=by rw[<-A];simp
 have d:∀p,p<Z M->pZ M R g p=g p:=λp i=>aT i
 have q:∀p,¬p<Z M->pZ M R g p=Z R+(p-Z M):=λp i=>aS i
 have H:∀(p:Nat) (t:Tg),M[p]?=V t->(M.map ze)[p]?=V t.2:=λp t a8=>by rw[z4,a8];rfl
 have a4:∀p,(aF (M.map ze)).named p↔(bJ T).named (pZ M R g p):=by
  intro p;by_cases i:p<Z M
  .have o:M[p]?=V M[p]:=zw i;obtain⟨a9,b,f⟩:=c.at o;rw[d p i,iF (H _ _ o)];unfold Gr.named;rw[(aIs A b).1,f]
  constructor
  .intro l;obtain⟨n,b,_⟩:=nC l;have:=(eE b);simp at this;omega
  intro l;rw[q p i]at l;obtain⟨b,_⟩:=vG l;omega
 have P:∀p,(aF (M.map ze)).named p->∃t,M[p]?=V t/\aK t.2=zi/\p<Z M:=by intro p l;obtain⟨n,b,f⟩:=nC l;rw[z4]at b;obtain⟨t,j,rfl⟩:=Option.map_eq_some_iff.1 b;exact⟨t,j,f,(eE j)⟩
 refine⟨a4,?_,?_,?_,?_,?_,?_⟩
 .intro p l;obtain⟨t,b,f,j⟩:=P p l;rw[d p j,pR (H _ _ b),(aIs A (c.name p t b f)).1]
 .intro p l;obtain⟨t,b,f,j⟩:=P p l;rw[d p j,(aIs A (c.name p t b f)).2];refine List.map_congr_left λa m=>(d a ?_).symm
  have I:=H _ _ b;rw[jE I]at m;have F:=(sY _ _ _ (c.whole p _ I) a m).2;have z:aM ((M.map ze).drop p) 1<=Z ((M.map ze).drop p):=oC _ _;rw[zg (by simp;omega)]at z;have G:(M.map ze)[p]'(by simp;omega)=t.2:=(List.getElem?_eq_some_iff.1 I).2;rw[G]at z;simp[aM]at z;omega
 .intro p a e;by_cases i:p<Z M<;>by_cases m:a<Z M
  .rw[d p i,d a m]at e;have o:M[p]?=V M[p]:=zw i;have B:M[a]?=V M[a]:=zw m;obtain⟨a9,J,a1⟩:=c.at o;obtain⟨b4,b0,a2⟩:=c.at B;rw[e,b0]at J;simp at J;subst J;cases hv:aK M[p].2
   .have C:aK M[a].2=false:=by rw[<-a2,a1,hv]
    have:=c.inj p a _ _ o B hv C e;subst this;exact Cl.refl _
   have C:aK M[a].2=true:=by rw[<-a2,a1,hv]
   obtain⟨X,v,x⟩:=c.var p _ o hv;obtain⟨a0,D,E⟩:=c.var a _ B C;rw[e,D]at v;simp at v;subst v;rw[E]at x;simp at x;have b2:=c.num p _ o hv;have b3:=c.num a _ B C;refine Cl.base (yp ((xL M p a).2 (z5 ⟨_,_,o,B,hv,C,?_,?_⟩)))<;>omega
  .rw[d p i,q a m]at e;have:=c.lt i;omega
  .rw[d a m,q p i]at e;have:=c.lt m;omega
  rw[q p i,q a m]at e;have:p=a:=by omega
  subst this;exact Cl.refl _
 .rintro p a (e|⟨rfl,rfl⟩)
  .rcases(xL M p a).1 e with rfl|⟨s,t,b,f,j,F,z,G⟩
   .exact Cl.refl _
   obtain⟨X,v,x⟩:=c.var p _ b j;obtain⟨a0,D,E⟩:=c.var a _ f F;have a5:=(eE b);have a6:=(eE f);have a3:g p=g a:=by
    refine c.once (g p) (g a) X a0 v D ?_ ?_
    .rw[x];exact j
    rw[x,E,aQw j,aQw F,z,G]
   rw[d p a5,d a a6,a3];exact Cl.refl _
  rw[d p L,d a N];exact Cl.base (yp ⟨rfl,rfl⟩)
 .rintro r s (⟨rfl,rfl⟩|e)
  .exact⟨u,y,d u L,d y N,Cl.base (z5 ⟨rfl,rfl⟩)⟩
  have:=bFp A c.fresh e;subst this;by_cases a7:r<Z R
  .obtain⟨p,b,f⟩:=c.onto r a7;exact⟨p,p,by rw[d p b,f],by rw[d p b,f],Cl.refl _⟩
  have Q:pZ M R g (Z M+(r-Z R))=r:=by rw[q _ (by omega)];omega
  exact⟨_,_,Q,Q,Cl.refl _⟩
 intro r l;obtain⟨b,_⟩:=vG l;obtain⟨p,f,j⟩:=c.onto r (by omega);exact⟨p,by rw[d p f,j]⟩
end
