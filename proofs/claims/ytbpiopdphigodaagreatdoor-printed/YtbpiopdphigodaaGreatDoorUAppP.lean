import Derived.Test.YtbpiopdphigodaaGreatDoorUKeyP
import Derived.RangeFuncOwn
import Derived.Test.YtbpiopdphigodaaGreatDoorUPartsP
import Derived.Deep.RegionHeld3
open Array renaming getElem?_eq_some_iff→zz
open List renaming getElem?_append_right→zy,getElem?_append_left→zw,replicate→zv,getElem?_eq_some_iff→zs,getElem?_eq_none→zp,drop_eq_nil_of_le→zn,take_succ_eq_append_getElem→zm,drop_append_of_le_length→zl,length_append→zk,drop_eq_getElem_cons→zj,append_assoc→zi,getElem?_eq_getElem→zg,length_drop→ze,ext_getElem?→za,getElem?_map→z2,map_toArray→z3,drop_append→z4,getElem_mem→z6
open Nat renaming le_refl→zx,le_trans→zq
open Or renaming inr→zr,inl→zd
namespace Go.Proofs.YtbpiopdphigodaaGreatDoor
open Region renaming wanted→zu
open _root_.Go.Proofs.Tryz renaming prog→zt,underlying39→zh,underlying33→zb
open Value renaming ownBlock→zo,int→zf
open Go.RowKit Go.Shelf Go.WideMaps
set_option maxHeartbeats 4000000
set_option maxRecDepth 100000
variable{t:List Nd}{M:List Tg}{mp:Nat}{w:World}
theorem zF{m:Array Oper}{b:Oper}{a:Act}{w:World}{K:Act->World->Prop}{o:Exit->Act->World->Prop}{n:Prop}(u:b.guard=none)(c:Nat)(i:Array Operand)(A:Array TypeId)
  (x:b.op=.call {callee:=.value (.func c),args:=i,argTypes:=A}) (s:∀l w,(callFunc c l).run zt w=.ok (.enter c l) w) (e:Array Value) (g:i.toList.map a.eval=e.toList) {k:Ending->World->Prop} (r:Calls zt c e w k)
  (p:∀d f,k d f->∃j,d=.returned j/\K (a.put b.dst j) f):if zu b (yielded m a.tmps)=true then Oper.wp zt b a w K o else n:=by
 have z:zu b (yielded m a.tmps)=true:=by simp [zu,u]
 rw [aG z];have y:(execOp a.eval b).run zt w=.ok (.enter c e) w:=by
  have g:i.map a.eval=e:=by apply Array.ext';rw [Array.toList_map];exact g
  subst g;simp [execOp,x,resolve,invoke,s,Act.eval,Deferred.ofValue]
 unfold Oper.wp;rw [y,Oper.upon_enter];exact r.mono λd f q=>by
  obtain ⟨j,rfl,v⟩:=p d f q;exact v
theorem aVn(w:World)(m:TypeId)(d:Nat)(a:Value)(f:Nat)(j:List Value)(r:w.ownsRow d 3 1 a f j)(G:a.ownBlock≠none)(H:f<=1000000)(B:d<=w.heap.size)(e k:Nat)(b:Int)(F:w.cell? ⟨e,0,none⟩=some (.int .i64 b)):∃c g,(Builtin.append_ #[33,33] m #[a,.slice (some ⟨e,0,none⟩) 1 k]).run zt w=.ok c g/\g.ownsRow d 3 1 c (f+1) (j++[.int .i64 b])/\w.grownBy g a.ownBlock/\(c.ownBlock=a.ownBlock\/c.ownBlock=some w.heap.size):=by
 obtain ⟨z,p,y,u,x⟩:=info_parts sI;have q:∀(i:Nat) (n:Value),[zf .i64 b][i]?=some n->w.cell? ((⟨e,0,none⟩ : Addr).add i)=some n:=by
  intro i n l;have D:i=0:=by have:=(zs.1 l).1;simp at this;exact this
  subst D;simp at l;subst l;exact F
 have o:∀A∈[zf .i64 b],A.oneCell'=true:=by intro A v;simp at v;subst v;rfl
 obtain ⟨c,g,s,E,C,_⟩:=run_append_own (P:=zt) w d 33 m 3 z (.int .i64 0) 1 8 zb p y u x rfl (by decide) a f j r ⟨e,0,none⟩ 1 k [.int .i64 b] rfl q o (by unfold maxLen;omega) (by omega) B;exact ⟨c,g,s,E,C,aBf w d 33 m 3 z (.int .i64 0) 1 8 zb p y u x (by decide) a f j r G ⟨e,0,none⟩ 1 k [.int .i64 b] rfl q o (by unfold maxLen;omega) (by omega) s⟩
theorem aVo{m:Array Oper}{a:Oper}{b:Act}{w:World}{K:Act->World->Prop}{q:Exit->Act->World->Prop}{p:Prop}(y:a.guard=none)(n o:Operand)
  (A:a.op=.call {callee:=.builtin .append,args:=#[n,o],argTypes:=#[33,33]}) (f:Nat) (c:Value) (g:Nat) (k:List Value) (D:b.eval n=c) (B:w.ownsRow f 3 1 c g k) (F:c.ownBlock≠none) (z:g<=1000000) (x:f<=w.heap.size)
  (i l:Nat) (j:Int) (H:b.eval o=.slice (some ⟨i,0,none⟩) 1 l) (E:w.cell? ⟨i,0,none⟩=some (.int .i64 j))
  (r:∀d e,e.ownsRow f 3 1 d (g+1) (k++[.int .i64 j])->w.grownBy e c.ownBlock->(d.ownBlock=c.ownBlock\/d.ownBlock=some w.heap.size)->K (b.put a.dst d) e):if zu a (yielded m b.tmps)=true then Oper.wp zt a b w K q else p:=by
 have G:zu a (yielded m b.tmps)=true:=by simp [zu,y]
 rw [aG G];obtain ⟨d,e,C,s,u,v⟩:=aVn w a.type f c g k B F z x i l j E;unfold Oper.wp execOp;simp only [A,resolve,invoke,builtin,Sem.run_bind,Sem.run_pure,Result.andThen_ok,z3,List.map_cons,List.map_nil,D,H,C];exact r d e s u v
theorem wJ{a:Nat}(c:aN t a=true):eT t:=by
 intro g l d;have f:=aQ9 t a c;have i:aL t a=t.length:=by have:=yU t a [] c;simpa using this
 have j:=(zs.1 d).1;obtain ⟨k,b,e,_⟩:=aQb t a g f (by omega);rw [d] at b;simp at b;subst b;exact e
theorem eT.append{a:List Nd}(e:eT a)(g:eT t):eT (a++t):=by
 intro c d b;by_cases f:c<a.length
 ·rw [zw f] at b;rw [zl (by omega)];exact aG0 _ _ _ (e c d b)
 ·rw [zy (by omega)] at b;rw [z4,zn (by omega),List.nil_append,show c+1-a.length=(c-a.length)+1 by omega];exact g _ d b
theorem eT.one{a:List Nd}(d:eT a){b:Nat}(c:b<a.length):eM (a.drop b) 1:=by rw [zj c];simp only [eM];rw [Nat.zero_add];exact d b _ (zg c)
theorem aVp{a:List Nd}(d:eT a):eN (a++t)=eN a++(eN t).map (· + a.length):=by
 apply za;intro c;by_cases b:c<a.length
 ·rw [uB _ _ (by simp;omega),zw (by rw [gL];exact b),uB _ _ b,zl (by omega),aBl _ _ _ (d.one b)]
 ·rw [zy (by rw [gL];omega),gL];by_cases e:c-a.length<t.length
  ·rw [uB _ _ (by simp;omega),z2,uB _ _ e,z4,zn (by omega),List.nil_append];simp;omega
  ·rw [zp (by rw [gL];simp;omega),zp (by simp [gL];omega)]
def iA(M:List Tg)(b:Int)(t:List Nd)(c:Nat):List Nat:=(List.range c).map λa=>mV (M++(t.take a).map λd=>(b,d)) b (t.getD a (⟨#[]⟩,0))
theorem aIt(M:List Tg)(b:Int)(t:List Nd)(a:Nat):(iA M b t a).length=a:=by simp [iA]
theorem aVq(M:List Tg)(b:Int)(t:List Nd)(a:Nat)(c:a<t.length):iA M b t (a+1)=iA M b t a++[mV (M++(t.take a).map λd=>(b,d)) b t[a]]:=by simp [iA,List.range_succ,c]
theorem aVr(M:List Tg)(c:Int)(t:List Nd)(a:Nat)(d:a<t.length):(M++(t.take a).map λb=>(c,b))++[(c,t[a])]=M++(t.take (a+1)).map λb=>(c,b):=by rw [zm d,List.map_append,zi];rfl
def eL(a t:List Nd)(b:Nat):List Nat:=eN a++(zv b 0++((eN t).map (· + a.length)).drop b)
theorem aCs(a t:List Nd)(b:Nat)(c:b<=t.length):(eL a t b).length=a.length+t.length:=by simp [eL,gL];omega
theorem aVs(a t:List Nd):eL a t t.length=eN a++zv t.length 0:=by unfold eL;rw [zn (by simp [gL]),List.append_nil]
theorem aVt{a:List Nd}(b:eT a):eL a t 0=eN (a++t):=by rw [aVp b];simp [eL]
theorem zG(b t:List Nd)(c a:Nat)(e:c<=a)(d:a<t.length):(eL b t c)[b.length+a]?=some (b.length+(a+aL (t.drop a) 1)):=by unfold eL;rw [zy (by rw [gL];omega),gL,zy (by simp;omega),List.getElem?_drop];rw [show c+(b.length+a-b.length-(zv c 0).length)=a by simp;omega,z2,uB _ _ d];simp;omega
theorem aCt(a t:List Nd)(c b:Nat)(d:a.length<=b)(e:b<a.length+c):(eL a t c)[b]?=some 0:=by unfold eL;rw [zy (by rw [gL];omega),gL,zw (by simp;omega),List.getElem?_replicate,aG (by omega)]
theorem aVu(a t:List Nd)(b:Nat)(g:b<t.length):(eL a t (b+1)).set (a.length+b) (a.length+(b+aL (t.drop b) 1))=eL a t b:=by
 apply za;intro c;rw [List.getElem?_set];by_cases e:a.length+b=c
 ·subst e;rw [aG rfl,aG (by rw [aCs _ _ _ (by omega)];omega),zG _ _ _ _ (zx _) g]
 ·rw [aF e];by_cases d:c<a.length
  ·unfold eL;rw [zw (by rw [gL];exact d),zw (by rw [gL];exact d)]
  ·by_cases j:c<a.length+b
   ·rw [aCt _ _ _ _ (by omega) (by omega),aCt _ _ _ _ (by omega) (by omega)]
   ·by_cases i:c<a.length+t.length
    ·have f:c=a.length+(c-a.length):=by omega
     rw [f,zG _ _ _ _ (by omega) (by omega),zG _ _ _ _ (by omega) (by omega)]
    ·rw [zp (by rw [aCs _ _ _ (by omega)];omega),zp (by rw [aCs _ _ _ (by omega)];omega)]
structure cG(w:World)(B tb:Nat)(vn ve vl vs vm:Value)(L:List Nd)(E F:List Nat)(S:List Int):Prop where
 box:w.heap[tb]?=some (.cells #[vn,ve,vl,vs,vm] 191)
 high:B<=tb
 rn:w.ownsRow B 43 2 vn L.length (aV L)
 re:w.ownsRow B 3 1 ve E.length (nG E)
 rl:w.ownsRow B 3 1 vl F.length (nG F)
 rs:w.ownsRow B 3 1 vs S.length (S.map (zf .i64))
 ab:ve.ownBlock≠vl.ownBlock
 ac:ve.ownBlock≠vs.ownBlock
 bc:vl.ownBlock≠vs.ownBlock
 ne:ve.ownBlock≠none
 nl:vl.ownBlock≠none
 ns:vs.ownBlock≠none
section
variable {w:World}{B tb:Nat}{vn ve vl vs vm:Value}{L:List Nd}{E F:List Nat}{S:List Int}
theorem cG.below(a:cG w B tb vn ve vl vs vm L E F S){wx:World}(k:aB w wx):cG wx B tb vn ve vl vs vm L E F S:=
 ⟨by rw [k.block tb (zz.1 a.box).1,a.box],a.high,bF a.rn k (zx _),bF a.re k (zx _),bF a.rl k (zx _),bF a.rs k (zx _),a.ab,a.ac,a.bc,a.ne,a.nl,a.ns⟩
theorem cG.lt(a:cG w B tb vn ve vl vs vm L E F S):tb<w.heap.size:=(zz.1 a.box).1
theorem cG.cells(a:cG w B tb vn ve vl vs vm L E F S):w.cell? ⟨tb,0,none⟩=some vn/\w.cell? ⟨tb,1,none⟩=some ve/\w.cell? ⟨tb,2,none⟩=some vl/\w.cell? ⟨tb,3,none⟩=some vs/\w.cell? ⟨tb,4,none⟩=some vm:=by simp [World.cell?,a.box]
theorem cG.soft(a:cG w B tb vn ve vl vs vm L E F S)(b:Nat):w.frozen? ⟨tb,b,none⟩=false:=by simp [World.frozen?,a.box]
theorem cG.grown(a:cG w B tb vn ve vl vs vm L E F S){d:World}{b:Option Nat}(c:w.grownBy d b)(f:b≠some tb)(g:vn.ownBlock=none\/vn.ownBlock≠b)(i:ve.ownBlock=none\/ve.ownBlock≠b)(j:vl.ownBlock=none\/vl.ownBlock≠b)(k:vs.ownBlock=none\/vs.ownBlock≠b):cG d B tb vn ve vl vs vm L E F S:=
 ⟨by rw [c.block tb (zz.1 a.box).1 (λe=>f e.symm),a.box],a.high,dT a.rn c g,dT a.re c i,dT a.rl c j,dT a.rs c k,a.ab,a.ac,a.bc,a.ne,a.nl,a.ns⟩
theorem zH{w:World}{tb:Nat}{c d e f b x:Value}{a:TypeId}(g:w.heap[tb]?=some (.cells #[c,d,e,f,b] a)):((w.setCell ⟨tb,0,none⟩ x).heap[tb]?=some (.cells #[x,d,e,f,b] a))/\((w.setCell ⟨tb,1,none⟩ x).heap[tb]?=some (.cells #[c,x,e,f,b] a))/\((w.setCell ⟨tb,2,none⟩ x).heap[tb]?=some (.cells #[c,d,x,f,b] a))/\((w.setCell ⟨tb,3,none⟩ x).heap[tb]?=some (.cells #[c,d,e,x,b] a)):=by
 have i:=(zz.1 g).1;have j:=(zz.1 g).2;refine ⟨?_,?_,?_,?_⟩<;>simp [World.setCell,Array.getElem?_modify,g]
theorem cG.stays(a:cG w B tb vn ve vl vs vm L E F S)(b:Obj){d:World}{c:Option Nat}(f:(w.alloc b).grownBy d c)(g:c≠some tb):d.heap[tb]?=some (.cells #[vn,ve,vl,vs,vm] 191):=by rw [f.block tb (by have:=a.lt;simp;omega) (λe=>g e.symm)];exact (a.below ((Below.refl _ _).alloc (zx _) b)).box
theorem zI{w:World}{tb:Nat}{a b c d f:Value}{e:TypeId}(g:w.heap[tb]?=some (.cells #[a,b,c,d,f] e)):w.cell? ⟨tb,0,none⟩=some a/\w.cell? ⟨tb,1,none⟩=some b/\w.cell? ⟨tb,2,none⟩=some c/\w.cell? ⟨tb,3,none⟩=some d/\∀j,w.frozen? ⟨tb,j,none⟩=false:=by simp [World.cell?,World.frozen?,g]
theorem cG.stays2(a:cG w B tb vn ve vl vs vm L E F S)(c:Obj){b:World}(d:(w.alloc c).grownBy b vl.ownBlock):b.cell? ⟨tb,2,none⟩=some vl/\b.frozen? ⟨tb,2,none⟩=false:=by have:=zI (a.stays c d (dZ a.rl a.box (by decide)));exact ⟨this.2.2.1,this.2.2.2.2 2⟩
theorem cG.stays0(a:cG w B tb vn ve vl vs vm L E F S)(c:Obj){b:World}(d:(w.alloc c).grownBy b vn.ownBlock):b.cell? ⟨tb,0,none⟩=some vn/\b.frozen? ⟨tb,0,none⟩=false:=by have:=zI (a.stays c d (dZ a.rn a.box (by decide)));exact ⟨this.1,this.2.2.2.2 0⟩
theorem cG.leads(a:cG w B tb vn ve vl vs vm L E F S){f:World}{b:Value}{i:Nat}(d:w.grownBy f vl.ownBlock)(m:f.ownsRow B 3 1 b (F.length+1) (nG F++[.int .i64 i]))(g:b.ownBlock=vl.ownBlock\/b.ownBlock=some w.heap.size):cG (f.setCell ⟨tb,2,none⟩ b) B tb vn ve b vs vm L E (F++[i]) S:=by
 have c:f.heap[tb]?=some (.cells #[vn,ve,vl,vs,vm] 191):=by rw [d.block tb a.lt (λe=>dZ a.rl a.box (by decide) e.symm),a.box]
 have l:vn.ownBlock=none\/vn.ownBlock≠vl.ownBlock:=fQ a.rn a.rl (by decide);refine ⟨(zH c).2.2.1,a.high,kK (dT a.rn d l) c (by decide),kK (dT a.re d (zr a.ab)) c (by decide),?_,kK (dT a.rs d (zr λe=>a.bc e.symm)) c (by decide),?_,a.ac,?_,a.ne,?_,a.ns⟩
 ·have:=kK (j:=2) (x:=b) m c (by decide);simpa [nG] using this
 ·rcases g with e|e
  ·rw [e];exact a.ab
  ·rw [e];exact rM a.re
 ·rcases g with e|e
  ·rw [e];exact a.bc
  ·rw [e];exact λk=>rM a.rs k.symm
 ·rcases g with e|e
  ·rw [e];exact a.nl
  ·rw [e];simp
theorem cG.nodes(a:cG w B tb vn ve vl vs vm L E F S){d:World}{e:Value}{x:Nd}(c:w.grownBy d vn.ownBlock)(g:d.ownsRow B 43 2 e (L++[x]).length (aV (L++[x]))):cG (d.setCell ⟨tb,0,none⟩ e) B tb e ve vl vs vm (L++[x]) E F S:=by
 have b:d.heap[tb]?=some (.cells #[vn,ve,vl,vs,vm] 191):=by rw [c.block tb a.lt (λf=>dZ a.rn a.box (by decide) f.symm),a.box]
 refine ⟨(zH b).1,a.high,kK g b (by decide),kK (dT a.re c (fQ a.re a.rn (by decide))) b (by decide),kK (dT a.rl c (fQ a.rl a.rn (by decide))) b (by decide),kK (dT a.rs c (fQ a.rs a.rn (by decide))) b (by decide),a.ab,a.ac,a.bc,a.ne,a.nl,a.ns⟩
theorem cG.ends(a:cG w B tb vn ve vl vs vm L E F S){w1:World}{b:Value}{i:Nat}(d:w.grownBy w1 ve.ownBlock)(k:w1.ownsRow B 3 1 b (E.length+i) (nG E++zv i (.int .i64 0)))(g:b.ownBlock=ve.ownBlock\/b.ownBlock=some w.heap.size):cG (w1.setCell ⟨tb,1,none⟩ b) B tb vn b vl vs vm L (E++zv i 0) F S:=by
 have c:w1.heap[tb]?=some (.cells #[vn,ve,vl,vs,vm] 191):=by rw [d.block tb a.lt (λe=>dZ a.re a.box (by decide) e.symm),a.box]
 refine ⟨(zH c).2.1,a.high,kK (dT a.rn d (fQ a.rn a.re (by decide))) c (by decide),?_,kK (dT a.rl d (zr λe=>a.ab e.symm)) c (by decide),kK (dT a.rs d (zr λe=>a.ac e.symm)) c (by decide),?_,?_,a.bc,?_,a.nl,a.ns⟩
 ·have:=kK (j:=1) (x:=b) k c (by decide);simpa [nG] using this
 ·rcases g with e|e
  ·rw [e];exact a.ab
  ·rw [e];exact λf=>rM a.rl f.symm
 ·rcases g with e|e
  ·rw [e];exact a.ac
  ·rw [e];exact λf=>rM a.rs f.symm
 ·rcases g with e|e
  ·rw [e];exact a.ne
  ·rw [e];simp
theorem cG.sizes(a:cG w B tb vn ve vl vs vm L E F S){f:World}{b:Value}{i:Nat}(d:w.grownBy f vs.ownBlock)(k:f.ownsRow B 3 1 b (S.length+i) (S.map (zf .i64)++zv i (.int .i64 0)))(g:b.ownBlock=vs.ownBlock\/b.ownBlock=some w.heap.size):cG (f.setCell ⟨tb,3,none⟩ b) B tb vn ve vl b vm L E F (S++zv i 0):=by
 have c:f.heap[tb]?=some (.cells #[vn,ve,vl,vs,vm] 191):=by rw [d.block tb a.lt (λe=>dZ a.rs a.box (by decide) e.symm),a.box]
 refine ⟨(zH c).2.2.2,a.high,kK (dT a.rn d (fQ a.rn a.rs (by decide))) c (by decide),kK (dT a.re d (zr a.ac)) c (by decide),kK (dT a.rl d (zr a.bc)) c (by decide),?_,a.ab,?_,?_,a.ne,a.nl,?_⟩
 ·have:=kK (j:=3) (x:=b) k c (by decide);simpa using this
 ·rcases g with e|e
  ·rw [e];exact a.ac
  ·rw [e];exact rM a.re
 ·rcases g with e|e
  ·rw [e];exact a.bc
  ·rw [e];exact rM a.rl
 ·rcases g with e|e
  ·rw [e];exact a.ns
  ·rw [e];simp
theorem cG.endAt{c g i:Nat}(a:cG w B tb vn (.slice (some ⟨c,0,none⟩) g i) vl vs vm L E F S)(e f:Nat):cG (w.setCell ⟨c,e,none⟩ (.int .i64 f)) B tb vn (.slice (some ⟨c,0,none⟩) g i) vl vs vm L (E.set e f) F S:=by
 have k:g=E.length:=by obtain ⟨l,m,b⟩:=aY a.re;simp at b;exact b.2.1
 subst k;have d:=cJ w ⟨c,e,none⟩ (.int .i64 f);refine ⟨?_,a.high,dT a.rn d (fQ a.rn a.re (by decide)),?_,dT a.rl d (zr λb=>a.ab b.symm),dT a.rs d (zr λb=>a.ac b.symm),a.ab,a.ac,a.bc,a.ne,a.nl,a.ns⟩
 ·rw [d.block tb a.lt (λb=>dZ a.re a.box (by decide) b.symm),a.box]
 ·have j:=(a.re.stored e (.int .i64 f)).1;rw [aG4] at j;simpa using j
theorem cG.endOf{f i:Nat}{c:Option Addr}(e:cG w B tb vn (.slice c f i) vl vs vm L E F S){a g:Nat}(n:E[a]?=some g):∃b,c=some ⟨b,0,none⟩/\w.cell? ⟨b,a,none⟩=some (.int .i64 g)/\w.frozen? ⟨b,a,none⟩=false/\f=E.length:=by obtain ⟨m,o⟩:=zs.1 n;obtain ⟨p,q,d,l⟩:=aG3 e.re;simp at d;obtain ⟨rfl,rfl,rfl⟩:=d;obtain ⟨j,rfl,k⟩:=l a m;refine ⟨j,rfl,by rw [k,o],?_,rfl⟩;exact e.re.frozenAt a
theorem cG.toIn(a:cG w B tb vn ve vl vs vm L (eN L) F S)(b:F.length=L.length)(c:S.length=L.length)(d:L.length<=1000000)(e:∀f∈L,f.1.size<=140737488355328):bH w B tb vn ve vl vs vm L F S:=
 ⟨a.box,a.high,a.rn,by have:=a.re;rwa [gL] at this,by have:=a.rl;rwa [b] at this,by have:=a.rs;rwa [c] at this,b,c,d,e,a.ab,a.ac,a.bc⟩
end
theorem aVv{G:Array Oper}{c:Oper}{j:Act}{w:World}{K:Act->World->Prop}{J:Exit->Act->World->Prop}{I:Prop}(Q:c.guard=none)(H D:Operand)
  (T:c.op=.call {callee:=.builtin .append,args:=#[H,D],argTypes:=#[39,39]}) (k:Nat) (d:Value) (b:List Nd) (U:j.eval H=d) (u:w.ownsRow k 43 2 d b.length (aV b)) (a3:b.length<=1000000) (O:k<=w.heap.size)
  (f m:Nat) (a:Nd) (n:j.eval D=.slice (some ⟨f,0,none⟩) 1 m) (V:w.cell? ⟨f,0,none⟩=some (.string a.1)) (W:w.cell? ⟨f,1,none⟩=some (.int .i64 a.2))
  (p:∀i l,l.ownsRow k 43 2 i (b.length+1) (aV (b++[a]))->w.grownBy l d.ownBlock->jJ w d i->K (j.put c.dst i) l):if zu c (yielded G j.tmps)=true then Oper.wp zt c j w K J else I:=by
 have X:zu c (yielded G j.tmps)=true:=by simp [zu,Q]
 rw [aG X];obtain ⟨B,r,A,x,z⟩:=info_parts rE;have s:∀(o:Nat) (C:Value),[Value.string a.1,zf .i64 a.2][o]?=some C->w.cell? ((⟨f,0,none⟩ : Addr).add o)=some C:=by
  intro o C g;have E:=(zs.1 g).1;simp at E;match o,E,g with
  |0,_,g=>simp at g;subst g;exact V
  |1,_,g=>simp at g;subst g;exact W
 have q:∀Z∈[Value.string a.1,zf .i64 a.2],Z.oneCell'=true:=by intro D n;simp at n;rcases n with rfl|rfl<;>rfl
 obtain ⟨i,l,v,L,N,_⟩:=run_append_own (P:=zt) w k 39 c.type 43 B (.agg #[.string ⟨#[]⟩,.int .i64 0]) 2 24 zh r A x z rfl (by decide) d b.length (aV b) u ⟨f,0,none⟩ 1 m [.string a.1,.int .i64 a.2] rfl s q (by unfold maxLen;omega) (by omega) O;have R:jJ w d i:=by
  by_cases y:d.ownBlock=none
  ·have S:d=.slice none 0 0/\b.length=0:=by
    obtain ⟨_,p|⟨f,a0,a1,rfl,_⟩⟩:=u
    ·exact p
    ·simp [zo] at y
   obtain ⟨rfl,a2⟩:=S;obtain ⟨a4,a5,F,Y,_⟩:=run_append_own (P:=zt) w w.heap.size 39 c.type 43 B (.agg #[.string ⟨#[]⟩,.int .i64 0]) 2 24 zh r A x z rfl (by decide) (.slice none 0 0) 0 [] (World.ownsRow_nil _ _ _ _) ⟨f,0,none⟩ 1 m [.string a.1,.int .i64 a.2] rfl s q (by unfold maxLen;omega) (by omega) (zx _);rw [v] at F;injection F with e1 e2;subst e1;subst e2;cases hb:i.ownBlock with
   |none=>exact zd (by rw [hb,y])
   |some g'=>exact zr ⟨g',hb,(cL Y g' hb).1⟩
  ·rcases aBf w k 39 c.type 43 B (.agg #[.string ⟨#[]⟩,.int .i64 0]) 2 24 zh r A x z (by decide) d b.length (aV b) u y ⟨f,0,none⟩ 1 m [.string a.1,.int .i64 a.2] rfl s q (by unfold maxLen;omega) (by omega) v with e|e
   ·exact zd e
   ·exact zr ⟨_,e,zx _⟩
 unfold Oper.wp execOp;simp only [T,resolve,invoke,builtin,Sem.run_bind,Sem.run_pure,Result.andThen_ok,z3,List.map_cons,List.map_nil,U,n,v];exact p i l (by rw [vD];exact L) N R
structure eZ(B:Nat)(N:Value)(w w':World):Prop where
 low:Below B w w'
 nod:∀(k:Nat) (cs:Array Value) (T:TypeId) (fr:Nat×Nat),w.heap[k]?=some (.cells cs T fr)->T≠3->T≠191->N.ownBlock≠some k->w'.heap[k]?=w.heap[k]?
section
variable {B:Nat}{N:Value}{w w1 w2:World}
theorem eZ.refl(B:Nat)(N:Value)(w:World):eZ B N w w:=⟨Below.refl _ _,λ_ _ _ _ _ _ _ _=>rfl⟩
theorem eZ.below(b:eZ B N w w1)(c:aB w1 w2)(l:B<=w1.heap.size):eZ B N w w2:=
 ⟨b.low.trans (c.mono l),λk cs e f d g i j=>by
  have a:=b.nod k cs e f d g i j;rw [c.block k (by rw [d] at a;exact (zz.1 a).1),a]⟩
theorem eZ.grown(i:eZ B N w w1){f:Option Nat}(n:w1.grownBy w2 f)(p:B<=w1.heap.size)(s:∀k,f=some k->B<=k)(r:∀k b a c,f=some k->w1.heap[k]?=some (.cells b a c)->a=3\/a=191\/N.ownBlock=some k\/w.heap.size<=k):eZ B N w w2:=
 ⟨i.low.grown n p s,λk b a c e j l m=>by
  have g:=i.nod k b a c e j l m;have d:=g;rw [e] at d;rw [n.block k (zz.1 d).1 (λo=>?_),g];have u:=(zz.1 e).1;rcases r k b a c o.symm d with q|q|q|q
  ·exact j q
  ·exact l q
  ·exact m q
  ·omega⟩
theorem eZ.ints(e:eZ B N w w1){v:Value}{j:Nat}{k:List Value}(c:w1.ownsRow B 3 1 v j k)(g:w1.grownBy w2 v.ownBlock)(f:B<=w1.heap.size):eZ B N w w2:=by
 refine e.grown g f (λd a=>(cL c d a).1) (λd n l p a b=>zd ?_);obtain ⟨_,⟨rfl,_⟩|⟨q,m,o,rfl,_,i,_⟩⟩:=c
 ·simp [zo] at a
 ·simp [zo] at a;subst a;rw [i] at b;simp at b;exact b.2.1.symm
theorem eZ.nodes(e:eZ B N w w1){c:Value}{k:Nat}{l:List Value}(j:w1.ownsRow B 43 2 c k l)(i:jJ w N c)(g:w1.grownBy w2 c.ownBlock)(f:B<=w1.heap.size):eZ B N w w2:=by
 refine e.grown g f (λd a=>(cL j d a).1) (λd n m o a q=>zr (zr ?_));rcases i with b|⟨p,b,r⟩
 ·exact zd (by rw [<-b,a])
 ·rw [b] at a;simp at a;exact zr (by omega)
theorem eZ.set(e:eZ B N w w1){tb j:Nat}{v:Value}{d:Array Value}(c:w1.heap[tb]?=some (.cells d 191))(l:B<=tb):eZ B N w (w1.setCell ⟨tb,j,none⟩ v):=by have m:=(zz.1 c).1;refine e.grown (cJ w1 ⟨tb,j,none⟩ v) (by omega) (λk a=>by simp at a;omega) (λk g f i a b=>zr (zd ?_));simp at a;subst a;rw [c] at b;simp at b;exact b.2.1.symm
end
theorem aVw:∀{b:Nat},aN t b=true->∀a∈t,-1000000000<=a.2/\a.2<=1000000000:=by
 induction t with
 |nil=>intro b _ a hn;simp at hn
 |cons m r ih=>
  intro b c a hn;cases b with
  |zero=>simp [aN] at c
  |succ b=>
   rw [mQ,Bool.and_eq_true] at c;rcases List.mem_cons.1 hn with rfl|hn
   ·have d:=c.1;unfold dE at d;split at d
    ·simp at d;omega
    ·simp at d;omega
   ·exact ih c.2 a hn
theorem aVx:∀{a:Nat},aN t a=true->∀c∈t,dE c=true:=by
 induction t with
 |nil=>intro a _ c hn;simp at hn
 |cons m r ih=>
  intro a b c hn;cases a with
  |zero=>simp [aN] at b
  |succ a=>
   rw [mQ,Bool.and_eq_true] at b;rcases List.mem_cons.1 hn with rfl|hn
   ·exact b.1
   ·exact ih b.2 c hn
theorem aIu{a:Nd}(c:dE a=true):(if a.1.toList.isEmpty then (0:Int) else a.2)=((aX a:Nat):Int)/\aX a<=5:=by
 unfold dE at c;unfold aX;by_cases b:aM a=true
 ·have:a.1.toList.isEmpty=true:=b;rw [aG this,aG b];simp
 ·have d:¬a.1.toList.isEmpty=true:=b;rw [aF b] at c;rw [aF d,aF b];simp at c;omega
theorem aIv{b:List Nd}{c a:Nat}(f:eM b c)(k:a<c):aL b a<b.length/\aL b (a+1)=aL b a+aL (b.drop (aL b a)) 1:=by refine ⟨?_,sW b a 1⟩;have g:=(tZ b a (c-a)).1 (by rw [show a+(c-a)=c by omega];exact f);obtain ⟨d,i⟩ : ∃d,c-a=d+1:=⟨c-a-1,by omega⟩;have e:=g.2;rw [i] at e;have l:=aBj e;have j:=rS (b.drop (aL b a)) (d+1);rw [ze] at j;omega
def fV(w:World)(mp:Nat)(M:List Tg):Prop:=∃b a,w.ownsMap zt 212 fK mp b a/\mW a M/\b<=M.length
theorem fV.lt(a:fV w mp M):mp<w.heap.size:=by obtain ⟨d,c,b,_⟩:=a;exact aD3 b
theorem fV.at{w':World}(b:fV w mp M)(f:w'.heap[mp]?=w.heap[mp]?):fV w' mp M:=by obtain ⟨g,a,c,d,e⟩:=b;exact ⟨g,a,aD2 c f,d,e⟩
theorem fV.grown{w':World}{b:Option Nat}(a:fV w mp M)(d:w.grownBy w' b)(e:b≠some mp):fV w' mp M:=a.at (d.block mp a.lt (λc=>e c.symm))
theorem pS{b:Nat}{c:TypeId}{i:Nat}{v:Value}{g:Nat}{j:List Value}(d:w.ownsRow b c i v g j)(f:fV w mp M):v.ownBlock≠some mp:=by
 obtain ⟨q,k,⟨o,m,e,_⟩,_⟩:=f;obtain ⟨_,⟨rfl,_⟩|⟨p,l,n,rfl,_,a,_⟩⟩:=d
 ·simp [zo]
 ·simp [zo];rintro rfl;rw [e] at a;simp at a
section
variable {w w1 w2:World}{B tb mp bx:Nat}{N vn ve vl vs v':Value}{L:List Nd}{E F:List Nat}{S:List Int}{M:List Tg}{s:ByteArray}{x:Int}{o:Obj}
theorem gE{w:World}{tb bx j a:Nat}{b v:Value}(c:w.cell? ⟨bx,a,none⟩=some b)(d:bx≠tb):(w.setCell ⟨tb,j,none⟩ v).cell? ⟨bx,a,none⟩=some b:=
 (cJ w ⟨tb,j,none⟩ v).cell c (by simpa using d)
theorem aVy{k:Nat}(g:cG w1 B tb vn ve vl vs (.map (some mp)) L E F S)(e:fV w1 mp M)(n:eZ B N w w1)(l:B<=w1.heap.size)(r:mp≠tb)(y:w1.cell? ⟨bx,0,none⟩=some (.string s))(z:w1.cell? ⟨bx,1,none⟩=some (.int .i64 x))(i:vl.ownBlock≠some bx)(j:bx≠tb)
  (u:w2.ownsRow B 3 1 v' (F.length+1) (nG F++[.int .i64 k])) (c:(w1.alloc o).grownBy w2 vl.ownBlock) (v:v'.ownBlock=vl.ownBlock\/v'.ownBlock=some (w1.alloc o).heap.size):cG (w2.setCell ⟨tb,2,none⟩ v') B tb vn ve v' vs (.map (some mp)) L E (F++[k]) S/\fV (w2.setCell ⟨tb,2,none⟩ v') mp M/\(w2.setCell ⟨tb,2,none⟩ v').cell? ⟨bx,0,none⟩=some (.string s)/\(w2.setCell ⟨tb,2,none⟩ v').cell? ⟨bx,1,none⟩=some (.int .i64 x)/\eZ B N w (w2.setCell ⟨tb,2,none⟩ v')/\w1.heap.size<=(w2.setCell ⟨tb,2,none⟩ v').heap.size:=by
 have d:aB w1 (w1.alloc o):=(Below.refl _ _).alloc (zx _) o;have b:=g.below d;have f:fV (w1.alloc o) mp M:=e.at (d.block mp e.lt);have A:=c.cell (aD d y) (λa=>i a.symm);have C:=c.cell (aD d z) (λa=>i a.symm);have m:=f.grown c (pS b.rl f);have p:eZ B N w w2:=(n.below d l).ints b.rl c (by simp;omega);have q:w2.heap[tb]?=some (.cells #[vn,ve,vl,vs,.map (some mp)] 191):=by rw [c.block tb b.lt (λa=>dZ b.rl b.box (by decide) a.symm)];exact b.box
 refine ⟨b.leads c u v,m.grown (cJ _ _ _) (by simpa using λa=>r a.symm),gE A j,gE C j,p.set q g.high,?_⟩;have:=c.size;simp [World.setCell] at this ⊢;omega
theorem aVz{i:Nd}(g:cG w1 B tb vn ve vl vs (.map (some mp)) L E F S)(e:fV w1 mp M)(l:eZ B N w w1)(j:B<=w1.heap.size)(q:mp≠tb)(p:jJ w N vn)
  (r:w2.ownsRow B 43 2 v' (L.length+1) (aV (L++[i]))) (b:(w1.alloc o).grownBy w2 vn.ownBlock):cG (w2.setCell ⟨tb,0,none⟩ v') B tb v' ve vl vs (.map (some mp)) (L++[i]) E F S/\fV (w2.setCell ⟨tb,0,none⟩ v') mp M/\eZ B N w (w2.setCell ⟨tb,0,none⟩ v'):=by
 have d:aB w1 (w1.alloc o):=(Below.refl _ _).alloc (zx _) o;have a:=g.below d;have f:fV (w1.alloc o) mp M:=e.at (d.block mp e.lt);have k:=f.grown b (pS a.rn f);have m:eZ B N w w2:=(l.below d j).nodes a.rn p b (by simp;omega);have n:w2.heap[tb]?=some (.cells #[vn,ve,vl,vs,.map (some mp)] 191):=by rw [b.block tb a.lt (λc=>dZ a.rn a.box (by decide) c.symm)];exact a.box
 exact ⟨a.nodes b (by rw [zk];exact r),k.grown (cJ _ _ _) (by simpa using λc=>q c.symm),m.set n g.high⟩
end
theorem aIw(g f mp:Nat)(g3 c4 v9 c5:Value)(a:List Nd)(v:List Nat)(s:List Int)(M:List Tg)(o:Int)(d1:Option Addr)(r2:Nat)(t:List Nd)(w:World)
  (b0:cG w g f g3 c4 v9 c5 (.map (some mp)) a (eN a) v s) (d6:M.map Prod.snd=a) (j2:eT a) (k2:fV w mp M) (k5:v.length=a.length) (k7:s.length=a.length) (B:g<=w.heap.size) (X:mp≠f) (z0:g<=mp)
  (m0:aN t 1=true) (l0:cS w d1 t) (k6:∀m5,d1=some m5->m5.block<g) (y9:a.length+t.length<=1000000) (z2 : -1000<=o/\o<=1000):Calls zt 126 #[.pointer (some ⟨f,0,none⟩),.int .i64 o,.slice d1 t.length r2] w λe g4=>∃J v8 x w0,e=.returned (.int .i64 a.length)/\
   cG g4 g f J v8 x w0 (.map (some mp)) (a++t) (eN (a++t)) (v++iA M o t t.length) (s++zv t.length 0)/\fV g4 mp (M++t.map λp=>(o,p))/\eZ g g3 w g4/\jJ w g3 J:=by
 have i9:M.length=a.length:=by rw [<-d6];simp
 obtain ⟨u3,u4,u5,u6,u7⟩:=b0.cells;have q4:=aA b0;have o1:=aA k2;have q1:=aA l0;have P:=aA m0;have r0:=aA j2;have w8:=aA d6;have p2:=aA k5;have p5:=aA k7;have p4:=aA k6;have p7:=aA i9;obtain ⟨a8,a9,t9⟩:=aY b0.rn;subst t9;clear b0 k2 l0 m0 j2 d6 k5 k7 k6 u4 u5 u6 u7 i9;go_enter Tryz.func126,Tryz.ntmps126;go_wp2;clear u3;go_loopw [19] (λr wr=>∃(b:Nat) (J x:Value),b<=t.length/\r=.int .i64 b/\cG wr g f J c4 x c5 (.map (some mp)) (a++t.take b) (eN a) (v++iA M o t b) s/\fV wr mp (M++(t.take b).map λp=>(o,p))/\eZ g (.slice a8 a.length a9) w wr/\jJ w (.slice a8 a.length a9) J) (λr _=>t.length-(intOf r).toNat);case atStart=>exact ⟨0,_,_,Nat.zero_le _,rfl,by simpa [iA] using q4.o,by simpa using o1.o,eZ.refl _ _ _,jJ.refl _ _⟩
 case round=>
  obtain ⟨b,J,x,e5,rfl,d,u,D,b8⟩:=hrel;by_cases I:b<t.length
  ·have e7:(b:Int)<(t.length:Int):=by omega
   obtain ⟨h6,c,rfl,h7,h8⟩:=q1.o.cell b I;have e1:=p4.o _ rfl;simp only at e1;have r6:=(D.low.cell (p:=⟨h6,c+b*2,none⟩) e1).trans h7;have r7:=(D.low.cell (p:=⟨h6,c+b*2+1,none⟩) e1).trans h8;have p1:aI (v++iA M o t (b+1)=(v++iA M o t b)++[mV (M++(t.take b).map λp=>(o,p)) o t[b]]):=aA (by rw [aVq M o t b I,zi]);have o9:=aA (aVr M o t b I);have p0:aI (a++t.take (b+1)=(a++t.take b)++[t[b]]):=aA (by rw [zm I,zi]);have r1:=aA (aVw P.o t[b] (z6 _));clear h7 h8;generalize t[b]=nd at *;obtain ⟨q,k⟩:=nd;simp only at r6 r7;obtain ⟨Q,R,rfl⟩:=aY d.rn;obtain ⟨m4,g6,f1,d5,l3⟩:=u;have t2:(t.take b).length=b:=by simp;omega
   have b7:(a++t.take b).length=(M++(t.take b).map λp=>(o,p)).length:=by simp [p7.o]
   have k4:(M++(t.take b).map λp=>(o,p)).length<=1000000:=by rw [<-b7];simp;omega
   have u0 : -1000000000<=k/\k<=1000000000:=r1.o;have t3:(v++iA M o t b).length<=1000000:=by rw [zk,aIt,p2.o];omega
   generalize (M++(t.take b).map λp=>(o,p))=Mk at *;generalize (v++iA M o t b)=Fk at *;generalize (a++t.take b)=Lk at *;clear t2;have a7:=aA b8;clear b8;have b5:aB wr (wr.alloc (.cells #[.string q,.int .i64 k] 43)):=(Below.refl _ _).alloc (zx _) _;have w4:(wr.alloc (.cells #[.string q,.int .i64 k] 43)).cell? ⟨wr.heap.size,0,none⟩=some (.string q):=by simp
   have w5:(wr.alloc (.cells #[.string q,.int .i64 k] 43)).cell? ⟨wr.heap.size,1,none⟩=some (.int .i64 k):=by simp
   have T:=d.below b5;have f2:=qP f1 b5;have j7:=D.below b5 (zq B D.low.size);have z5:(wr.alloc (.cells #[.string q,.int .i64 k] 43)).heap.size=wr.heap.size+1:=by simp
   obtain ⟨c1,m6,m7,m8,f5⟩:=T.cells;have A5:=T.soft 2;have A4:=T.soft 0;rw [b7] at c1;have n4:=aA (λ(y:World) (Z:∃n,y=(wr.alloc (.cells #[.string q,.int .i64 k] 43)).drewN n)=>aWe f mp m4 R Q g6 Mk o q k y (by obtain ⟨n,rfl⟩:=Z;exact c1) (by obtain ⟨n,rfl⟩:=Z;exact f5) (qP f2 (aQ Z)) d5 l3 k4 (by omega) u0);have c8:=aA T;have p3:=aA b7;clear b7;have a5:=aA j7;have p8:=aA f2;have p6:=aA d5;have q0:=aA (aD3 f1);have h5:aI (x.ownBlock≠some wr.heap.size/\wr.heap.size≠f):=aA ⟨rM d.rl,by have:=d.lt;omega⟩;clear d T f1 f2 d5 D j7 b5;have w9:=aA (λn=>c8.o.below (wx:=(wr.alloc (.cells #[.string q,.int .i64 k] 43)).drewN n) (aQ ⟨n,rfl⟩));have z9:=c8.o.lt;generalize hW0:wr.alloc (.cells #[.string q,.int .i64 k] 43)=W0 at *;have x0:=aA hW0;have z7:wr.heap.size<W0.heap.size:=by omega
   have q3:=aA (λ(y i:World) (Z:∃n,y=W0.drewN n) (a1:Nat) (L:DataW Unit) (d4:i.ownsMap zt 212 fK mp a1 L) (b1:mW L (Mk++[(o,(q,k))])) (S:a1<=Mk.length+1) (W:y.grownBy i (some mp))=>
    (show fV i mp (Mk++[(o,(q,k))])/\cG i g f (.slice Q Lk.length R) c4 x c5 (.map (some mp)) Lk (eN a) Fk s/\i.cell? ⟨f,2,none⟩=some x/\i.frozen? ⟨f,2,none⟩=false/\i.cell? ⟨wr.heap.size,0,none⟩=some (.string q)/\i.cell? ⟨wr.heap.size,1,none⟩=some (.int .i64 k)/\eZ g (.slice a8 a.length a9) w i/\W0.heap.size<=i.heap.size/\x.ownBlock≠some f from by
     obtain ⟨n,rfl⟩:=Z;have d:=c8.o.below (wx:=W0.drewN n) (aQ ⟨n,rfl⟩);have k9:fV (W0.drewN n) mp Mk:=⟨m4,g6,qP p8.o (aQ ⟨n,rfl⟩),p6.o,l3⟩;have c0:∀{g2:Value} {e:TypeId} {v6 p:Nat} {w6:List Value},(W0.drewN n).ownsRow g e v6 g2 p w6->g2.ownBlock=none\/g2.ownBlock≠some mp:=λt8=>zr (pS t8 k9)
     have C:=d.grown W (by simpa using X) (c0 d.rn) (c0 d.re) (c0 d.rl) (c0 d.rs);have l2:wr.heap.size≠mp:=by have:=q0.o;omega
     exact ⟨⟨a1,L,d4,b1,by simpa using S⟩,C,C.cells.2.2.1,C.soft 2,W.cell w4 (by simpa using l2),W.cell w5 (by simpa using l2),(a5.o.below (aQ ⟨n,rfl⟩) (zq B a5.o.low.size)).grown W (zq B a5.o.low.size) (λb e=>by simp at e;omega) (λb x4 x1 x7 e e5=>by obtain ⟨_,_,⟨x6,x3,t0,_⟩,_⟩:=k9;simp at e;subst e;rw [t0] at e5;simp at e5),W.size,dZ C.rl C.box (by decide)⟩))
   have y0:g<=W0.heap.size:=zq B a5.o.low.size;go_wp2_with fail;go_region_law (first
    |(refine zF (by rfl) 150 _ _ (by rfl) (enters_of Tryz.func150 (by kernel_rfl) rfl) _ (by rfl) (aC n4 _ ⟨1,rfl⟩) ?_;rintro e i ⟨a1,L,rfl,l5,i4,l4,k3⟩;refine ⟨_,rfl,?_⟩;obtain ⟨i5,C,d2,s0,n2,n3,j4,z3,t7⟩:=q3.o _ i ⟨1,rfl⟩ a1 L l5 i4 l4 k3;have t6:f<i.heap.size:=World.block_lt_of_cell? i _ d2;have r5:=(λz=>aD ((Below.refl i.heap.size i).alloc (zx _) z) d2);have h0:=aA i5;have O:=aA C;have g7:=aA j4;clear l5 i4 l4 k3 i5 C j4)
    |(refine aVo (by rfl) _ _ (by rfl) g _ _ _ (by rfl) (O.o.rl.alloc _) O.o.nl t3 (by simp;omega) i.heap.size 1 (mV Mk o (q,k)) (by rfl) (by simp) ?_;intro A7 w2 f3 e3 m1;obtain ⟨m9,n0,rfl⟩:=aY f3;obtain ⟨r3,s1⟩:=O.o.stays2 _ e3))
   all_goals
    obtain ⟨U,i6,B4,B5,j5,z4⟩:=aVy O.o h0.o g7.o (by omega) X n2 n3 h5.o.1 h5.o.2 f3 e3 m1;clear f3 e3 m1 r3 s1 r5 d2 s0 n2 n3 t6 t7;generalize w2.setCell ⟨f,2,none⟩ (.slice m9 (Fk.length+1) n0)=w3 at *;generalize hvl:(Value.slice m9 (Fk.length+1) n0)=vl3 at *;clear hvl O h0 g7;obtain ⟨u8,u9,v0,f6,v1⟩:=U.cells;have A6:=U.soft 0;have z8:=U.lt;have q6:=aA U;have o3:=aA i6;have g9:=aA j5;clear u9 v0 f6 v1 U i6 j5;have t4:Lk.length<=1000000:=by rw [p3.o];exact k4
    have d0:=aA (q6.o.below (wx:=w3.drew) (aQ ⟨1,rfl⟩));have z1:∀z,(w3.alloc z).cell? ⟨f,0,none⟩=some (.slice Q Lk.length R):=λz=>aD ((Below.refl w3.heap.size w3).alloc (zx _) z) u8
    have s6:g<=w3.heap.size:=by omega
    have n6:=aA (g9.o.below (aQ (w1:=w3.drew) ⟨1,rfl⟩) s6);have A0:=g9.o.low.size;have o4:=aA (o3.o.at (w':=w3.drew) rfl);go_wp2_with fail;go_region_law (refine aVv (by rfl) _ _ (by rfl) g _ Lk (by rfl) (d0.o.rn.alloc _) t4 (by simp;omega) w3.heap.size 1 (q,k) (by rfl) (by simp) (by simp) ?_;intro A8 B3 f4 e4 k8;obtain ⟨B1,B2,rfl⟩:=aY f4;obtain ⟨r4,s2⟩:=d0.o.stays0 _ e4);all_goals
     obtain ⟨j1,i7,j6⟩:=aVz d0.o o4.o n6.o (by simp;omega) X a7.o f4 e4;have p9:=aA (a7.o.trans k8 (by simp;omega));have q7:=aA j1;have o5:=aA i7;have n7:=aA j6;clear j1 i7 j6 f4 e4 k8 r4 s2;go_wp2;go_roundw;case rel=>exact ⟨b+1,_,_,by omega,by go_num,by rw [p0.o,p1.o];exact q7.o,by rw [<-o9.o];exact o5.o,n7.o,p9.o⟩
     case measure=>simp [intOf];omega
  ·have e6:b=t.length:=by omega
   subst e6;have e7:¬((t.length:Int)<(t.length:Int)):=by omega
   rw [List.take_length] at d u;have l6:0<t.length:=by
    rcases Nat.eq_zero_or_pos t.length with e|e
    ·have:=List.eq_nil_of_length_eq_zero e;rw [this] at P;have:=P.o;simp [aN] at this
    ·exact e
   have i2:g<=wr.heap.size:=zq B D.low.size;have a7:=aA b8;clear b8;obtain ⟨Q,R,rfl⟩:=aY d.rn;have s9:(eN a).length=a.length:=gL a;obtain ⟨A9,g5,l7,e9,G,m2⟩:=aJ4 wr 33 g c4 (eN a).length t.length _ d.re d.ne l6 (by omega) i2;obtain ⟨a2,a3,rfl⟩:=aY e9;have d9:=zI (by rw [G.block f d.lt (λe=>dZ d.re d.box (by decide) e.symm)];exact d.box);have j:=d.ends G e9 m2;have b2:=(u.grown G (pS d.re u)).grown (cJ g5 ⟨f,1,none⟩ (.slice a2 ((eN a).length+t.length) a3)) (by simpa using λe=>X e.symm);have b6:=(D.ints d.re G i2).set (tb:=f) (j:=1) (v:=.slice a2 ((eN a).length+t.length) a3) (by rw [G.block f d.lt (λe=>dZ d.re d.box (by decide) e.symm)];exact d.box) d.high;have i3:g<=(g5.setCell ⟨f,1,none⟩ (.slice a2 ((eN a).length+t.length) a3)).heap.size:=zq B b6.low.size;obtain ⟨c1,m6,m7,m8,f5⟩:=d.cells;have q8:=aA j;have o6:=aA b2;have n8:=aA b6;have r8:=d9.2.1;have s3:=d9.2.2.2.2 1;generalize hw8g:g5.setCell ⟨f,1,none⟩ (.slice a2 ((eN a).length+t.length) a3)=W8 at *;obtain ⟨B0,n1,l8,f0,H,m3⟩:=aJ4 W8 33 g c5 s.length t.length _ j.rs j.ns l6 (by rw [p5.o];omega) i3;obtain ⟨c2,c3,rfl⟩:=aY f0;have e0:=zI (by rw [H.block f j.lt (λe=>dZ j.rs j.box (by decide) e.symm)];exact j.box);have b3:=j.sizes H f0 m3;have i8:=(b2.grown H (pS j.rs b2)).grown (cJ n1 ⟨f,3,none⟩ (.slice c2 (s.length+t.length) c3)) (by simpa using λe=>X e.symm);have j8:=(b6.ints j.rs H i3).set (tb:=f) (j:=3) (v:=.slice c2 (s.length+t.length) c3) (by rw [H.block f j.lt (λe=>dZ j.rs j.box (by decide) e.symm)];exact j.box) d.high;have f6:=j.cells.2.2.2.1;have r9:=e0.2.2.2.1;have s4:=e0.2.2.2.2 3;have f7:=b3.cells.1;rw [zk] at f7;rw [<-aVs] at b3;have q9:=aA b3;have o7:=aA i8;have n9:=aA j8;have h2:=aA l7;have h3:=aA l8;clear d u D G e9 m2 d9 j b2 b6 H f0 m3 e0 b3 i8 j8 l7 l8 c1 m7 m8 f5 s9;go_wp2_with (first
    |(at_builtin;refine Go.Lib.wpList_append_run _ rfl _ _ _ _ rfl _ _ rfl rfl _ _ (aC h2) ?_)
    |(at_builtin;refine Go.Lib.wpList_append_run _ rfl _ _ _ _ rfl _ _ rfl rfl _ _ (aC h3) ?_)
    |go_in)
   clear f7 r8 s3 r9 s4 f6 m6;generalize n1.setCell ⟨f,3,none⟩ (.slice c2 (s.length+t.length) c3)=W9 at *;clear q8 o6 n8 h2 h3;generalize (.slice c2 (s.length+t.length) c3:Value)=vs9 at *;go_loopw [10] (λr a4=>∃a0:Nat,a0<=t.length/\r=.int .i64 ((a.length:Int)+a0-1)/\cG a4 g f (.slice Q (a++t).length R) (.slice a2 ((eN a).length+t.length) a3) x vs9 (.map (some mp)) (a++t) (eL a t a0) (v++iA M o t t.length) (s++zv t.length 0)/\fV a4 mp (M++t.map λp=>(o,p))/\eZ g (.slice a8 a.length a9) w a4) (λr _=>(intOf r+1-a.length).toNat);case atStart=>exact ⟨t.length,zx _,rfl,q9.o,o7.o,n9.o⟩
   case round=>
    obtain ⟨a0,y6,rfl,d,u,V⟩:=hrel;cases a0 with
    |zero=>
     generalize hA:((a.length:Int)+((0:Nat):Int)-1)=A at *;have x9:A<(a.length:Int):=by omega
     have c9:=aA d;have a6:=aA u;have c7:=aA V;clear hA d u V;go_wp2;go_ret;exact ⟨_,_,_,_,rfl,by rw [<-aVt r0.o];exact c9.o,a6.o,c7.o,a7.o⟩
    |succ c=>
     rename World=>a4
     have b9:c<t.length:=by omega
     obtain ⟨l,d7⟩ : ∃l,l=a.length+c:=⟨_,rfl⟩;have l9:(a.length:Int)+((c+1:Nat):Int)-1=(l:Int):=by omega
     rw [l9];have l1:(a++t)[l]?=some t[c]:=by rw [d7,zy (by omega)];simp [b9]
     have y4:(l:Int)<((a++t).length:Int):=by simp;omega
     have y3:(a.length:Int)<=(l:Int):=by omega
     have y1:(l:Int)<=1000000:=by omega
     obtain ⟨x2,x5,h9,j9⟩:=aFx d.rn;simp at h9;obtain ⟨rfl,rfl⟩:=h9;obtain ⟨x8,rfl,u1,u2⟩:=j9 l _ l1;obtain ⟨f7,v2,v3,v4,v5⟩:=d.cells;have e2:=(wJ P.o) c t[c] (zg b9);have k1:aL (t.drop c) 1=1+aL (t.drop (c+1)) (aX t[c]):=by rw [zj b9];simp [aL]
     have h4:=aA (aVu a t c b9);rw [k1] at h4;have e8:=aVx P.o t[c] (z6 _);have A1:aX t[c]<=1000000:=by have:=aIu e8;omega
     have c6:=aA (λy=>aBz t[c].1 t[c].2 y);rw [(aIu e8).1] at c6;have w7:=aA e2;have o0:=aA (zG a t (c+1));have t5:=rS (t.drop (c+1)) (aX t[c]);rw [ze] at t5;have E:=aA d7;have o8:=aA (λ(r:Nat) (t1:r<aX t[c])=>aIv e2 t1);generalize aX t[c]=m at *;generalize t[c]=nd at *;obtain ⟨A2,A3⟩:=nd;simp only at u1 u2 c6;have c9:=aA d;have a6:=aA u;have c7:=aA V;have s5:g<=a4.heap.size:=zq B V.low.size;have y8:(a++t).length<=1000000:=by simp;omega
     generalize (a++t).length=N at *;clear d u V d7 l1 e2 k1 e8 l9 j9 v2 v3 v4 v5;go_wp2_with (first
      |(go_at_call 92;refine (aC c6 _).mono ?_;rintro e w1 ⟨rfl,b4⟩;have j0:=c9.o.below b4;have F:=aA j0;have h1:=aA (a6.o.at (b4.block mp a6.o.lt));have g8:=aA (c7.o.below b4 s5);clear b4 j0)
      |go_in)
     go_loopw [11,88] (λe r y=>∃b:Nat,b<=m/\r=.int .i64 b/\e=.int .i64 ((a.length+(c+1+aL (t.drop (c+1)) b):Nat):Int)/\y=w1) (λ_ r _=>m-(intOf r).toNat);case atStart=>exact ⟨0,Nat.zero_le _,rfl,by simp [E.o];omega,rfl⟩
     case round=>
      obtain ⟨b,y7,rfl,rfl,rfl⟩:=hrel;by_cases I:b<m
      ·have e7:(b:Int)<(m:Int):=by omega
       obtain ⟨i0,i1⟩:=o8.o b I;rw [ze] at i0;rw [List.drop_drop] at i1;have k0:=o0.o (c+1+aL (t.drop (c+1)) b) (by omega) (by omega);obtain ⟨d3,rfl,d4,b1,S⟩:=F.o.endOf k0;obtain ⟨f8,v7,f9,g0,g1⟩:=F.o.cells;have s8:(a.length+(c+1+aL (t.drop (c+1)) b):Nat)<(eN a).length+t.length:=by rw [gL];omega
       have q2:aI (a.length+(c+1+aL (t.drop (c+1)) b+aL (t.drop (c+1+aL (t.drop (c+1)) b)) 1)=a.length+(c+1+aL (t.drop (c+1)) (b+1))):=aA (by omega);generalize a.length+(c+1+aL (t.drop (c+1)) b+aL (t.drop (c+1+aL (t.drop (c+1)) b)) 1)=Y at *;generalize a.length+(c+1+aL (t.drop (c+1)) b)=z at *;have y5:(z:Int)<((eN a).length:Int)+(t.length:Int):=by omega
       clear i0 i1 k0 b1 S f8 f9 g0 g1 s8;go_wp2;go_roundw;case rel=>exact ⟨b+1,by omega,by go_num,by rw [<-q2.o],by first|rfl|trivial⟩
       case measure=>simp [intOf];omega
      ·have e6:b=m:=by omega
       subst e6;have e7:¬((b:Int)<(b:Int)):=by omega
       obtain ⟨d3,rfl,d4,b1,S⟩:=F.o.endOf (aCt a t (c+1) l (by have:=E.o;omega) (by have:=E.o;omega));obtain ⟨f8,v7,f9,g0,g1⟩:=F.o.cells;have d8:=F.o.endAt l (a.length+(c+(1+aL (t.drop (c+1)) b)));rw [show (eL a t (c+1)).set l=(eL a t (c+1)).set (a.length+c) by rw [E.o],h4.o] at d8;have j3:a.length+(c+1+aL (t.drop (c+1)) b)=a.length+(c+(1+aL (t.drop (c+1)) b)):=by omega
       rw [j3];clear j3;have s7:l<(eN a).length+t.length:=by rw [gL];have:=E.o;omega
       have o2:=aA (h1.o.grown (cJ _ ⟨d3,l,none⟩ (.int .i64 ((a.length+(c+(1+aL (t.drop (c+1)) b)):Nat):Int))) (by
        have:=pS F.o.re h1.o;simpa [zo] using this))
       have n5:=aA (g8.o.ints F.o.re (cJ _ ⟨d3,l,none⟩ (.int .i64 ((a.length+(c+(1+aL (t.drop (c+1)) b)):Nat):Int))) (zq B g8.o.low.size));generalize a.length+(c+(1+aL (t.drop (c+1)) b))=z at *;have q5:=aA d8;have y2:(l:Int)<((eN a).length:Int)+(t.length:Int):=by omega
       clear d8 S f8 f9 g0 g1 s7;go_wp2;go_roundw;case rel=>exact ⟨c,by omega,by have:=E.o;go_num,q5.o,o2.o,n5.o⟩
       case measure=>have:=E.o;simp [intOf];omega
def kC(a:List Nd)(b:Nat->Nat):Prop:=∀p,(aJ a).named p->(aJ a).named (b p)
def lI(c:List Nd)(f d:Nat->Nat)(g i:Nat)(k:Bool):Prop:=
 ∀(e j:Nat->Nat->Prop),(∀a b,f a=f b->Cl (aJ c) e a b)->Cl (aJ c) e g i->eA (aJ c) (λa b=>f a=f b) (sY j g i)->
  (k=true->d g=d i/\(∀a b,d a=d b->Cl (aJ c) e a b)/\eA (aJ c) (λa b=>d a=d b) j)/\(k=false->¬lE (aJ c) (Cl (aJ c) e))
structure aW0(w:World)(B tb:Nat)(vn ve vl vs vm:Value)(L:List Nd)(F:List Nat)(S:List Int)(rt:Nat->Nat)(a b:Nat)(ok:Bool)(w':World)(F':List Nat)(rt' d':Nat->Nat):Prop where
 tm:bH w' B tb vn ve vl vs vm L F' S
 forest:fR F' rt' d'
 named:kC L rt'
 fewer:mM F'<=mM F
 far:w.grownBy w' vl.ownBlock
 mono:∀i j,rt i=rt j->rt' i=rt' j
 sem:lI L rt rt' a b ok
section
variable {L:List Nd}{rt:Nat->Nat}{a b:Nat}
theorem lI.same(c:rt a=rt b):lI L rt rt a b true:=λg i f j e=>⟨λ_=>⟨c,f,e.same c⟩,λd=>by cases d⟩
theorem aW1{u v:Nat}(e:u=rt a)(f:v=rt b):mN (λc d=>rt c=rt d) (λc d=>fL rt u v c=fL rt u v d) a b:=by subst e;subst f;intro g i;exact aG1 g i
theorem aCu{f g:Nat}(i:f=rt b)(j:g=rt a):mN (λc d=>rt c=rt d) (λc d=>fL rt f g c=fL rt f g d) a b:=by
 subst i;subst j;intro k l;show fL rt (rt b) (rt a) k=fL rt (rt b) (rt a) l↔_;rw [aG1];constructor
 ·rintro (e|e|e)
  ·exact zd e
  ·exact zr (zr e)
  ·exact zr (zd e)
 ·rintro (e|e|e)
  ·exact zd e
  ·exact zr (zr e)
  ·exact zr (zd e)
theorem mN.sound{m n e:Nat->Nat->Prop}(q:mN m n a b)(f:∀c d,m c d->e c d)(l:∀c d,e c d->e d c)(g:∀c d p,e c d->e d p->e c p)(o:e a b):∀c d,n c d->e c d:=by
 intro c d i;rcases (q c d).1 i with i|⟨j,k⟩|⟨j,k⟩
 ·exact f _ _ i
 ·exact g _ _ _ (f _ _ j) (g _ _ _ o (l _ _ (f _ _ k)))
 ·exact g _ _ _ (f _ _ j) (g _ _ _ (l _ _ o) (l _ _ (f _ _ k)))
theorem lI.var{g:Nat->Nat}(d:mN (λe f=>rt e=rt f) (λe f=>g e=g f) a b)(m:(∀c,rt c=rt a->¬(aJ L).named c)\/∀c,rt c=rt b->¬(aJ L).named c):lI L rt g a b true:=λn o l j k=>
 ⟨λ_=>⟨d.ab (qF rt),d.sound l (λ_ _=>Cl.symm) (λ_ _ _=>Cl.trans) j,k.var (qF rt) d m⟩,λi=>by cases i⟩
theorem lI.clash{m:Nat->Nat}(c:∀e,rt (rt e)=rt e)(k:(aJ L).named (rt a))(l:(aJ L).named (rt b))(i:(aJ L).lab (rt a)≠(aJ L).lab (rt b)):lI L rt m a b false:=λn o d g p=>
 ⟨λf=>(by cases f),λ_ j=>i (j (rt a) (rt b) ((d _ _ (c a)).trans (g.trans (d _ _ (c b).symm))) k l)⟩
theorem kC.var(e:kC L rt){d:Nat}(g:¬(aJ L).named d):∀c,rt c=d->¬(aJ L).named c:=by rintro c rfl f;exact g (e c f)
theorem kC.join(d:kC L rt){u v:Nat}(e:(aJ L).named u->(aJ L).named v):kC L (fL rt u v):=by
 intro g f;have:=d g f;unfold fL;split
 ·rename_i c;rw [c] at this;exact e this
 ·exact this
theorem wK(rt:Nat->Nat)(u v:Nat):∀c d,rt c=rt d->fL rt u v c=fL rt u v d:=by intro c d e;unfold fL;rw [e]
end
theorem aCv(b a:Nat)(w:World):Calls zt 165 #[.pointer (some ⟨b,0,none⟩),.int .i64 a] w λc d=>c=.returned (.func (.func 171) #[] #[.pointer (some ⟨w.heap.size+1,0,none⟩),.pointer (some ⟨w.heap.size,0,none⟩)])/\
   d=(w.alloc (.cells #[.pointer (some ⟨b,0,none⟩)] 173)).alloc (.cells #[.int .i64 a] 3):=by
 go_enter Tryz.func165,Tryz.ntmps165;go_wp2;go_ret;exact ⟨rfl,rfl⟩
