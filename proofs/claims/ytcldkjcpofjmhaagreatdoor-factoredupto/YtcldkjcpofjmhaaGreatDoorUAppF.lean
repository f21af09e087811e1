import Derived.Test.YtcldkjcpofjmhaaGreatDoorUTmF
import Derived.RangeFuncOwn
import Derived.Deep.RegionHeld3
open Array renaming getElem?_eq_some_iff→zz
open List renaming getElem?_append_right→zx,getElem?_append_left→zw,replicate→zv,getElem?_eq_some_iff→zs,getElem?_eq_none→zp,drop_eq_nil_of_le→zn,take_succ_eq_append_getElem→zm,drop_append_of_le_length→zl,length_append→zk,drop_eq_getElem_cons→zj,append_assoc→zi,getElem?_eq_getElem→zg,length_drop→ze,ext_getElem?→za,getElem?_map→z2,map_toArray→z3,drop_append→z4,getElem_mem→z6
open Nat renaming le_refl→zy,le_trans→zq
open Or renaming inr→zr,inl→zd
namespace Go.Proofs.YtcldkjcpofjmhaaGreatDoor
open Region renaming wanted→zu
open _root_.Go.Proofs.Tryz renaming prog→zt,underlying37→zh,underlying25→zb
open Value renaming ownBlock→zo,int→zf
set_option maxHeartbeats 4000000
set_option maxRecDepth 100000
open Go.RowKit Go.Shelf Go.WideMaps
variable{t:List Nd}{M:List Tg}{mp:Nat}{w:World}
theorem aCv{ops:Array Oper}{o:Oper}{a:Act}{w:World}{K:Act->World->Prop}{Q:Exit->Act->World->Prop}{E:Prop}(hgd:o.guard=none)(f:Nat)(ops':Array Operand)(ts:Array TypeId)
  (ho:o.op=.call {callee:=.value (.func f),args:=ops',argTypes:=ts}) (he:∀args w,(callFunc f args).run zt w=.ok (.enter f args) w) (vals:Array Value) (hv:ops'.toList.map a.eval=vals.toList) {R:Ending->World->Prop} (hc:Calls zt f vals w R)
  (h:∀e w',R e w'->∃v,e=.returned v/\K (a.put o.dst v) w') :
  if zu o (yielded ops a.tmps)=true then Oper.wp zt o a w K Q else E:=by
 have hw:zu o (yielded ops a.tmps)=true:=by simp [zu,hgd]
 rw [if_pos hw];have hr:(execOp a.eval o).run zt w=.ok (.enter f vals) w:=by
  have hv:ops'.map a.eval=vals:=by apply Array.ext';rw [Array.toList_map];exact hv
  subst hv;simp [execOp,ho,resolve,invoke,he,Act.eval,Deferred.ofValue]
 unfold Oper.wp;rw [hr,Oper.upon_enter];exact hc.mono λe w' hR=>by
  obtain ⟨v,rfl,hk⟩:=h e w' hR;exact hk
theorem aJ0(w:World)(ty:TypeId)(base:Nat)(v:Value)(n:Nat)(xs:List Value)(hown:w.ownsRow base 3 1 v n xs)(hv:v.ownBlock≠none)(hn:n<=1000000)(hbase:base<=w.heap.size)(g c:Nat)(u:Int)(hu:w.cell? ⟨g,0,none⟩=some (.int .i64 u)) :
  ∃v' w',(Builtin.append_ #[25,25] ty #[v,.slice (some ⟨g,0,none⟩) 1 c]).run zt w=.ok v' w'/\w'.ownsRow base 3 1 v' (n+1) (xs++[.int .i64 u])/\w.grownBy w' v.ownBlock/\(v'.ownBlock=v.ownBlock\/v'.ownBlock=some w.heap.size):=by
 obtain ⟨i,hi,hz,hs,hy⟩:=info_parts pB;have hnews:∀(j:Nat) (u':Value),[zf .i64 u][j]?=some u'->w.cell? ((⟨g,0,none⟩ : Addr).add j)=some u':=by
  intro j u' hj;have hj0:j=0:=by have:=(zs.1 hj).1;simp at this;exact this
  subst hj0;simp at hj;subst hj;exact hu
 have h1:∀x∈[zf .i64 u],x.oneCell'=true:=by intro x hx;simp at hx;subst hx;rfl
 obtain ⟨v',w',hr,ho,hg,_⟩:=run_append_own (P:=zt) w base 25 ty 3 i (.int .i64 0) 1 8 zb hi hz hs hy rfl (by decide) v n xs hown ⟨g,0,none⟩ 1 c [.int .i64 u] rfl hnews h1 (by unfold maxLen;omega) (by omega) hbase;exact ⟨v',w',hr,ho,hg,wR w base 25 ty 3 i (.int .i64 0) 1 8 zb hi hz hs hy (by decide) v n xs hown hv ⟨g,0,none⟩ 1 c [.int .i64 u] rfl hnews h1 (by unfold maxLen;omega) (by omega) hr⟩
theorem aUw{ops:Array Oper}{o:Oper}{a:Act}{w:World}{K:Act->World->Prop}{Q:Exit->Act->World->Prop}{E:Prop}(hgd:o.guard=none)(s x:Operand)
  (ho:o.op=.call {callee:=.builtin .append,args:=#[s,x],argTypes:=#[25,25]}) (base:Nat) (v:Value) (n:Nat) (xs:List Value) (hs:a.eval s=v) (hown:w.ownsRow base 3 1 v n xs) (hv:v.ownBlock≠none) (hn:n<=1000000) (hbase:base<=w.heap.size)
  (g c:Nat) (u:Int) (hx:a.eval x=.slice (some ⟨g,0,none⟩) 1 c) (hu:w.cell? ⟨g,0,none⟩=some (.int .i64 u))
  (h:∀v' w',w'.ownsRow base 3 1 v' (n+1) (xs++[.int .i64 u])->w.grownBy w' v.ownBlock->(v'.ownBlock=v.ownBlock\/v'.ownBlock=some w.heap.size)->K (a.put o.dst v') w') :
  if zu o (yielded ops a.tmps)=true then Oper.wp zt o a w K Q else E:=by
 have hw:zu o (yielded ops a.tmps)=true:=by simp [zu,hgd]
 rw [if_pos hw];obtain ⟨v',w',hr,h1,h2,h3⟩:=aJ0 w o.type base v n xs hown hv hn hbase g c u hu;unfold Oper.wp execOp;simp only [ho,resolve,invoke,builtin,Sem.run_bind,Sem.run_pure,Result.andThen_ok,z3,List.map_cons,List.map_nil,hs,hx,hr];exact h v' w' h1 h2 h3
theorem qZ{q:Nat}(h:aW t q=true):dE t:=by
 intro i n hi;have hf:=aMb t q h;have he:aH t q=t.length:=by have:=zI t q [] h;simpa using this
 have hil:=(zs.1 hi).1;obtain ⟨m,h1,h2,_⟩:=aB2 t q i hf (by omega);rw [hi] at h1;simp at h1;subst h1;exact h2
theorem dE.append{L:List Nd}(h:dE L)(k:dE t):dE (L++t):=by
 intro i n hi;by_cases hlt:i<L.length
 ·rw [zw hlt] at hi;rw [zl (by omega)];exact aMc _ _ _ (h i n hi)
 ·rw [zx (by omega)] at hi;rw [z4,zn (by omega),List.nil_append,show i+1-L.length=(i-L.length)+1 by omega];exact k _ n hi
theorem dE.one{L:List Nd}(h:dE L){p:Nat}(hp:p<L.length):fA (L.drop p) 1:=by rw [zj hp];simp only [fA];rw [Nat.zero_add];exact h p _ (zg hp)
theorem aUx{L:List Nd}(h:dE L):eG (L++t)=eG L++(eG t).map (· + L.length):=by
 apply za;intro p;by_cases hp:p<L.length
 ·rw [vQ _ _ (by simp;omega),zw (by rw [gV];exact hp),vQ _ _ hp,zl (by omega),aEq _ _ _ (h.one hp)]
 ·rw [zx (by rw [gV];omega),gV];by_cases hq:p-L.length<t.length
  ·rw [vQ _ _ (by simp;omega),z2,vQ _ _ hq,z4,zn (by omega),List.nil_append];simp;omega
  ·rw [zp (by rw [gV];simp;omega),zp (by simp [gV];omega)]
def iA(M:List Tg)(o:Int)(t:List Nd)(k:Nat):List Nat:=(List.range k).map λj=>mO (M++(t.take j).map λn=>(o,n)) o (t.getD j (⟨#[]⟩,0))
theorem aJ1(M:List Tg)(o:Int)(t:List Nd)(k:Nat):(iA M o t k).length=k:=by simp [iA]
theorem aUy(M:List Tg)(o:Int)(t:List Nd)(k:Nat)(h:k<t.length):iA M o t (k+1)=iA M o t k++[mO (M++(t.take k).map λn=>(o,n)) o t[k]]:=by simp [iA,List.range_succ,h]
theorem aUz(M:List Tg)(o:Int)(t:List Nd)(k:Nat)(h:k<t.length):(M++(t.take k).map λn=>(o,n))++[(o,t[k])]=M++(t.take (k+1)).map λn=>(o,n):=by rw [zm h,List.map_append,zi];rfl
def eL(L t:List Nd)(j:Nat):List Nat:=eG L++(zv j 0++((eG t).map (· + L.length)).drop j)
theorem aCw(L t:List Nd)(j:Nat)(h:j<=t.length):(eL L t j).length=L.length+t.length:=by simp [eL,gV];omega
theorem aV0(L t:List Nd):eL L t t.length=eG L++zv t.length 0:=by unfold eL;rw [zn (by simp [gV]),List.append_nil]
theorem aV1{L:List Nd}(h:dE L):eL L t 0=eG (L++t):=by rw [aUx h];simp [eL]
theorem zW(L t:List Nd)(j e:Nat)(h1:j<=e)(h2:e<t.length):(eL L t j)[L.length+e]?=some (L.length+(e+aH (t.drop e) 1)):=by unfold eL;rw [zx (by rw [gV];omega),gV,zx (by simp;omega),List.getElem?_drop];rw [show j+(L.length+e-L.length-(zv j 0).length)=e by simp;omega,z2,vQ _ _ h2];simp;omega
theorem aCx(L t:List Nd)(j p:Nat)(h1:L.length<=p)(h2:p<L.length+j):(eL L t j)[p]?=some 0:=by unfold eL;rw [zx (by rw [gV];omega),gV,zw (by simp;omega),List.getElem?_replicate,if_pos (by omega)]
theorem aV2(L t:List Nd)(q:Nat)(h:q<t.length):(eL L t (q+1)).set (L.length+q) (L.length+(q+aH (t.drop q) 1))=eL L t q:=by
 apply za;intro p;rw [List.getElem?_set];by_cases hp:L.length+q=p
 ·subst hp;rw [if_pos rfl,if_pos (by rw [aCw _ _ _ (by omega)];omega),zW _ _ _ _ (zy _) h]
 ·rw [if_neg hp];by_cases hlo:p<L.length
  ·unfold eL;rw [zw (by rw [gV];exact hlo),zw (by rw [gV];exact hlo)]
  ·by_cases hmid:p<L.length+q
   ·rw [aCx _ _ _ _ (by omega) (by omega),aCx _ _ _ _ (by omega) (by omega)]
   ·by_cases hhi:p<L.length+t.length
    ·have e:p=L.length+(p-L.length):=by omega
     rw [e,zW _ _ _ _ (by omega) (by omega),zW _ _ _ _ (by omega) (by omega)]
    ·rw [zp (by rw [aCw _ _ _ (by omega)];omega),zp (by rw [aCw _ _ _ (by omega)];omega)]
structure cB(w:World)(B tb:Nat)(vn ve vl vs vm:Value)(L:List Nd)(E F:List Nat)(S:List Int):Prop where
 box:w.heap[tb]?=some (.cells #[vn,ve,vl,vs,vm] 137)
 high:B<=tb
 rn:w.ownsRow B 36 2 vn L.length (aG L)
 re:w.ownsRow B 3 1 ve E.length (iP E)
 rl:w.ownsRow B 3 1 vl F.length (iP F)
 rs:w.ownsRow B 3 1 vs S.length (S.map (zf .i64))
 ab:ve.ownBlock≠vl.ownBlock
 ac:ve.ownBlock≠vs.ownBlock
 bc:vl.ownBlock≠vs.ownBlock
 ne:ve.ownBlock≠none
 nl:vl.ownBlock≠none
 ns:vs.ownBlock≠none
section
variable {w:World}{B tb:Nat}{vn ve vl vs vm:Value}{L:List Nd}{E F:List Nat}{S:List Int}
theorem cB.below(h:cB w B tb vn ve vl vs vm L E F S){wx:World}(k:Below w.heap.size w wx):cB wx B tb vn ve vl vs vm L E F S:=
 ⟨by rw [k.block tb (zz.1 h.box).1,h.box],h.high,aU h.rn k (zy _),aU h.re k (zy _),aU h.rl k (zy _),aU h.rs k (zy _),h.ab,h.ac,h.bc,h.ne,h.nl,h.ns⟩
theorem cB.lt(h:cB w B tb vn ve vl vs vm L E F S):tb<w.heap.size:=(zz.1 h.box).1
theorem cB.cells(h:cB w B tb vn ve vl vs vm L E F S):w.cell? ⟨tb,0,none⟩=some vn/\w.cell? ⟨tb,1,none⟩=some ve/\w.cell? ⟨tb,2,none⟩=some vl/\w.cell? ⟨tb,3,none⟩=some vs/\w.cell? ⟨tb,4,none⟩=some vm:=by simp [World.cell?,h.box]
theorem cB.soft(h:cB w B tb vn ve vl vs vm L E F S)(j:Nat):w.frozen? ⟨tb,j,none⟩=false:=by simp [World.frozen?,h.box]
theorem cB.grown(h:cB w B tb vn ve vl vs vm L E F S){wx:World}{o:Option Nat}(hg:w.grownBy wx o)(h0:o≠some tb)(h1:vn.ownBlock=none\/vn.ownBlock≠o)(h2:ve.ownBlock=none\/ve.ownBlock≠o)(h3:vl.ownBlock=none\/vl.ownBlock≠o)(h4:vs.ownBlock=none\/vs.ownBlock≠o):cB wx B tb vn ve vl vs vm L E F S:=
 ⟨by rw [hg.block tb (zz.1 h.box).1 (λe=>h0 e.symm),h.box],h.high,cH h.rn hg h1,cH h.re hg h2,cH h.rl hg h3,cH h.rs hg h4,h.ab,h.ac,h.bc,h.ne,h.nl,h.ns⟩
theorem zX{w:World}{tb:Nat}{c0 c1 c2 c3 c4 x:Value}{T:TypeId}(h:w.heap[tb]?=some (.cells #[c0,c1,c2,c3,c4] T)) :
  ((w.setCell ⟨tb,0,none⟩ x).heap[tb]?=some (.cells #[x,c1,c2,c3,c4] T))/\((w.setCell ⟨tb,1,none⟩ x).heap[tb]?=some (.cells #[c0,x,c2,c3,c4] T))/\((w.setCell ⟨tb,2,none⟩ x).heap[tb]?=some (.cells #[c0,c1,x,c3,c4] T))/\((w.setCell ⟨tb,3,none⟩ x).heap[tb]?=some (.cells #[c0,c1,c2,x,c4] T)):=by
 have hlt:=(zz.1 h).1;have hv:=(zz.1 h).2;refine ⟨?_,?_,?_,?_⟩ <;> simp [World.setCell,Array.getElem?_modify,h]
theorem cB.stays(h:cB w B tb vn ve vl vs vm L E F S)(o:Obj){w2:World}{r:Option Nat}(hg:(w.alloc o).grownBy w2 r)(hr:r≠some tb):w2.heap[tb]?=some (.cells #[vn,ve,vl,vs,vm] 137):=by rw [hg.block tb (by have:=h.lt;simp;omega) (λe=>hr e.symm)];exact (h.below ((Below.refl _ _).alloc (zy _) o)).box
theorem zY{w:World}{tb:Nat}{c0 c1 c2 c3 c4:Value}{T:TypeId}(h:w.heap[tb]?=some (.cells #[c0,c1,c2,c3,c4] T)):w.cell? ⟨tb,0,none⟩=some c0/\w.cell? ⟨tb,1,none⟩=some c1/\w.cell? ⟨tb,2,none⟩=some c2/\w.cell? ⟨tb,3,none⟩=some c3/\∀j,w.frozen? ⟨tb,j,none⟩=false:=by simp [World.cell?,World.frozen?,h]
theorem cB.stays2(h:cB w B tb vn ve vl vs vm L E F S)(o:Obj){w2:World}(hg:(w.alloc o).grownBy w2 vl.ownBlock):w2.cell? ⟨tb,2,none⟩=some vl/\w2.frozen? ⟨tb,2,none⟩=false:=by have:=zY (h.stays o hg (cE h.rl h.box (by decide)));exact ⟨this.2.2.1,this.2.2.2.2 2⟩
theorem cB.stays0(h:cB w B tb vn ve vl vs vm L E F S)(o:Obj){w2:World}(hg:(w.alloc o).grownBy w2 vn.ownBlock):w2.cell? ⟨tb,0,none⟩=some vn/\w2.frozen? ⟨tb,0,none⟩=false:=by have:=zY (h.stays o hg (cE h.rn h.box (by decide)));exact ⟨this.1,this.2.2.2.2 0⟩
theorem cB.leads(h:cB w B tb vn ve vl vs vm L E F S){w1:World}{v':Value}{x:Nat}(hg:w.grownBy w1 vl.ownBlock)(ho:w1.ownsRow B 3 1 v' (F.length+1) (iP F++[.int .i64 x]))(hw:v'.ownBlock=vl.ownBlock\/v'.ownBlock=some w.heap.size) :
  cB (w1.setCell ⟨tb,2,none⟩ v') B tb vn ve v' vs vm L E (F++[x]) S:=by
 have hb1:w1.heap[tb]?=some (.cells #[vn,ve,vl,vs,vm] 137):=by rw [hg.block tb h.lt (λe=>cE h.rl h.box (by decide) e.symm),h.box]
 have hn:vn.ownBlock=none\/vn.ownBlock≠vl.ownBlock:=bW h.rn h.rl (by decide);refine ⟨(zX hb1).2.2.1,h.high,eC (cH h.rn hg hn) hb1 (by decide),eC (cH h.re hg (zr h.ab)) hb1 (by decide),?_,eC (cH h.rs hg (zr λe=>h.bc e.symm)) hb1 (by decide),?_,h.ac,?_,h.ne,?_,h.ns⟩
 ·have:=eC (j:=2) (x:=v') ho hb1 (by decide);simpa [iP] using this
 ·rcases hw with e | e
  ·rw [e];exact h.ab
  ·rw [e];exact qK h.re
 ·rcases hw with e | e
  ·rw [e];exact h.bc
  ·rw [e];exact λe'=>qK h.rs e'.symm
 ·rcases hw with e | e
  ·rw [e];exact h.nl
  ·rw [e];simp
theorem cB.nodes(h:cB w B tb vn ve vl vs vm L E F S){w1:World}{v':Value}{x:Nd}(hg:w.grownBy w1 vn.ownBlock)(ho:w1.ownsRow B 36 2 v' (L++[x]).length (aG (L++[x]))) :
  cB (w1.setCell ⟨tb,0,none⟩ v') B tb v' ve vl vs vm (L++[x]) E F S:=by
 have hb1:w1.heap[tb]?=some (.cells #[vn,ve,vl,vs,vm] 137):=by rw [hg.block tb h.lt (λe=>cE h.rn h.box (by decide) e.symm),h.box]
 refine ⟨(zX hb1).1,h.high,eC ho hb1 (by decide),eC (cH h.re hg (bW h.re h.rn (by decide))) hb1 (by decide),eC (cH h.rl hg (bW h.rl h.rn (by decide))) hb1 (by decide),eC (cH h.rs hg (bW h.rs h.rn (by decide))) hb1 (by decide),h.ab,h.ac,h.bc,h.ne,h.nl,h.ns⟩
theorem cB.ends(h:cB w B tb vn ve vl vs vm L E F S){w1:World}{v':Value}{k:Nat}(hg:w.grownBy w1 ve.ownBlock)(ho:w1.ownsRow B 3 1 v' (E.length+k) (iP E++zv k (.int .i64 0)))(hw:v'.ownBlock=ve.ownBlock\/v'.ownBlock=some w.heap.size) :
  cB (w1.setCell ⟨tb,1,none⟩ v') B tb vn v' vl vs vm L (E++zv k 0) F S:=by
 have hb1:w1.heap[tb]?=some (.cells #[vn,ve,vl,vs,vm] 137):=by rw [hg.block tb h.lt (λe=>cE h.re h.box (by decide) e.symm),h.box]
 refine ⟨(zX hb1).2.1,h.high,eC (cH h.rn hg (bW h.rn h.re (by decide))) hb1 (by decide),?_,eC (cH h.rl hg (zr λe=>h.ab e.symm)) hb1 (by decide),eC (cH h.rs hg (zr λe=>h.ac e.symm)) hb1 (by decide),?_,?_,h.bc,?_,h.nl,h.ns⟩
 ·have:=eC (j:=1) (x:=v') ho hb1 (by decide);simpa [iP] using this
 ·rcases hw with e | e
  ·rw [e];exact h.ab
  ·rw [e];exact λe'=>qK h.rl e'.symm
 ·rcases hw with e | e
  ·rw [e];exact h.ac
  ·rw [e];exact λe'=>qK h.rs e'.symm
 ·rcases hw with e | e
  ·rw [e];exact h.ne
  ·rw [e];simp
theorem cB.sizes(h:cB w B tb vn ve vl vs vm L E F S){w1:World}{v':Value}{k:Nat}(hg:w.grownBy w1 vs.ownBlock)(ho:w1.ownsRow B 3 1 v' (S.length+k) (S.map (zf .i64)++zv k (.int .i64 0)))(hw:v'.ownBlock=vs.ownBlock\/v'.ownBlock=some w.heap.size) :
  cB (w1.setCell ⟨tb,3,none⟩ v') B tb vn ve vl v' vm L E F (S++zv k 0):=by
 have hb1:w1.heap[tb]?=some (.cells #[vn,ve,vl,vs,vm] 137):=by rw [hg.block tb h.lt (λe=>cE h.rs h.box (by decide) e.symm),h.box]
 refine ⟨(zX hb1).2.2.2,h.high,eC (cH h.rn hg (bW h.rn h.rs (by decide))) hb1 (by decide),eC (cH h.re hg (zr h.ac)) hb1 (by decide),eC (cH h.rl hg (zr h.bc)) hb1 (by decide),?_,h.ab,?_,?_,h.ne,h.nl,?_⟩
 ·have:=eC (j:=3) (x:=v') ho hb1 (by decide);simpa using this
 ·rcases hw with e | e
  ·rw [e];exact h.ac
  ·rw [e];exact qK h.re
 ·rcases hw with e | e
  ·rw [e];exact h.bc
  ·rw [e];exact qK h.rl
 ·rcases hw with e | e
  ·rw [e];exact h.ns
  ·rw [e];simp
theorem cB.endAt{ge n ce:Nat}(h:cB w B tb vn (.slice (some ⟨ge,0,none⟩) n ce) vl vs vm L E F S)(p x:Nat):cB (w.setCell ⟨ge,p,none⟩ (.int .i64 x)) B tb vn (.slice (some ⟨ge,0,none⟩) n ce) vl vs vm L (E.set p x) F S:=by
 have hn:n=E.length:=by obtain ⟨a,c,e⟩:=aS h.re;simp at e;exact e.2.1
 subst hn;have hg:=bR w ⟨ge,p,none⟩ (.int .i64 x);refine ⟨?_,h.high,cH h.rn hg (bW h.rn h.re (by decide)),?_,cH h.rl hg (zr λe=>h.ab e.symm),cH h.rs hg (zr λe=>h.ac e.symm),h.ab,h.ac,h.bc,h.ne,h.nl,h.ns⟩
 ·rw [hg.block tb h.lt (λe=>cE h.re h.box (by decide) e.symm),h.box]
 ·have r:=(h.re.stored p (.int .i64 x)).1;rw [aJo] at r;simpa using r
theorem cB.endOf{n ce:Nat}{ae:Option Addr}(h:cB w B tb vn (.slice ae n ce) vl vs vm L E F S){p x:Nat}(hp:E[p]?=some x):∃ge,ae=some ⟨ge,0,none⟩/\w.cell? ⟨ge,p,none⟩=some (.int .i64 x)/\w.frozen? ⟨ge,p,none⟩=false/\n=E.length:=by obtain ⟨hl,hv⟩:=zs.1 hp;obtain ⟨a,c,e,hc⟩:=sO h.re;simp at e;obtain ⟨rfl,rfl,rfl⟩:=e;obtain ⟨g,rfl,h1⟩:=hc p hl;refine ⟨g,rfl,by rw [h1,hv],?_,rfl⟩;exact h.re.frozenAt p
theorem cB.toIn(h:cB w B tb vn ve vl vs vm L (eG L) F S)(h1:F.length=L.length)(h2:S.length=L.length)(hf:L.length<=1000000)(hs:∀n∈L,n.1.size<=140737488355328):bF w B tb vn ve vl vs vm L F S:=
 ⟨h.box,h.high,h.rn,by have:=h.re;rwa [gV] at this,by have:=h.rl;rwa [h1] at this,by have:=h.rs;rwa [h2] at this,h1,h2,hf,hs,h.ab,h.ac,h.bc⟩
end
theorem aV3{ops:Array Oper}{o:Oper}{a:Act}{w:World}{K:Act->World->Prop}{Q:Exit->Act->World->Prop}{E:Prop}(hgd:o.guard=none)(s x:Operand)
  (ho:o.op=.call {callee:=.builtin .append,args:=#[s,x],argTypes:=#[37,37]}) (base:Nat) (v:Value) (l:List Nd) (hs:a.eval s=v) (hown:w.ownsRow base 36 2 v l.length (aG l)) (hn:l.length<=1000000) (hbase:base<=w.heap.size)
  (g c:Nat) (nd:Nd) (hx:a.eval x=.slice (some ⟨g,0,none⟩) 1 c) (hu:w.cell? ⟨g,0,none⟩=some (.string nd.1)) (hu1:w.cell? ⟨g,1,none⟩=some (.int .i64 nd.2))
  (h:∀v' w',w'.ownsRow base 36 2 v' (l.length+1) (aG (l++[nd]))->w.grownBy w' v.ownBlock->aX w v v'->K (a.put o.dst v') w') :
  if zu o (yielded ops a.tmps)=true then Oper.wp zt o a w K Q else E:=by
 have hw:zu o (yielded ops a.tmps)=true:=by simp [zu,hgd]
 rw [if_pos hw];obtain ⟨i,hi,hz,hss,hy⟩:=info_parts nB;have hnews:∀(j:Nat) (u':Value),[Value.string nd.1,zf .i64 nd.2][j]?=some u'->w.cell? ((⟨g,0,none⟩ : Addr).add j)=some u':=by
  intro j u' hj;have hj0:=(zs.1 hj).1;simp at hj0;match j,hj0,hj with
  | 0,_,hj=>simp at hj;subst hj;exact hu
  | 1,_,hj=>simp at hj;subst hj;exact hu1
 have h1c:∀u∈[Value.string nd.1,zf .i64 nd.2],u.oneCell'=true:=by intro x hx;simp at hx;rcases hx with rfl | rfl <;> rfl
 obtain ⟨v',w',hr,h1,h2,_⟩:=run_append_own (P:=zt) w base 37 o.type 36 i (.agg #[.string ⟨#[]⟩,.int .i64 0]) 2 24 zh hi hz hss hy rfl (by decide) v l.length (aG l) hown ⟨g,0,none⟩ 1 c [.string nd.1,.int .i64 nd.2] rfl hnews h1c (by unfold maxLen;omega) (by omega) hbase;have hm:aX w v v':=by
  by_cases hv:v.ownBlock=none
  ·have hnil:v=.slice none 0 0/\l.length=0:=by
    obtain ⟨_,h | ⟨g,cap,cur,rfl,_⟩⟩:=hown
    ·exact h
    ·simp [zo] at hv
   obtain ⟨rfl,hl0⟩:=hnil;obtain ⟨v2,w2,hr2,k1,_⟩:=run_append_own (P:=zt) w w.heap.size 37 o.type 36 i (.agg #[.string ⟨#[]⟩,.int .i64 0]) 2 24 zh hi hz hss hy rfl (by decide) (.slice none 0 0) 0 [] (World.ownsRow_nil _ _ _ _) ⟨g,0,none⟩ 1 c [.string nd.1,.int .i64 nd.2] rfl hnews h1c (by unfold maxLen;omega) (by omega) (zy _);rw [hr] at hr2;injection hr2 with e1 e2;subst e1;subst e2;cases hb:v'.ownBlock with
   | none=>exact zd (by rw [hb,hv])
   | some g'=>exact zr ⟨g',hb,(aT k1 g' hb).1⟩
  ·rcases wR w base 37 o.type 36 i (.agg #[.string ⟨#[]⟩,.int .i64 0]) 2 24 zh hi hz hss hy (by decide) v l.length (aG l) hown hv ⟨g,0,none⟩ 1 c [.string nd.1,.int .i64 nd.2] rfl hnews h1c (by unfold maxLen;omega) (by omega) hr with e | e
   ·exact zd e
   ·exact zr ⟨_,e,zy _⟩
 unfold Oper.wp execOp;simp only [ho,resolve,invoke,builtin,Sem.run_bind,Sem.run_pure,Result.andThen_ok,z3,List.map_cons,List.map_nil,hs,hx,hr];exact h v' w' (by rw [rS];exact h1) h2 hm
structure eX(B:Nat)(N:Value)(w w':World):Prop where
 low:Below B w w'
 nod:∀(k:Nat) (cs:Array Value) (T:TypeId) (fr:Nat×Nat),w.heap[k]?=some (.cells cs T fr)->T≠3->T≠137->N.ownBlock≠some k->w'.heap[k]?=w.heap[k]?
section
variable {B:Nat}{N:Value}{w w1 w2:World}
theorem eX.refl(B:Nat)(N:Value)(w:World):eX B N w w:=⟨Below.refl _ _,λ_ _ _ _ _ _ _ _=>rfl⟩
theorem eX.below(h:eX B N w w1)(hb:Below w1.heap.size w1 w2)(hB:B<=w1.heap.size):eX B N w w2:=
 ⟨h.low.trans (hb.mono hB),λk cs T fr hk h1 h2 h3=>by
  have e:=h.nod k cs T fr hk h1 h2 h3;rw [hb.block k (by rw [hk] at e;exact (zz.1 e).1),e]⟩
theorem eX.grown(h:eX B N w w1){o:Option Nat}(hg:w1.grownBy w2 o)(hB:B<=w1.heap.size)(ho:∀k,o=some k->B<=k)(hd:∀k cs T fr,o=some k->w1.heap[k]?=some (.cells cs T fr)->T=3\/T=137\/N.ownBlock=some k\/w.heap.size<=k):eX B N w w2:=
 ⟨h.low.grown hg hB ho,λk cs T fr hk h1 h2 h3=>by
  have e:=h.nod k cs T fr hk h1 h2 h3;have e':=e;rw [hk] at e';rw [hg.block k (zz.1 e').1 (λe2=>?_),e];have hl:=(zz.1 hk).1;rcases hd k cs T fr e2.symm e' with q | q | q | q
  ·exact h1 q
  ·exact h2 q
  ·exact h3 q
  ·omega⟩
theorem eX.ints(h:eX B N w w1){v:Value}{n:Nat}{xs:List Value}(hr:w1.ownsRow B 3 1 v n xs)(hg:w1.grownBy w2 v.ownBlock)(hB:B<=w1.heap.size):eX B N w w2:=by
 refine h.grown hg hB (λk e=>(aT hr k e).1) (λk cs T fr e hk=>zd ?_);obtain ⟨_,⟨rfl,_⟩ | ⟨g,cap,cur,rfl,_,hh,_⟩⟩:=hr
 ·simp [zo] at e
 ·simp [zo] at e;subst e;rw [hh] at hk;simp at hk;exact hk.2.1.symm
theorem eX.nodes(h:eX B N w w1){v:Value}{n:Nat}{xs:List Value}(hr:w1.ownsRow B 36 2 v n xs)(hm:aX w N v)(hg:w1.grownBy w2 v.ownBlock)(hB:B<=w1.heap.size):eX B N w w2:=by
 refine h.grown hg hB (λk e=>(aT hr k e).1) (λk cs T fr e hk=>zr (zr ?_));rcases hm with q | ⟨g,q,hl⟩
 ·exact zd (by rw [<-q,e])
 ·rw [q] at e;simp at e;exact zr (by omega)
theorem eX.set(h:eX B N w w1){tb j:Nat}{v:Value}{cs:Array Value}(hb:w1.heap[tb]?=some (.cells cs 137))(hB:B<=tb):eX B N w (w1.setCell ⟨tb,j,none⟩ v):=by have hl:=(zz.1 hb).1;refine h.grown (bR w1 ⟨tb,j,none⟩ v) (by omega) (λk e=>by simp at e;omega) (λk cs' T fr e hk=>zr (zd ?_));simp at e;subst e;rw [hb] at hk;simp at hk;exact hk.2.1.symm
end
theorem aV4:∀{q:Nat},aW t q=true->∀n∈t,-1000000000<=n.2/\n.2<=1000000000:=by
 induction t with
 | nil=>intro q _ n hn;simp at hn
 | cons m r ih=>
  intro q h n hn;cases q with
  | zero=>simp [aW] at h
  | succ q=>
   rw [uY,Bool.and_eq_true] at h;rcases List.mem_cons.1 hn with rfl | hn
   ·have h1:=h.1;unfold eA at h1;split at h1
    ·simp at h1;omega
    ·simp at h1;omega
   ·exact ih h.2 n hn
theorem aJ2:∀{q:Nat},aW t q=true->∀n∈t,eA n=true:=by
 induction t with
 | nil=>intro q _ n hn;simp at hn
 | cons m r ih=>
  intro q h n hn;cases q with
  | zero=>simp [aW] at h
  | succ q=>
   rw [uY,Bool.and_eq_true] at h;rcases List.mem_cons.1 hn with rfl | hn
   ·exact h.1
   ·exact ih h.2 n hn
theorem aCy{n:Nd}(h:eA n=true):(if n.1.toList.isEmpty then (0:Int) else n.2)=((bJ n:Nat):Int)/\bJ n<=5:=by
 unfold eA at h;unfold bJ;by_cases hv:aF n=true
 ·have:n.1.toList.isEmpty=true:=hv;rw [if_pos this,if_pos hv];simp
 ·have hv':¬n.1.toList.isEmpty=true:=hv;rw [if_neg hv] at h;rw [if_neg hv',if_neg hv];simp at h;omega
theorem aJ3{s:List Nd}{m i:Nat}(h:fA s m)(hi:i<m):aH s i<s.length/\aH s (i+1)=aH s i+aH (s.drop (aH s i)) 1:=by refine ⟨?_,tC s i 1⟩;have h1:=(uP s i (m-i)).1 (by rw [show i+(m-i)=m by omega];exact h);obtain ⟨j,hj⟩ : ∃j,m-i=j+1:=⟨m-i-1,by omega⟩;have h2:=h1.2;rw [hj] at h2;have hp:=aB1 h2;have hl:=mD (s.drop (aH s i)) (j+1);rw [ze] at hl;omega
def gI(w:World)(mp:Nat)(M:List Tg):Prop:=∃nm D,w.ownsMap zt 168 fW mp nm D/\mP D M/\nm<=M.length
theorem gI.lt(h:gI w mp M):mp<w.heap.size:=by obtain ⟨nm,D,h1,_⟩:=h;exact aDb h1
theorem gI.at{w':World}(h:gI w mp M)(hb:w'.heap[mp]?=w.heap[mp]?):gI w' mp M:=by obtain ⟨nm,D,h1,h2,h3⟩:=h;exact ⟨nm,D,aDa h1 hb,h2,h3⟩
theorem gI.grown{w':World}{o:Option Nat}(h:gI w mp M)(hg:w.grownBy w' o)(ho:o≠some mp):gI w' mp M:=h.at (hg.block mp h.lt (λe=>ho e.symm))
theorem pM{B:Nat}{e:TypeId}{size:Nat}{v:Value}{n:Nat}{xs:List Value}(h:w.ownsRow B e size v n xs)(hm:gI w mp M):v.ownBlock≠some mp:=by
 obtain ⟨nm,D,⟨es,clock,hh,_⟩,_⟩:=hm;obtain ⟨_,⟨rfl,_⟩ | ⟨g,cap,cur,rfl,_,hg,_⟩⟩:=h
 ·simp [zo]
 ·simp [zo];rintro rfl;rw [hh] at hg;simp at hg
section
variable {w w1 w2:World}{B tb mp bx:Nat}{N vn ve vl vs v':Value}{L:List Nd}{E F:List Nat}{S:List Int}{M:List Tg}{s:ByteArray}{x:Int}{o:Obj}
theorem fY{w:World}{tb bx j i:Nat}{u v:Value}(h:w.cell? ⟨bx,i,none⟩=some u)(hne:bx≠tb):(w.setCell ⟨tb,j,none⟩ v).cell? ⟨bx,i,none⟩=some u:=
 (bR w ⟨tb,j,none⟩ v).cell h (by simpa using hne)
theorem aV5{lead:Nat}(hT1:cB w1 B tb vn ve vl vs (.map (some mp)) L E F S)(hF1:gI w1 mp M)(hb1:eX B N w w1)(hBs:B<=w1.heap.size)(hmp:mp≠tb)(y0:w1.cell? ⟨bx,0,none⟩=some (.string s))(y1:w1.cell? ⟨bx,1,none⟩=some (.int .i64 x))(hx1:vl.ownBlock≠some bx)(hx2:bx≠tb)
  (hown2:w2.ownsRow B 3 1 v' (F.length+1) (iP F++[.int .i64 lead])) (hg2:(w1.alloc o).grownBy w2 vl.ownBlock) (hw2:v'.ownBlock=vl.ownBlock\/v'.ownBlock=some (w1.alloc o).heap.size) :
  cB (w2.setCell ⟨tb,2,none⟩ v') B tb vn ve v' vs (.map (some mp)) L E (F++[lead]) S/\gI (w2.setCell ⟨tb,2,none⟩ v') mp M/\(w2.setCell ⟨tb,2,none⟩ v').cell? ⟨bx,0,none⟩=some (.string s)/\(w2.setCell ⟨tb,2,none⟩ v').cell? ⟨bx,1,none⟩=some (.int .i64 x)/\eX B N w (w2.setCell ⟨tb,2,none⟩ v')/\w1.heap.size<=(w2.setCell ⟨tb,2,none⟩ v').heap.size:=by
 have hal:Below w1.heap.size w1 (w1.alloc o):=(Below.refl _ _).alloc (zy _) o;have hTA:=hT1.below hal;have hFA:gI (w1.alloc o) mp M:=hF1.at (hal.block mp hF1.lt);have z0:=hg2.cell (Below.at' hal (zy _) y0) (λe=>hx1 e.symm);have z1:=hg2.cell (Below.at' hal (zy _) y1) (λe=>hx1 e.symm);have hF2:=hFA.grown hg2 (pM hTA.rl hFA);have hb2:eX B N w w2:=(hb1.below hal hBs).ints hTA.rl hg2 (by simp;omega);have hbx:w2.heap[tb]?=some (.cells #[vn,ve,vl,vs,.map (some mp)] 137):=by rw [hg2.block tb hTA.lt (λe=>cE hTA.rl hTA.box (by decide) e.symm)];exact hTA.box
 refine ⟨hTA.leads hg2 hown2 hw2,hF2.grown (bR _ _ _) (by simpa using λe=>hmp e.symm),fY z0 hx2,fY z1 hx2,hb2.set hbx hT1.high,?_⟩;have:=hg2.size;simp [World.setCell] at this ⊢;omega
theorem aV6{nd:Nd}(hT1:cB w1 B tb vn ve vl vs (.map (some mp)) L E F S)(hF1:gI w1 mp M)(hb1:eX B N w w1)(hBs:B<=w1.heap.size)(hmp:mp≠tb)(hm:aX w N vn)
  (hown2:w2.ownsRow B 36 2 v' (L.length+1) (aG (L++[nd]))) (hg2:(w1.alloc o).grownBy w2 vn.ownBlock) :
  cB (w2.setCell ⟨tb,0,none⟩ v') B tb v' ve vl vs (.map (some mp)) (L++[nd]) E F S/\gI (w2.setCell ⟨tb,0,none⟩ v') mp M/\eX B N w (w2.setCell ⟨tb,0,none⟩ v'):=by
 have hal:Below w1.heap.size w1 (w1.alloc o):=(Below.refl _ _).alloc (zy _) o;have hTA:=hT1.below hal;have hFA:gI (w1.alloc o) mp M:=hF1.at (hal.block mp hF1.lt);have hF2:=hFA.grown hg2 (pM hTA.rn hFA);have hb2:eX B N w w2:=(hb1.below hal hBs).nodes hTA.rn hm hg2 (by simp;omega);have hbx:w2.heap[tb]?=some (.cells #[vn,ve,vl,vs,.map (some mp)] 137):=by rw [hg2.block tb hTA.lt (λe=>cE hTA.rn hTA.box (by decide) e.symm)];exact hTA.box
 exact ⟨hTA.nodes hg2 (by rw [zk];exact hown2),hF2.grown (bR _ _ _) (by simpa using λe=>hmp e.symm),hb2.set hbx hT1.high⟩
end
theorem aJ4(B tb mp:Nat)(vn ve vl vs:Value)(L:List Nd)(F:List Nat)(S:List Int)(M:List Tg)(o:Int)(a:Option Addr)(ca:Nat)(t:List Nd)(w:World)
  (h:cB w B tb vn ve vl vs (.map (some mp)) L (eG L) F S) (hM:M.map Prod.snd=L) (hW:dE L) (hf:gI w mp M) (hlf:F.length=L.length) (hls:S.length=L.length) (hB:B<=w.heap.size) (hmp:mp≠tb) (hmB:B<=mp)
  (ht:aW t 1=true) (hn:cU w a t) (hlow:∀p,a=some p->p.block<B) (hlen:L.length+t.length<=1000000) (ho : -1000<=o/\o<=1000) :
  Calls zt 59 #[.pointer (some ⟨tb,0,none⟩),.int .i64 o,.slice a t.length ca] w λe w'=>∃vn' ve' vl' vs',e=.returned (.int .i64 L.length)/\
   cB w' B tb vn' ve' vl' vs' (.map (some mp)) (L++t) (eG (L++t)) (F++iA M o t t.length) (S++zv t.length 0)/\gI w' mp (M++t.map λn=>(o,n))/\eX B vn w w'/\aX w vn vn':=by
 have hML:M.length=L.length:=by rw [<-hM];simp
 obtain ⟨q0,q1,q2,q3,q4⟩:=h.cells;have HT:=aA h;have HF:=aA hf;have HN:=aA hn;have HTM:=aA ht;have HW:=aA hW;have HM:=aA hM;have HLF:=aA hlf;have HLS:=aA hls;have HLOW:=aA hlow;have HML:=aA hML;obtain ⟨an,cn,hvn⟩:=aS h.rn;subst hvn;clear h hf hn ht hW hM hlf hls hlow q1 q2 q3 q4 hML;go_enter Tryz.func59,Tryz.ntmps59;go_wp2;clear q0;go_loopw [19] (λi wr=>∃(k:Nat) (vn' vl':Value),k<=t.length/\i=.int .i64 k/\cB wr B tb vn' ve vl' vs (.map (some mp)) (L++t.take k) (eG L) (F++iA M o t k) S/\gI wr mp (M++(t.take k).map λn=>(o,n))/\eX B (.slice an L.length cn) w wr/\aX w (.slice an L.length cn) vn') (λi _=>t.length-(intOf i).toNat);case atStart=>exact ⟨0,_,_,Nat.zero_le _,rfl,by simpa [iA] using HT.out,by simpa using HF.out,eX.refl _ _ _,aX.refl _ _⟩
 case round=>
  obtain ⟨k,vn',vl',hk,rfl,hT,hF,hbw,hmv⟩:=hrel;by_cases hlt:k<t.length
  ·have hlti:(k:Int)<(t.length:Int):=by omega
   obtain ⟨b,q,rfl,e1,e2⟩:=HN.out.cell k hlt;have hbb:=HLOW.out _ rfl;simp only at hbb;have e1':=(hbw.low.cell (p:=⟨b,q+k*2,none⟩) hbb).trans e1;have e2':=(hbw.low.cell (p:=⟨b,q+k*2+1,none⟩) hbb).trans e2;have HL1:Hid (F++iA M o t (k+1)=(F++iA M o t k)++[mO (M++(t.take k).map λn=>(o,n)) o t[k]]):=aA (by rw [aUy M o t k hlt,zi]);have HG1:=aA (aUz M o t k hlt);have HK1:Hid (L++t.take (k+1)=(L++t.take k)++[t[k]]):=aA (by rw [zm hlt,zi]);have HXB:=aA (aV4 HTM.out t[k] (z6 _));clear e1 e2;generalize t[k]=nd at *;obtain ⟨s,x⟩:=nd;simp only at e1' e2';obtain ⟨an',cn',rfl⟩:=aS hT.rn;obtain ⟨nm,D,hown,hD,hnm⟩:=hF;have hkl:(t.take k).length=k:=by simp;omega
   have hlk:(L++t.take k).length=(M++(t.take k).map λn=>(o,n)).length:=by simp [HML.out]
   have hlb:(M++(t.take k).map λn=>(o,n)).length<=1000000:=by rw [<-hlk];simp;omega
   have hxb : -1000000000<=x/\x<=1000000000:=HXB.out;have hlead:(F++iA M o t k).length<=1000000:=by rw [zk,aJ1,HLF.out];omega
   generalize (M++(t.take k).map λn=>(o,n))=Mk at *;generalize (F++iA M o t k)=Fk at *;generalize (L++t.take k)=Lk at *;clear hkl;have HMV:=aA hmv;clear hmv;have hbA:Below wr.heap.size wr (wr.alloc (.cells #[.string s,.int .i64 x] 36)):=(Below.refl _ _).alloc (zy _) _;have x0:(wr.alloc (.cells #[.string s,.int .i64 x] 36)).cell? ⟨wr.heap.size,0,none⟩=some (.string s):=by simp
   have x1:(wr.alloc (.cells #[.string s,.int .i64 x] 36)).cell? ⟨wr.heap.size,1,none⟩=some (.int .i64 x):=by simp
   have hT0:=hT.below hbA;have hown0:=rD hown hbA;have hbr:=hbw.below hbA (zq hB hbw.low.size);have hsz:(wr.alloc (.cells #[.string s,.int .i64 x] 36)).heap.size=wr.heap.size+1:=by simp
   obtain ⟨p0,p1,p2,p3,p4⟩:=hT0.cells;have p2f:=hT0.soft 2;have p0f:=hT0.soft 0;rw [hlk] at p0;have CL:=aA (λ(wx:World) (hx:∃d,wx=(wr.alloc (.cells #[.string s,.int .i64 x] 36)).drewN d)=>aW7 tb mp nm cn' an' D Mk o s x wx (by obtain ⟨d,rfl⟩:=hx;exact p0) (by obtain ⟨d,rfl⟩:=hx;exact p4) (rD hown0 (aI hx)) hD hnm hlb (by omega) hxb);have HT0:=aA hT0;have HLK:=aA hlk;clear hlk;have HBR:=aA hbr;have HMO:=aA hown0;have HMD:=aA hD;have HMW:=aA (aDb hown);have HVX:Hid (vl'.ownBlock≠some wr.heap.size/\wr.heap.size≠tb):=aA ⟨qK hT.rl,by have:=hT.lt;omega⟩;clear hT hT0 hown hown0 hD hbw hbr hbA;have HTD:=aA (λd=>HT0.out.below (wx:=(wr.alloc (.cells #[.string s,.int .i64 x] 36)).drewN d) (aI ⟨d,rfl⟩));have htl:=HT0.out.lt;generalize hW0:wr.alloc (.cells #[.string s,.int .i64 x] 36)=W0 at *;have HW0:=aA hW0;have hsz1:wr.heap.size<W0.heap.size:=by omega
   have HRES:=aA (λ(wx w1:World) (hx:∃d,wx=W0.drewN d) (nm':Nat) (D':DataW Unit) (h1:w1.ownsMap zt 168 fW mp nm' D') (h2:mP D' (Mk++[(o,(s,x))])) (h3:nm'<=Mk.length+1) (hg:wx.grownBy w1 (some mp))=>
    (show gI w1 mp (Mk++[(o,(s,x))])/\cB w1 B tb (.slice an' Lk.length cn') ve vl' vs (.map (some mp)) Lk (eG L) Fk S/\w1.cell? ⟨tb,2,none⟩=some vl'/\w1.frozen? ⟨tb,2,none⟩=false/\w1.cell? ⟨wr.heap.size,0,none⟩=some (.string s)/\w1.cell? ⟨wr.heap.size,1,none⟩=some (.int .i64 x)/\eX B (.slice an L.length cn) w w1/\W0.heap.size<=w1.heap.size/\vl'.ownBlock≠some tb from by
     obtain ⟨d,rfl⟩:=hx;have hT:=HT0.out.below (wx:=W0.drewN d) (aI ⟨d,rfl⟩);have hmf:gI (W0.drewN d) mp Mk:=⟨nm,D,rD HMO.out (aI ⟨d,rfl⟩),HMD.out,hnm⟩;have ne:∀{v:Value} {e:TypeId} {sz n:Nat} {xs:List Value},(W0.drewN d).ownsRow B e sz v n xs->v.ownBlock=none\/v.ownBlock≠some mp:=λhr=>zr (pM hr hmf)
     have hT1:=hT.grown hg (by simpa using hmp) (ne hT.rn) (ne hT.re) (ne hT.rl) (ne hT.rs);have hne:wr.heap.size≠mp:=by have:=HMW.out;omega
     exact ⟨⟨nm',D',h1,h2,by simpa using h3⟩,hT1,hT1.cells.2.2.1,hT1.soft 2,hg.cell x0 (by simpa using hne),hg.cell x1 (by simpa using hne),(HBR.out.below (aI ⟨d,rfl⟩) (zq hB HBR.out.low.size)).grown hg (zq hB HBR.out.low.size) (λk e=>by simp at e;omega) (λk cs T fr e hk=>by obtain ⟨_,_,⟨es,clock,hh,_⟩,_⟩:=hmf;simp at e;subst e;rw [hh] at hk;simp at hk),hg.size,cE hT1.rl hT1.box (by decide)⟩))
   have hBW0:B<=W0.heap.size:=zq hB HBR.out.low.size;go_wp2_with fail;go_region_law (first
    | (refine aCv (by rfl) 90 _ _ (by rfl) (enters_of Tryz.func90 (by kernel_rfl) rfl) _ (by rfl) (aB CL _ ⟨1,rfl⟩) ?_;rintro e w1 ⟨nm',D',rfl,hown1,hD1,hnm1,hg1⟩;refine ⟨_,rfl,?_⟩;obtain ⟨hF1,hT1,d2,f2,y0,y1,hb1,hs1,hnt⟩:=HRES.out _ w1 ⟨1,rfl⟩ nm' D' hown1 hD1 hnm1 hg1;have hne2:tb<w1.heap.size:=World.block_lt_of_cell? w1 _ d2;have dA:=(λX=>Below.at' ((Below.refl w1.heap.size w1).alloc (zy _) X) (zy _) d2);have HF1:=aA hF1;have HT1:=aA hT1;have HB1:=aA hb1;clear hown1 hD1 hnm1 hg1 hF1 hT1 hb1)
    | (refine aUw (by rfl) _ _ (by rfl) B _ _ _ (by rfl) (HT1.out.rl.alloc _) HT1.out.nl hlead (by simp;omega) w1.heap.size 1 (mO Mk o (s,x)) (by rfl) (by simp) ?_;intro v' w2 hown2 hg2 hw2;obtain ⟨va,vc,rfl⟩:=aS hown2;obtain ⟨d3,f3⟩:=HT1.out.stays2 _ hg2))
   all_goals
    obtain ⟨hT3,hF3,z0,z1,hb3,hs3⟩:=aV5 HT1.out HF1.out HB1.out (by omega) hmp y0 y1 HVX.out.1 HVX.out.2 hown2 hg2 hw2;clear hown2 hg2 hw2 d3 f3 dA d2 f2 y0 y1 hne2 hnt;generalize w2.setCell ⟨tb,2,none⟩ (.slice va (Fk.length+1) vc)=w3 at *;generalize hvl:(Value.slice va (Fk.length+1) vc)=vl3 at *;clear hvl HT1 HF1 HB1;obtain ⟨r0,r1,r2,r3,r4⟩:=hT3.cells;have r0f:=hT3.soft 0;have htb3:=hT3.lt;have HT3:=aA hT3;have HF3:=aA hF3;have HB3:=aA hb3;clear r1 r2 r3 r4 hT3 hF3 hb3;have hlk2:Lk.length<=1000000:=by rw [HLK.out];exact hlb
    have HT4:=aA (HT3.out.below (wx:=w3.drew) (aI ⟨1,rfl⟩));have hnw3:∀X,(w3.alloc X).cell? ⟨tb,0,none⟩=some (.slice an' Lk.length cn'):=λX=>Below.at' ((Below.refl w3.heap.size w3).alloc (zy _) X) (zy _) r0
    have hBw3:B<=w3.heap.size:=by omega
    have HB4:=aA (HB3.out.below (aI (w1:=w3.drew) ⟨1,rfl⟩) hBw3);have hw03:=HB3.out.low.size;have HF4:=aA (HF3.out.at (w':=w3.drew) rfl);go_wp2_with fail;go_region_law (refine aV3 (by rfl) _ _ (by rfl) B _ Lk (by rfl) (HT4.out.rn.alloc _) hlk2 (by simp;omega) w3.heap.size 1 (s,x) (by rfl) (by simp) (by simp) ?_;intro v4 w4 hown4 hg4 hm4;obtain ⟨va4,vc4,rfl⟩:=aS hown4;obtain ⟨d4,f4⟩:=HT4.out.stays0 _ hg4);all_goals
     obtain ⟨hT5,hF5,hb5⟩:=aV6 HT4.out HF4.out HB4.out (by simp;omega) hmp HMV.out hown4 hg4;have HMV4:=aA (HMV.out.trans hm4 (by simp;omega));have HT5:=aA hT5;have HF5:=aA hF5;have HB5:=aA hb5;clear hT5 hF5 hb5 hown4 hg4 hm4 d4 f4;go_wp2;go_roundw;case rel=>exact ⟨k+1,_,_,by omega,by go_num,by rw [HK1.out,HL1.out];exact HT5.out,by rw [<-HG1.out];exact HF5.out,HB5.out,HMV4.out⟩
     case measure=>simp [intOf];omega
  ·have hke:k=t.length:=by omega
   subst hke;have hlti:¬((t.length:Int)<(t.length:Int)):=by omega
   rw [List.take_length] at hT hF;have hpos:0<t.length:=by
    rcases Nat.eq_zero_or_pos t.length with e | e
    ·have:=List.eq_nil_of_length_eq_zero e;rw [this] at HTM;have:=HTM.out;simp [aW] at this
    ·exact e
   have hBr:B<=wr.heap.size:=zq hB hbw.low.size;have HMV:=aA hmv;clear hmv;obtain ⟨an',cn',rfl⟩:=aS hT.rn;have hel:(eG L).length=L.length:=gV L;obtain ⟨v8,w8,hr8,ho8,hg8,hw8⟩:=aJq wr 25 B ve (eG L).length t.length _ hT.re hT.ne hpos (by omega) hBr;obtain ⟨va8,vc8,rfl⟩:=aS ho8;have hb8:=zY (by rw [hg8.block tb hT.lt (λe=>cE hT.re hT.box (by decide) e.symm)];exact hT.box);have hT8:=hT.ends hg8 ho8 hw8;have hF8:=(hF.grown hg8 (pM hT.re hF)).grown (bR w8 ⟨tb,1,none⟩ (.slice va8 ((eG L).length+t.length) vc8)) (by simpa using λe=>hmp e.symm);have hbw8:=(hbw.ints hT.re hg8 hBr).set (tb:=tb) (j:=1) (v:=.slice va8 ((eG L).length+t.length) vc8) (by rw [hg8.block tb hT.lt (λe=>cE hT.re hT.box (by decide) e.symm)];exact hT.box) hT.high;have hBr8:B<=(w8.setCell ⟨tb,1,none⟩ (.slice va8 ((eG L).length+t.length) vc8)).heap.size:=zq hB hbw8.low.size;obtain ⟨p0,p1,p2,p3,p4⟩:=hT.cells;have HT8:=aA hT8;have HF8:=aA hF8;have HB8:=aA hbw8;have e8:=hb8.2.1;have f8:=hb8.2.2.2.2 1;generalize hw8g:w8.setCell ⟨tb,1,none⟩ (.slice va8 ((eG L).length+t.length) vc8)=W8 at *;obtain ⟨v9,w9,hr9,ho9,hg9,hw9⟩:=aJq W8 25 B vs S.length t.length _ hT8.rs hT8.ns hpos (by rw [HLS.out];omega) hBr8;obtain ⟨va9,vc9,rfl⟩:=aS ho9;have hb9:=zY (by rw [hg9.block tb hT8.lt (λe=>cE hT8.rs hT8.box (by decide) e.symm)];exact hT8.box);have hT9:=hT8.sizes hg9 ho9 hw9;have hF9:=(hF8.grown hg9 (pM hT8.rs hF8)).grown (bR w9 ⟨tb,3,none⟩ (.slice va9 (S.length+t.length) vc9)) (by simpa using λe=>hmp e.symm);have hbw9:=(hbw8.ints hT8.rs hg9 hBr8).set (tb:=tb) (j:=3) (v:=.slice va9 (S.length+t.length) vc9) (by rw [hg9.block tb hT8.lt (λe=>cE hT8.rs hT8.box (by decide) e.symm)];exact hT8.box) hT.high;have r3:=hT8.cells.2.2.2.1;have e9:=hb9.2.2.2.1;have f9:=hb9.2.2.2.2 3;have s0:=hT9.cells.1;rw [zk] at s0;rw [<-aV0] at hT9;have HT9:=aA hT9;have HF9:=aA hF9;have HB9:=aA hbw9;have HR8:=aA hr8;have HR9:=aA hr9;clear hT hF hbw hg8 ho8 hw8 hb8 hT8 hF8 hbw8 hg9 ho9 hw9 hb9 hT9 hF9 hbw9 hr8 hr9 p0 p2 p3 p4 hel;go_wp2_with (first
    | (at_builtin;refine Go.Lib.wpList_append_run _ rfl _ _ _ _ rfl _ _ rfl rfl _ _ (aB HR8) ?_)
    | (at_builtin;refine Go.Lib.wpList_append_run _ rfl _ _ _ _ rfl _ _ rfl rfl _ _ (aB HR9) ?_)
    | go_in)
   clear s0 e8 f8 e9 f9 r3 p1;generalize w9.setCell ⟨tb,3,none⟩ (.slice va9 (S.length+t.length) vc9)=W9 at *;clear HT8 HF8 HB8 HR8 HR9;generalize (.slice va9 (S.length+t.length) vc9:Value)=vs9 at *;go_loopw [10] (λi wi=>∃j:Nat,j<=t.length/\i=.int .i64 ((L.length:Int)+j-1)/\cB wi B tb (.slice an' (L++t).length cn') (.slice va8 ((eG L).length+t.length) vc8) vl' vs9 (.map (some mp)) (L++t) (eL L t j) (F++iA M o t t.length) (S++zv t.length 0)/\gI wi mp (M++t.map λn=>(o,n))/\eX B (.slice an L.length cn) w wi) (λi _=>(intOf i+1-L.length).toNat);case atStart=>exact ⟨t.length,zy _,rfl,HT9.out,HF9.out,HB9.out⟩
   case round=>
    obtain ⟨j,hj,rfl,hT,hF,hb⟩:=hrel;cases j with
    | zero=>
     generalize hA:((L.length:Int)+((0:Nat):Int)-1)=A at *;have hA1:A<(L.length:Int):=by omega
     have HT10:=aA hT;have HF10:=aA hF;have HB10:=aA hb;clear hA hT hF hb;go_wp2;go_ret;exact ⟨_,_,_,_,rfl,by rw [<-aV1 HW.out];exact HT10.out,HF10.out,HB10.out,HMV.out⟩
    | succ q=>
     rename World=>wi
     have hql:q<t.length:=by omega
     obtain ⟨P,hP⟩ : ∃P,P=L.length+q:=⟨_,rfl⟩;have hsl:(L.length:Int)+((q+1:Nat):Int)-1=(P:Int):=by omega
     rw [hsl];have hnd:(L++t)[P]?=some t[q]:=by rw [hP,zx (by omega)];simp [hql]
     have hPN:(P:Int)<((L++t).length:Int):=by simp;omega
     have hPL:(L.length:Int)<=(P:Int):=by omega
     have hP1:(P:Int)<=1000000:=by omega
     obtain ⟨ax,cx,ex,hcx⟩:=aBv hT.rn;simp at ex;obtain ⟨rfl,rfl⟩:=ex;obtain ⟨gn,rfl,n0,n1⟩:=hcx P _ hnd;obtain ⟨s0,s1,s2,s3,s4⟩:=hT.cells;have hfull:=(qZ HTM.out) q t[q] (zg hql);have hendq:aH (t.drop q) 1=1+aH (t.drop (q+1)) (bJ t[q]):=by rw [zj hql];simp [aH]
     have HSET:=aA (aV2 L t q hql);rw [hendq] at HSET;have hnok:=aJ2 HTM.out t[q] (z6 _);have hw5:bJ t[q]<=1000000:=by have:=aCy hnok;omega
     have CP:=aA (λwx=>aH0 t[q].1 t[q].2 wx);rw [(aCy hnok).1] at CP;have HFU:=aA hfull;have HEN:=aA (zW L t (q+1));have hlt2:=mD (t.drop (q+1)) (bJ t[q]);rw [ze] at hlt2;have HHP:=aA hP;have HFT:=aA (λ(i:Nat) (hi:i<bJ t[q])=>aJ3 hfull hi);generalize bJ t[q]=m at *;generalize t[q]=nd at *;obtain ⟨ns,nx⟩:=nd;simp only at n0 n1 CP;have HT10:=aA hT;have HF10:=aA hF;have HB10:=aA hb;have hBi:B<=wi.heap.size:=zq hB hb.low.size;have hlN:(L++t).length<=1000000:=by simp;omega
     generalize (L++t).length=N at *;clear hT hF hb hP hnd hfull hendq hnok hsl hcx s1 s2 s3 s4;go_wp2_with (first
      | (go_at_call 91;refine (aB CP _).mono ?_;rintro e w11 ⟨rfl,hb11⟩;have hT11:=HT10.out.below hb11;have HT11:=aA hT11;have HF11:=aA (HF10.out.at (hb11.block mp HF10.out.lt));have HB11:=aA (HB10.out.below hb11 hBi);clear hb11 hT11)
      | go_in)
     go_loopw [11,88] (λe i wx=>∃k:Nat,k<=m/\i=.int .i64 k/\e=.int .i64 ((L.length+(q+1+aH (t.drop (q+1)) k):Nat):Int)/\wx=w11) (λ_ i _=>m-(intOf i).toNat);case atStart=>exact ⟨0,Nat.zero_le _,rfl,by simp [HHP.out];omega,rfl⟩
     case round=>
      obtain ⟨k,hkm,rfl,rfl,rfl⟩:=hrel;by_cases hlt:k<m
      ·have hlti:(k:Int)<(m:Int):=by omega
       obtain ⟨fs1,fs2⟩:=HFT.out k hlt;rw [ze] at fs1;rw [List.drop_drop] at fs2;have he:=HEN.out (q+1+aH (t.drop (q+1)) k) (by omega) (by omega);obtain ⟨ge,rfl,h1,h2,h3⟩:=HT11.out.endOf he;obtain ⟨t0,t1,t2,t3,t4⟩:=HT11.out.cells;have hX:(L.length+(q+1+aH (t.drop (q+1)) k):Nat)<(eG L).length+t.length:=by rw [gV];omega
       have HNX:Hid (L.length+(q+1+aH (t.drop (q+1)) k+aH (t.drop (q+1+aH (t.drop (q+1)) k)) 1)=L.length+(q+1+aH (t.drop (q+1)) (k+1))):=aA (by omega);generalize L.length+(q+1+aH (t.drop (q+1)) k+aH (t.drop (q+1+aH (t.drop (q+1)) k)) 1)=Y at *;generalize L.length+(q+1+aH (t.drop (q+1)) k)=X at *;have hXi:(X:Int)<((eG L).length:Int)+(t.length:Int):=by omega
       clear fs1 fs2 he h2 h3 t0 t2 t3 t4 hX;go_wp2;go_roundw;case rel=>exact ⟨k+1,by omega,by go_num,by rw [<-HNX.out],by first | rfl | trivial⟩
       case measure=>simp [intOf];omega
      ·have hke:k=m:=by omega
       subst hke;have hlti:¬((k:Int)<(k:Int)):=by omega
       obtain ⟨ge,rfl,h1,h2,h3⟩:=HT11.out.endOf (aCx L t (q+1) P (by have:=HHP.out;omega) (by have:=HHP.out;omega));obtain ⟨t0,t1,t2,t3,t4⟩:=HT11.out.cells;have hS:=HT11.out.endAt P (L.length+(q+(1+aH (t.drop (q+1)) k)));rw [show (eL L t (q+1)).set P=(eL L t (q+1)).set (L.length+q) by rw [HHP.out],HSET.out] at hS;have hXe:L.length+(q+1+aH (t.drop (q+1)) k)=L.length+(q+(1+aH (t.drop (q+1)) k)):=by omega
       rw [hXe];clear hXe;have hPE:P<(eG L).length+t.length:=by rw [gV];have:=HHP.out;omega
       have HF12:=aA (HF11.out.grown (bR _ ⟨ge,P,none⟩ (.int .i64 ((L.length+(q+(1+aH (t.drop (q+1)) k)):Nat):Int))) (by
        have:=pM HT11.out.re HF11.out;simpa [zo] using this))
       have HB12:=aA (HB11.out.ints HT11.out.re (bR _ ⟨ge,P,none⟩ (.int .i64 ((L.length+(q+(1+aH (t.drop (q+1)) k)):Nat):Int))) (zq hB HB11.out.low.size));generalize L.length+(q+(1+aH (t.drop (q+1)) k))=X at *;have HT12:=aA hS;have hPEi:(P:Int)<((eG L).length:Int)+(t.length:Int):=by omega
       clear hS h3 t0 t2 t3 t4 hPE;go_wp2;go_roundw;case rel=>exact ⟨q,by omega,by have:=HHP.out;go_num,HT12.out,HF12.out,HB12.out⟩
       case measure=>have:=HHP.out;simp [intOf];omega
def jT(L:List Nd)(rt:Nat->Nat):Prop:=∀p,(aC L).named p->(aC L).named (rt p)
def kV(L:List Nd)(rt rt':Nat->Nat)(a b:Nat)(ok:Bool):Prop:=
 ∀(Bs Q:Nat->Nat->Prop),(∀i j,rt i=rt j->Cl (aC L) Bs i j)->Cl (aC L) Bs a b->dR (aC L) (λi j=>rt i=rt j) (tH Q a b)->
  (ok=true->rt' a=rt' b/\(∀i j,rt' i=rt' j->Cl (aC L) Bs i j)/\dR (aC L) (λi j=>rt' i=rt' j) Q)/\(ok=false->¬dW (aC L) (Cl (aC L) Bs))
structure aV7(w:World)(B tb:Nat)(vn ve vl vs vm:Value)(L:List Nd)(F:List Nat)(S:List Int)(rt:Nat->Nat)(a b:Nat)(ok:Bool)(w':World)(F':List Nat)(rt' d':Nat->Nat):Prop where
 tm:bF w' B tb vn ve vl vs vm L F' S
 forest:gB F' rt' d'
 named:jT L rt'
 fewer:lS F'<=lS F
 far:w.grownBy w' vl.ownBlock
 mono:∀i j,rt i=rt j->rt' i=rt' j
 sem:kV L rt rt' a b ok
section
variable {L:List Nd}{rt:Nat->Nat}{a b:Nat}
theorem kV.same(h:rt a=rt b):kV L rt rt a b true:=λBs Q hs hab hc=>⟨λ_=>⟨h,hs,hc.same h⟩,λe=>by cases e⟩
theorem aV8{u v:Nat}(hu:u=rt a)(hv:v=rt b):lT (λi j=>rt i=rt j) (λi j=>fS rt u v i=fS rt u v j) a b:=by subst hu;subst hv;intro p q;exact aEs p q
theorem aCz{u v:Nat}(hu:u=rt b)(hv:v=rt a):lT (λi j=>rt i=rt j) (λi j=>fS rt u v i=fS rt u v j) a b:=by
 subst hu;subst hv;intro p q;show fS rt (rt b) (rt a) p=fS rt (rt b) (rt a) q↔_;rw [aEs];constructor
 ·rintro (e | e | e)
  ·exact zd e
  ·exact zr (zr e)
  ·exact zr (zd e)
 ·rintro (e | e | e)
  ·exact zd e
  ·exact zr (zr e)
  ·exact zr (zd e)
theorem lT.sound{E E' C:Nat->Nat->Prop}(h:lT E E' a b)(hs:∀i j,E i j->C i j)(h1:∀i j,C i j->C j i)(h2:∀i j k,C i j->C j k->C i k)(hab:C a b):∀i j,E' i j->C i j:=by
 intro i j e;rcases (h i j).1 e with e | ⟨e1,e2⟩ | ⟨e1,e2⟩
 ·exact hs _ _ e
 ·exact h2 _ _ _ (hs _ _ e1) (h2 _ _ _ hab (h1 _ _ (hs _ _ e2)))
 ·exact h2 _ _ _ (hs _ _ e1) (h2 _ _ _ (h1 _ _ hab) (h1 _ _ (hs _ _ e2)))
theorem kV.var{rt':Nat->Nat}(hm:lT (λi j=>rt i=rt j) (λi j=>rt' i=rt' j) a b)(hv:(∀p,rt p=rt a->¬(aC L).named p)\/∀p,rt p=rt b->¬(aC L).named p):kV L rt rt' a b true:=λBs Q hs hab hc=>
 ⟨λ_=>⟨hm.ab (qB rt),hm.sound hs (λ_ _=>Cl.symm) (λ_ _ _=>Cl.trans) hab,hc.var (qB rt) hm hv⟩,λe=>by cases e⟩
theorem kV.clash{rt':Nat->Nat}(hr:∀p,rt (rt p)=rt p)(n1:(aC L).named (rt a))(n2:(aC L).named (rt b))(hl:(aC L).lab (rt a)≠(aC L).lab (rt b)):kV L rt rt' a b false:=λBs Q hs hab hc=>
 ⟨λe=>(by cases e),λ_ n=>hl (n (rt a) (rt b) ((hs _ _ (hr a)).trans (hab.trans (hs _ _ (hr b).symm))) n1 n2)⟩
theorem jT.var(h:jT L rt){r:Nat}(hr:¬(aC L).named r):∀p,rt p=r->¬(aC L).named p:=by rintro p rfl hp;exact hr (h p hp)
theorem jT.join(h:jT L rt){u v:Nat}(hn:(aC L).named u->(aC L).named v):jT L (fS rt u v):=by
 intro p hp;have:=h p hp;unfold fS;split
 ·rename_i e;rw [e] at this;exact hn this
 ·exact this
theorem xF(rt:Nat->Nat)(u v:Nat):∀i j,rt i=rt j->fS rt u v i=fS rt u v j:=by intro i j e;unfold fS;rw [e]
end
theorem aD0(tb a:Nat)(w:World) :
  Calls zt 115 #[.pointer (some ⟨tb,0,none⟩),.int .i64 a] w λe w'=>e=.returned (.func (.func 133) #[] #[.pointer (some ⟨w.heap.size+1,0,none⟩),.pointer (some ⟨w.heap.size,0,none⟩)])/\
   w'=(w.alloc (.cells #[.pointer (some ⟨tb,0,none⟩)] 107)).alloc (.cells #[.int .i64 a] 3):=by
 go_enter Tryz.func115,Tryz.ntmps115;go_wp2;go_ret;exact ⟨rfl,rfl⟩
end Go.Proofs.YtcldkjcpofjmhaaGreatDoor
