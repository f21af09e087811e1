import Derived.Test.YtcldkjcpofjmhaaGreatDoorLMemM
import Derived.Test.YtcldkjcpofjmhaaGreatDoorStepAppM
open Array renaming getElem?_eq_some_iff→zw
open List renaming setIfInBounds_toArray→zz,set_cons_zero→zy,set_cons_succ→zx,mem_append→zq,mem_filterMap→zp,getElem?_append_right→zm,mem_cons_of_mem→zl,drop_eq_getElem_cons→zk,mem_flatMap→zj,mem_cons_self→zi,getElem?_append_left→zh,getElem?_eq_some_iff→zg,map_toArray→zd,length_replicate→za,set_append_right→z2,map_cons→z5,mem_cons→z6,map_nil→z7
open Nat renaming le_refl→zu,mod_eq_of_lt→zc,mul_comm→zb,mul_le_mul→z3,mul_le_mul_right→z4,le_trans→z8
open Or renaming inl→zt,inr→zo
namespace Go.Proofs.YtcldkjcpofjmhaaGreatDoor
open Act renaming put→zs
open Region renaming wanted→ze
open _root_.Go.Proofs.Tryz renaming prog→zv,underlying25→z9
open Value renaming ownBlock→zr,int→yz
open World renaming cell?→zn,ownsRow_nil→zf
set_option maxHeartbeats 4000000
set_option maxRecDepth 100000
open Go.RowKit Go.Shelf
variable {xy:Value×Value}
theorem aAr{ops:Array Oper}{rest:List Oper}{o:Oper}{a:Act}{w:World}{Q:Exit->Act->World->Prop}(hgd:o.guard=none)(s x:Operand)(hop:o.op=.call {callee:=.builtin .append,args:=#[s,x],argTypes:=#[37,37]})
  (B:Nat) (v:Value) (n:Nat) (m:Int) (hs:a.eval s=v) (ho:w.ownsRow B 36 2 v n (aH (mks n m))) (hB:B<=w.heap.size) (ad:Addr) (k c:Nat) (hx:a.eval x=.slice (some ad) k c) (hk:0<k/\k<=3) (hn:n<=5864062014805) (hnews:∀j u,(aH (mks k m))[j]?=some u->w.cell? (ad.add j)=some u)
  (h:∀v' w',w'.ownsRow B 36 2 v' (n+k) (aH (mks (n+k) m))->w'.ownsRow B 36 2 v n (aH (mks n m))->w.grownBy w' v.ownBlock->aX w v v'->(∀u,dR w u m->dR w' u m)->wpList zv ops Q rest (a.put o.dst v') w'):wpList zv ops Q (o :: rest) a w:=by
 refine wpList_plain hgd λK hK'=>?_
 obtain ⟨v',w',hr,h1,h2,h3,h4,h5⟩:=aOx w o.type B v n m ho hB ad k c hk hn hnews;unfold Oper.wp execOp;simp only [hop,resolve,invoke,builtin,Sem.run_bind,Sem.run_pure,Result.andThen_ok,zd,z5,z7,hs,hx,hr];exact hK' _ _ (h v' w' h1 h2 h3 h4 h5)
theorem aLc(w:World)(m:Int):∀j u,(aH (mks 1 m))[j]?=some u->(w.alloc (.cells #[.string ⟨#[35]⟩,.int .i64 m] 36)).cell? ((⟨w.heap.size,0,none⟩ : Addr).add j)=some u:=by
 intro j u hj;have h:aH (mks 1 m)=[.string ⟨#[35]⟩,.int .i64 m]:=rfl;rw [h] at hj;match j,hj with
 | 0,hj=>simp at hj;subst hj;simp [Addr.add]
 | 1,hj=>simp at hj;subst hj;simp [Addr.add]
 | j+2,hj=>simp at hj
theorem aLd(w:World)(m:Int):∀j u,(aH (mks 2 m))[j]?=some u->(w.alloc (.cells #[.string ⟨#[35]⟩,.int .i64 m,.string ⟨#[35]⟩,.int .i64 m] 36)).cell? ((⟨w.heap.size,0,none⟩ : Addr).add j)=some u:=by
 intro j u hj;have h:aH (mks 2 m)=[.string ⟨#[35]⟩,.int .i64 m,.string ⟨#[35]⟩,.int .i64 m]:=rfl;rw [h] at hj;match j,hj with
 | 0,hj=>simp at hj;subst hj;simp [Addr.add]
 | 1,hj=>simp at hj;subst hj;simp [Addr.add]
 | 2,hj=>simp at hj;subst hj;simp [Addr.add]
 | 3,hj=>simp at hj;subst hj;simp [Addr.add]
 | j+4,hj=>simp at hj
theorem aLe(w:World)(m:Int):∀j u,(aH (mks 3 m))[j]?=some u->(w.alloc (.cells #[.string ⟨#[35]⟩,.int .i64 m,.string ⟨#[35]⟩,.int .i64 m,.string ⟨#[35]⟩,.int .i64 m] 36)).cell? ((⟨w.heap.size,0,none⟩ : Addr).add j)=some u:=by
 intro j u hj;have h:aH (mks 3 m)=[.string ⟨#[35]⟩,.int .i64 m,.string ⟨#[35]⟩,.int .i64 m,.string ⟨#[35]⟩,.int .i64 m]:=rfl;rw [h] at hj;match j,hj with
 | 0,hj=>simp at hj;subst hj;simp [Addr.add]
 | 1,hj=>simp at hj;subst hj;simp [Addr.add]
 | 2,hj=>simp at hj;subst hj;simp [Addr.add]
 | 3,hj=>simp at hj;subst hj;simp [Addr.add]
 | 4,hj=>simp at hj;subst hj;simp [Addr.add]
 | 5,hj=>simp at hj;subst hj;simp [Addr.add]
 | j+6,hj=>simp at hj
theorem aE0(w:World)(t ty e:TypeId)(z:Value)(bytes:Nat)(ht:zv.underlying t=some (.slice e))(hinfo:(zv.info? e).map (λi=>(i.zero,i.size,i.bytes))=some (some z,1,bytes))(hz1:z.cells.size=1)(hby:bytes<=24)(base:Nat)(v:Value)(n:Nat)(xs:List Value)(hown:w.ownsRow base e 1 v n xs)(hn:n<=10000000000)(hbase:base<=w.heap.size)(g c k:Nat)(news:List Value)(hk:news.length=k)(hk0:0<k/\k<=4)(hnews:∀j u,news[j]?=some u->w.cell? ((⟨g,0,none⟩ : Addr).add j)=some u)(h1:∀u∈news,u.oneCell'=true) :
  ∃v' w',(Builtin.append_ #[t,t] ty #[v,.slice (some ⟨g,0,none⟩) k c]).run zv w=.ok v' w'/\w'.ownsRow base e 1 v' (n+k) (xs++news)/\w.grownBy w' v.ownBlock/\aX w v v':=by
 obtain ⟨i,hi,hz,hs,hy⟩:=info_parts hinfo;have hb24:(n+k)*bytes<=140737488355328:=z8 (z3 (show n+k<=10000000004 by omega) hby) (by decide);by_cases hv:v.ownBlock=none
 ·have hnil:v=.slice none 0 0/\n=0:=by
   obtain ⟨_,h | ⟨g,cap,cur,rfl,_⟩⟩:=hown
   ·exact h
   ·simp [zr] at hv
  obtain ⟨rfl,rfl⟩:=hnil;have hxs:xs=[]:=List.eq_nil_of_length_eq_zero (by have:=hown.1;simpa using this);subst hxs;obtain ⟨v',w',hr,r1,r2,r3⟩:=run_append_own (P:=zv) w w.heap.size t ty e i z 1 bytes ht hi hz hs hy hz1 (by decide) (.slice none 0 0) 0 [] (zf _ _ _ _) ⟨g,0,none⟩ k c news (by omega) hnews h1 (by unfold maxLen;omega) hb24 (zu _);refine ⟨v',w',hr,dI r1 hbase,r2,?_⟩;cases hb:v'.ownBlock with
  | none=>exact zt (by rw [hb,hv])
  | some g'=>exact zo ⟨g',hb,(aT r1 g' hb).1⟩
 ·obtain ⟨v',w',hr,r1,r2,_⟩:=run_append_own (P:=zv) w base t ty e i z 1 bytes ht hi hz hs hy hz1 (by decide) v n xs hown ⟨g,0,none⟩ k c news (by omega) hnews h1 (by unfold maxLen;omega) hb24 hbase;refine ⟨v',w',hr,r1,r2,?_⟩;rcases wB w base t ty e i z 1 bytes ht hi hz hs hy (by decide) v n xs hown hv ⟨g,0,none⟩ k c news (by omega) hnews h1 (by unfold maxLen;omega) hb24 hr with e | e
  ·exact zt e
  ·exact zo ⟨_,e,zu _⟩
theorem aE1{ops:Array Oper}{rest:List Oper}{o:Oper}{a:Act}{w:World}{Q:Exit->Act->World->Prop}(hgd:o.guard=none)(s x:Operand)(t e:TypeId)(hop:o.op=.call {callee:=.builtin .append,args:=#[s,x],argTypes:=#[t,t]})
  (z:Value) (bytes:Nat) (ht:zv.underlying t=some (.slice e)) (hinfo:(zv.info? e).map (λi=>(i.zero,i.size,i.bytes))=some (some z,1,bytes)) (hz1:z.cells.size=1) (hby:bytes<=24) (base:Nat) (v:Value) (n:Nat) (xs:List Value) (hs:a.eval s=v) (hown:w.ownsRow base e 1 v n xs) (hn:n<=10000000000) (hbase:base<=w.heap.size) (g c k:Nat) (news:List Value) (hx:a.eval x=.slice (some ⟨g,0,none⟩) k c) (hk:news.length=k) (hk0:0<k/\k<=4) (hnews:∀j u,news[j]?=some u->w.cell? ((⟨g,0,none⟩ : Addr).add j)=some u) (h1:∀u∈news,u.oneCell'=true)
  (h:∀v' w',w'.ownsRow base e 1 v' (n+k) (xs++news)->w.grownBy w' v.ownBlock->aX w v v'->wpList zv ops Q rest (a.put o.dst v') w'):wpList zv ops Q (o :: rest) a w:=by
 refine wpList_plain hgd λK hK'=>?_
 obtain ⟨v',w',hr,r1,r2,r3⟩:=aE0 w t o.type e z bytes ht hinfo hz1 hby base v n xs hown hn hbase g c k news hk hk0 hnews h1;unfold Oper.wp execOp;simp only [hop,resolve,invoke,builtin,Sem.run_bind,Sem.run_pure,Result.andThen_ok,zd,z5,z7,hs,hx,hr];exact hK' _ _ (h v' w' r1 r2 r3)
theorem aE2{ops:Array Oper}{o:Oper}{a:Act}{w:World}{K:Act->World->Prop}{Q:Exit->Act->World->Prop}{E:Prop}(hgd:o.guard=none)(s x:Operand)(t e:TypeId)(hop:o.op=.call {callee:=.builtin .append,args:=#[s,x],argTypes:=#[t,t]})
  (z:Value) (bytes:Nat) (ht:zv.underlying t=some (.slice e)) (hinfo:(zv.info? e).map (λi=>(i.zero,i.size,i.bytes))=some (some z,1,bytes)) (hz1:z.cells.size=1) (hby:bytes<=24) (base:Nat) (v:Value) (n:Nat) (xs:List Value) (hs:a.eval s=v) (hown:w.ownsRow base e 1 v n xs) (hn:n<=10000000000) (hbase:base<=w.heap.size) (g c k:Nat) (news:List Value) (hx:a.eval x=.slice (some ⟨g,0,none⟩) k c) (hk:news.length=k) (hk0:0<k/\k<=4) (hnews:∀j u,news[j]?=some u->w.cell? ((⟨g,0,none⟩ : Addr).add j)=some u) (h1:∀u∈news,u.oneCell'=true)
  (h:∀v' w',w'.ownsRow base e 1 v' (n+k) (xs++news)->w.grownBy w' v.ownBlock->aX w v v'->K (a.put o.dst v') w') :
  if ze o (yielded ops a.tmps)=true then Oper.wp zv o a w K Q else E:=by
 have hw:ze o (yielded ops a.tmps)=true:=by simp [ze,hgd]
 rw [if_pos hw];obtain ⟨v',w',hr,r1,r2,r3⟩:=aE0 w t o.type e z bytes ht hinfo hz1 hby base v n xs hown hn hbase g c k news hk hk0 hnews h1;unfold Oper.wp execOp;simp only [hop,resolve,invoke,builtin,Sem.run_bind,Sem.run_pure,Result.andThen_ok,zd,z5,z7,hs,hx,hr];exact h v' w' r1 r2 r3
theorem aAs(w:World)(a b c d:Value)(t:TypeId):∀j u,[a,b,c,d][j]?=some u->(w.alloc (.cells #[a,b,c,d] t)).cell? ((⟨w.heap.size,0,none⟩ : Addr).add j)=some u:=by
 intro j u hj;match j,hj with
 | 0,hj=>simp at hj;subst hj;simp [Addr.add]
 | 1,hj=>simp at hj;subst hj;simp [Addr.add]
 | 2,hj=>simp at hj;subst hj;simp [Addr.add]
 | 3,hj=>simp at hj;subst hj;simp [Addr.add]
 | j+4,hj=>simp at hj
theorem aLf(a b c d:Option Addr)(n1 n2 n3 n4 c1 c2 c3 c4:Nat):∀u∈[Value.slice a n1 c1,.slice b n2 c2,.slice c n3 c3,.slice d n4 c4],u.oneCell'=true:=by intro u hu;simp at hu;rcases hu with rfl | rfl | rfl | rfl <;> rfl
theorem aE3(m:Int):∀u∈[yz .i64 m,.int .i64 m,.int .i64 m,.int .i64 m],u.oneCell'=true:=by intro u hu;simp at hu;subst hu;rfl
structure sN(w:World)(B bk:Nat)(xy:Value×Value)(nv mv lv nv':Value)(E:List (Value×Int))(m:Int)(D:List Value)(wr:World):Prop where
 box:wr.heap[bk]?=some (.cells (kZ xy nv' mv m) 31)
 high:B<=bk
 rn:wr.ownsRow B 37 1 nv' (E.length+4) (E.map Prod.fst++D)
 rm:wr.ownsRow B 3 1 mv E.length (E.map λx=>yz .i64 x.2)
 old:∀x∈E,dR wr x.1 x.2
 new:∀d∈D,dR wr d m
 far:iV w wr bk nv mv lv
 mn:aX w nv nv'
section
variable {w wr w4:World}{B bk bx:Nat}{nv mv lv nv' mv':Value}{E:List (Value×Int)}{m:Int}{n:Nat}{D:List Value}
theorem dR.other{w w':World}{B:Nat}{e:TypeId}{v u:Value}{n':Nat}{xs:List Value}{m:Int}(h:dR w v m)(ho:w.ownsRow B e 1 u n' xs)(he:36≠e)(hg:w.grownBy w' u.ownBlock):dR w' v m:=by
 rcases h with h | ⟨g,n,c,cur,rfl,hh,hk⟩
 ·exact zt h
 ·refine dR.grown (zo ⟨g,n,c,cur,rfl,hh,hk⟩) hg ?_;right;intro e';obtain ⟨_,⟨rfl,_⟩ | ⟨g',cap,cur',rfl,_,hh',_⟩⟩:=ho
  ·simp [zr] at e'
  ·simp [zr] at e';subst e';rw [hh] at hh';simp at hh';exact he hh'.2
theorem uI.mid(h:uI w B bk bx xy nv mv lv E m n D wr){X:Obj}(r1:w4.ownsRow B 37 1 nv' (E.length+4) (E.map Prod.fst++D))(r2:(wr.alloc X).grownBy w4 nv.ownBlock)(r3:aX (wr.alloc X) nv nv') :
  sN w B bk xy nv mv lv nv' E m D (w4.setCell ⟨bk,0,none⟩ nv')/\w4.cell? ⟨bk,0,none⟩=some nv/\w4.frozen? ⟨bk,0,none⟩=false:=by
 have hb:Below wr.heap.size wr (wr.alloc X):=(Below.refl _ _).alloc (zu _) X;have hbk:=h.book.below hb;have hne:nv.ownBlock≠some bk:=cD hbk.rn hbk.box (by decide);have hbx:w4.heap[bk]?=some (.cells (kZ xy nv mv m) 31):=by rw [r2.block bk hbk.lt (λe=>hne e.symm),hbk.box]
 have hws:=h.far.size;refine ⟨⟨yQ hbx,hbk.high,dW r1 hbx (by decide),dW (cG hbk.rm r2 (bV hbk.rm hbk.rn (by decide))) hbx (by decide),λx hx=>((hbk.mks x hx).other hbk.rn (by decide) r2).setB hbx 0 _,λd hd=>(((h.marks d hd).below hb).other hbk.rn (by decide) r2).setB hbx 0 _,((h.far.below hb).grown r2 (zt (aX.refl _ _))).setB 0 _,(aX.refl w nv).trans r3 (by simp;omega)⟩,by simp [zn,hbx],by simp [World.frozen?,hbx]⟩
end
theorem sN.done{w wr w6:World}{B bk:Nat}{nv mv lv nv' mv' d1 d2 d3 d4:Value}{E:List (Value×Int)}{m:Int}(h:sN w B bk xy nv mv lv nv' E m [d1,d2,d3,d4] wr){X:Obj}(r1:w6.ownsRow B 3 1 mv' (E.length+4) ((E.map λx=>yz .i64 x.2)++[.int .i64 m,.int .i64 m,.int .i64 m,.int .i64 m]))(r2:(wr.drew.alloc X).grownBy w6 mv.ownBlock)(r3:aX (wr.drew.alloc X) mv mv')(hf:E.length+4<=10000000000)(hlo : -10000000000<=m)(hhi:m<=0) :
  (dS (w6.setCell ⟨bk,1,none⟩ mv') B bk xy nv' mv' (E++[(d1,m),(d2,m),(d3,m),(d4,m)]) m/\iV w (w6.setCell ⟨bk,1,none⟩ mv') bk nv mv lv/\aX w mv mv')/\w6.cell? ⟨bk,1,none⟩=some mv/\w6.frozen? ⟨bk,1,none⟩=false:=by
 have hb:Below wr.heap.size wr (wr.drew.alloc X):=(aJ (w1:=wr.drew) ⟨1,rfl⟩).alloc (zu _) X;have hbl:bk<wr.heap.size:=(zw.1 h.box).1;have hbox:(wr.drew.alloc X).heap[bk]?=some (.cells (kZ xy nv' mv m) 31):=by rw [hb.block bk hbl,h.box]
 have hrm:=aU h.rm hb (zu _);have hrn:=aU h.rn hb (zu _);have hne:mv.ownBlock≠some bk:=cD hrm hbox (by decide);have hbx:w6.heap[bk]?=some (.cells (kZ xy nv' mv m) 31):=by rw [r2.block bk (by simp;omega) (λe=>hne e.symm),hbox]
 have hws:=h.far.size;have hl:(E++[(d1,m),(d2,m),(d3,m),(d4,m)]).length=E.length+4:=by simp
 refine ⟨⟨⟨yQ hbx,h.high,?_,?_,?_,by rw [hl];exact hf,hlo,hhi⟩,((h.far.below hb).grown r2 (zo (zt (aX.refl _ _)))).setB 1 _,(aX.refl w mv).trans r3 (by simp;omega)⟩,by simp [zn,hbx],by simp [World.frozen?,hbx]⟩
 ·rw [hl,List.map_append];exact dW (cG hrn r2 (bV hrn hrm (by decide))) hbx (by decide)
 ·rw [hl,List.map_append];exact dW r1 hbx (by decide)
 ·intro x hx;rcases zq.1 hx with hx | hx
  ·exact (((h.old x hx).below hb).other hrm (by decide) r2).setB hbx 1 _
  ·have:x.2=m/\x.1∈[d1,d2,d3,d4]:=by
    simp at hx;rcases hx with rfl | rfl | rfl | rfl <;> simp
   rw [this.1];exact (((h.new x.1 this.2).below hb).other hrm (by decide) r2).setB hbx 1 _
theorem sN.keep8'{w wr w6:World}{B bk:Nat}{nv mv lv nv':Value}{E:List (Value×Int)}{m:Int}{D:List Value}(h:sN w B bk xy nv mv lv nv' E m D wr){X:Obj}(r2:(wr.drew.alloc X).grownBy w6 mv.ownBlock):w6.cell? ⟨bk,8,none⟩=some (.int .i64 m):=by
 have hb:Below wr.heap.size wr (wr.drew.alloc X):=(aJ (w1:=wr.drew) ⟨1,rfl⟩).alloc (zu _) X;have hbl:bk<wr.heap.size:=(zw.1 h.box).1;have hbox:(wr.drew.alloc X).heap[bk]?=some (.cells (kZ xy nv' mv m) 31):=by rw [hb.block bk hbl,h.box]
 have hne:mv.ownBlock≠some bk:=cD (aU h.rm hb (zu _)) hbox (by decide);have hbx:w6.heap[bk]?=some (.cells (kZ xy nv' mv m) 31):=by rw [r2.block bk (by simp;omega) (λe=>hne e.symm),hbox]
 simp [zn,hbx]
theorem sN.keep8{w wr w6:World}{B bk:Nat}{nv mv lv nv':Value}{E:List (Value×Int)}{m:Int}{D:List Value}(h:sN w B bk xy nv mv lv nv' E m D wr){X:Obj}(r2:(wr.drew.alloc X).grownBy w6 mv.ownBlock)(x:Value):(w6.setCell ⟨bk,1,none⟩ x).cell? ⟨bk,8,none⟩=some (.int .i64 m):=by rw [World.cell?_setCell_other _ _ _ _ (by simp)];exact h.keep8' r2
theorem fV{ops:Array Oper}{Q:Exit->Act->World->Prop}{S:World->Prop}{i:Nat}{oi:Oper}{d:Option Tmp}{v:Value}{fuel:Nat}{listed:Array Bool}{a:Act}{w:World}(hi:ops[i]?=some oi)(hd:oi.dst=d)(hs:Region.noSelect ops=true)(hf:Region.free .any ops listed i=true)(hr:(Region.ready .any ops listed).contains i=true)
  (hQ:∀c a w,Q (.panic c) (a.put d v) w->Q (.panic c) a w) (hy:YieldsIf zv ops S oi v a) (hS:S w) (h:wpAnyH zv .any ops Q S fuel (listed.setIfInBounds i true) (a.put d v) w):wpAnyH zv .any ops Q S (fuel+1) listed a w:=by
 subst hd;exact wpAnyH_take hi hs hf hr hQ hy hS h
theorem xV{ops:Array Oper}{i:Nat}{o:Oper}{d:Option Tmp}{a:Act}{w w':World}{v:Value}{K:Act->World->Prop}{Q:Exit->Act->World->Prop}(hi:ops[i]?=some o)(hd:o.dst=d)(hg:o.guard=none)(hr:(execOp a.eval o).run zv w=.ok (.value v) w')(h:K (a.put d v) w'):wpOp zv ops Q i K a w:=by subst hd;exact sY hi hg hr h
theorem aE4{ops:Array Oper}{i:Nat}{o:Oper}{d:Option Tmp}{a:Act}{w w':World}{K:Act->World->Prop}{Q:Exit->Act->World->Prop}(hi:ops[i]?=some o)(hd:o.dst=d)(hg:o.guard=none)(hr:(execOp a.eval o).run zv w=.ok .skip w')(h:K (a.put d undef) w'):wpOp zv ops Q i K a w:=by
 subst hd;refine wpOp_step hi λK' hK=>?_
 rw [if_pos (by simp [ze,hg])];unfold Oper.wp;rw [hr];exact hK _ _ h
structure xW(w:World)(B bk:Nat)(xy:Value×Value)(nv mv lv:Value)(E:List (Value×Int))(next:Int)(w':World)(nv' mv':Value)(E':List (Value×Int)):Prop where
 book:dS w' B bk xy nv' mv' (E++E') (next-1)
 len:E'.length=4
 new:∀x∈E',aX w lv x.1
 far:iV w w' bk nv mv lv
 mn:aX w nv nv'
 mm:aX w mv mv'
theorem aLg(B bk:Nat)(nv mv lv:Value)(E:List (Value×Int))(next:Int)(l:List Nd)(w:World)(h:dS w B bk xy nv mv E next)(ho:fG w B lv l)(hap:∀x∈E,x.1.ownBlock=none\/x.1.ownBlock≠lv.ownBlock)(hlen:l.length<=5864062014805)(hfew:E.length<=9000000000)(hnx : -9000000000<=next)(hB:B<=w.heap.size) :
  Calls zv 28 #[.pointer (some ⟨bk,0,none⟩),lv] w λe w'=>∃nv' mv' E',e=.returned (.tuple #[])/\xW w B bk xy nv mv lv E next w' nv' mv' E':=by
 have hhi:=h.hi;have hc8:=h.c8;have hf8:=h.soft 8;have hbl:=h.lt;obtain ⟨la,lc,rfl⟩:=aS ho;obtain ⟨na,nn,nc,rfl⟩:=jV h.rn;obtain ⟨ma,mn,mc,rfl⟩:=jV h.rm;have hbk1:=h.setNext (x:=next-1) (by omega) (by omega);have ho1:(w.setCell ⟨bk,8,none⟩ (.int .i64 (next-1))).ownsRow B 36 2 (.slice la l.length lc) l.length (aH l):=dW ho h.box (by decide);have hfar1:iV w (w.setCell ⟨bk,8,none⟩ (.int .i64 (next-1))) bk (.slice na nn nc) (.slice ma mn mc) (.slice la l.length lc):=(iV.refl _ _ _ _ _).setB 8 _;have HAP:=aA hap;have HW0:=aA h;have hvne:(Value.slice la l.length lc).ownBlock≠some w.heap.size:=pW ho;obtain ⟨y0,y1⟩:=sX (w.setCell ⟨bk,8,none⟩ (.int .i64 (next-1))) (.string ⟨#[35]⟩) (.int .i64 (next-1)) 36;have hsz1:(w.setCell ⟨bk,8,none⟩ (.int .i64 (next-1))).heap.size=w.heap.size:=by simp [World.setCell]
 rw [hsz1] at y0 y1;have hbA:Below (w.setCell ⟨bk,8,none⟩ (.int .i64 (next-1))).heap.size (w.setCell ⟨bk,8,none⟩ (.int .i64 (next-1))) ((w.setCell ⟨bk,8,none⟩ (.int .i64 (next-1))).alloc (.cells #[.string ⟨#[35]⟩,.int .i64 (next-1)] 36)):=(Below.refl _ _).alloc (zu _) _;have HST:=aA (wD.mk (hbk1.below hbA) (aU ho1 hbA (zu _)) (hfar1.below hbA) y0 y1 hvne);clear h ho hap hbk1 ho1 hfar1 hbA hsz1 y0 y1 hvne;go_enter Tryz.func28,Tryz.ntmps28;go_wp2;clear hc8 hf8;generalize (w.setCell ⟨bk,8,none⟩ (.int .i64 (next-1))).alloc (.cells #[.string ⟨#[35]⟩,.int .i64 (next-1)] 36)=W2 at *;have hm1 : -10000000000<=next-1/\next-1<=0:=by omega
 generalize hmm:next-1=m at *
 have HMM:=aA hmm;clear hmm;go_loopw [5] (λc wr=>∃k:Nat,k<=l.length/\c=.int .i64 k/\wD w B bk w.heap.size xy (.slice na nn nc) (.slice ma mn mc) (.slice la l.length lc) E m (mks k m++l.drop k) wr) (λc _=>l.length-(intOf c).toNat);case atStart=>exact ⟨0,Nat.zero_le _,rfl,by simpa using HST.out⟩
 case round=>
  obtain ⟨k,hk,rfl,hW⟩:=hrel;have z0:=hW.b0;have z1:=hW.b1;by_cases hlt:k<l.length
  ·have hlti:(k:Int)<(l.length:Int):=by omega
   have hd:l.drop k=l[k] :: l.drop (k+1):=zk hlt;rw [hd] at hW;obtain ⟨a',cap',e',hc'⟩:=aBh hW.own;obtain ⟨g,ha,e0,e1⟩:=hc' k l[k] (by rw [zm (by simp)];simp);simp at e';obtain ⟨rfl,-,-⟩:=e';subst ha;have hfz:∀j,wr.frozen? ⟨g,j,none⟩=false:=λj=>by
    have:=hW.own;rw [show (mks k m++l[k] :: l.drop (k+1)).length=l.length by simp;omega] at this;exact this.frozenAt j
   have f0:=hfz (k*2);have f1:=hfz (k*2+1);have hput:=hW.put (by simp;omega) HAP.out;simp only [za] at hput;have HP:=aA hput;clear hput hW hc' hd hfz;generalize l[k]=y at *;obtain ⟨ys,yx⟩:=y;simp only at e0 e1;clear HST HMM hm1;go_wp2;go_roundw;case rel=>exact ⟨k+1,by omega,by go_num,by rw [show mks (k+1) m++l.drop (k+1)=mks k m++wC m :: l.drop (k+1) by (unfold mks;rw [List.replicate_succ'];simp)];exact HP.out⟩
   case measure=>simp [intOf];omega
  ·have hke:k=l.length:=by omega
   subst hke;have hlti:¬((l.length:Int)<(l.length:Int)):=by omega
   rw [List.drop_length,List.append_nil] at hW;have hown:=hW.own;rw [za] at hown;have HS0:=aA (uI.mk (D:=[.slice la l.length lc]) hW.book hown (λd hd=>by simp at hd;subst hd;exact dR.of_own hown (by omega)) (λd hd=>by simp at hd;subst hd;exact aX.refl _ _) hW.far z0 z1 hW.vne);have hws:=hW.far.size;clear hW hown;generalize hnl:l.length=n at *;have HNL:=aA hnl;clear hnl;go_wp2_with (first
    | (at_builtin;refine aE1 rfl (.tmp 50) (.tmp 55) 24 37 rfl (.slice none 0 0) 24 Tryz.underlying24 aOy rfl (by omega) B _ E.length (E.map Prod.fst) rfl (HS3.out.book.rn.alloc _) (by omega) (by simp;omega) w3.heap.size 4 4 [.slice la n lc,.slice a1 n1 c1,.slice a2 n2 c2,.slice a3 n3 c3] rfl rfl (by omega) (aAs w3 _ _ _ _ 37) (aLf _ _ _ _ _ _ _ _ _ _ _ _) ?_;intro v4 w4 r1 r2 r3;obtain ⟨hM,d0,df⟩:=HS3.out.mid r1 r2 r3;have HM:=aA hM;have hw4:w3.heap.size<=w4.heap.size:=(by have:=r2.size;simp at this;omega);obtain ⟨a4,n4,c4,rfl⟩:=jV r1;clear r1 r2 r3 hM)
    | (at_builtin;refine aAr rfl (.tmp 40) (.tmp 44) rfl B _ n m rfl (HS2.out.own.alloc _) (by simp;omega) ⟨w2.heap.size,0,none⟩ 3 3 rfl (by omega) hlen (aLe w2 m) ?_;intro v3 w3 r1 r2 r3 r4 r5;have HS3:=aA (HS2.out.next HAP.out r1 r2 r3 r4 r5 (by omega));have b30:=HS3.out.b0;have b31:=HS3.out.b1;have hw3:=HS3.out.far.size;have q0:=HS3.out.book.c0;obtain ⟨a3,n3,c3,rfl⟩:=jV r1;clear r1 r2 r3 r4 r5)
    | (at_builtin;refine aAr rfl (.tmp 35) (.tmp 38) rfl B _ n m rfl (HS1.out.own.alloc _) (by simp;omega) ⟨w1.heap.size,0,none⟩ 2 2 rfl (by omega) hlen (aLd w1 m) ?_;intro v2 w2 r1 r2 r3 r4 r5;have HS2:=aA (HS1.out.next HAP.out r1 r2 r3 r4 r5 (by omega));have b20:=HS2.out.b0;have b21:=HS2.out.b1;have hw2:=HS2.out.far.size;obtain ⟨a2,n2,c2,rfl⟩:=jV r1;clear r1 r2 r3 r4 r5)
    | (at_builtin;refine aAr rfl (.tmp 31) (.tmp 33) rfl B _ n m rfl (HS0.out.own.alloc _) (by simp;omega) ⟨wr.heap.size,0,none⟩ 1 1 rfl (by omega) hlen (aLc wr m) ?_;intro v1 w1 r1 r2 r3 r4 r5;have HS1:=aA (HS0.out.next HAP.out r1 r2 r3 r4 r5 (by omega));have b10:=HS1.out.b0;have b11:=HS1.out.b1;have hw1:=HS1.out.far.size;obtain ⟨a1,n1,c1,rfl⟩:=jV r1;clear r1 r2 r3 r4 r5)
    | go_in)
   have hc1:(w4.setCell ⟨bk,0,none⟩ (.slice a4 n4 c4)).cell? ⟨bk,1,none⟩=some (.slice ma mn mc):=by simp [zn,HM.out.box]
   have hc8:(w4.setCell ⟨bk,0,none⟩ (.slice a4 n4 c4)).cell? ⟨bk,8,none⟩=some (.int .i64 m):=by simp [zn,HM.out.box]
   have hb5:bk<(w4.setCell ⟨bk,0,none⟩ (.slice a4 n4 c4)).heap.size:=(zw.1 HM.out.box).1;have hw5:w4.heap.size=(w4.setCell ⟨bk,0,none⟩ (.slice a4 n4 c4)).heap.size:=by simp [World.setCell]
   have hw5':w.heap.size<=(w4.setCell ⟨bk,0,none⟩ (.slice a4 n4 c4)).heap.size:=by omega
   clear d0 df hw5 z0 z1 b10 b11 b20 b21 b30 b31 q0;generalize w4.setCell ⟨bk,0,none⟩ (.slice a4 n4 c4)=w5 at *;have hX1:∀X,(w5.alloc X).cell? ⟨bk,1,none⟩=some (.slice ma mn mc):=λX=>Below.at' ((Below.refl w5.heap.size w5).alloc (zu _) X) (zu _) hc1
   have hX8:∀X,(w5.alloc X).cell? ⟨bk,8,none⟩=some (.int .i64 m):=λX=>Below.at' ((Below.refl w5.heap.size w5).alloc (zu _) X) (zu _) hc8
   have hrm:w5.drew.ownsRow B 3 1 (.slice ma mn mc) E.length (E.map λx=>yz .i64 x.2):=HM.out.rm;refine wp_region_held (S:=λw'=>w'.cell? ⟨bk,8,none⟩=some (.int .i64 m)) (by kernel_rfl) ?_;change wpAnyH _ _ _ _ _ _ _ _ w5.drew;refine fV (i:=0) (d:=some 59) (v:=.pointer (some ⟨bk,0,none⟩)) rfl rfl (by kernel_rfl) (by kernel_rfl) (by kernel_rfl) (λ_ _ _ h=>h) (zt ⟨by rfl,λw' hw'=>(by dsimp only at hw';go_simp)⟩) hc8 ?_;simp only [zs,zz,zy,zx];refine fV (i:=1) (d:=some 60) (v:=.pointer (some ⟨bk,0,none⟩)) rfl rfl (by kernel_rfl) (by kernel_rfl) (by kernel_rfl) (λ_ _ _ h=>h) (zt ⟨by rfl,λw' hw'=>(by dsimp only at hw';go_simp)⟩) hc8 ?_;simp only [zs,zz,zy,zx];refine fV (i:=2) (d:=some 61) (v:=.pointer (some ⟨bk,0,none⟩)) rfl rfl (by kernel_rfl) (by kernel_rfl) (by kernel_rfl) (λ_ _ _ h=>h) (zt ⟨by rfl,λw' hw'=>(by dsimp only at hw';go_simp)⟩) hc8 ?_;simp only [zs,zz,zy,zx];refine fV (i:=3) (d:=some 62) (v:=.pointer (some ⟨bk,1,none⟩)) rfl rfl (by kernel_rfl) (by kernel_rfl) (by kernel_rfl) (λ_ _ _ h=>h) (zt ⟨by rfl,λw' hw'=>(by dsimp only at hw';go_simp)⟩) hc8 ?_;simp only [zs,zz,zy,zx];refine fV (i:=5) (d:=some 64) (v:=.pointer (some ⟨bk,0,none⟩)) rfl rfl (by kernel_rfl) (by kernel_rfl) (by kernel_rfl) (λ_ _ _ h=>h) (zt ⟨by rfl,λw' hw'=>(by dsimp only at hw';go_simp)⟩) hc8 ?_;simp only [zs,zz,zy,zx];refine fV (i:=6) (d:=some 65) (v:=.pointer (some ⟨bk,0,none⟩)) rfl rfl (by kernel_rfl) (by kernel_rfl) (by kernel_rfl) (λ_ _ _ h=>h) (zt ⟨by rfl,λw' hw'=>(by dsimp only at hw';go_simp)⟩) hc8 ?_;simp only [zs,zz,zy,zx];refine fV (i:=7) (d:=some 66) (v:=.pointer (some ⟨bk,8,none⟩)) rfl rfl (by kernel_rfl) (by kernel_rfl) (by kernel_rfl) (λ_ _ _ h=>h) (zt ⟨by rfl,λw' hw'=>(by dsimp only at hw';go_simp)⟩) hc8 ?_;simp only [zs,zz,zy,zx];refine fV (i:=8) (d:=some 67) (v:=.int .i64 m) rfl rfl (by kernel_rfl) (by kernel_rfl) (by kernel_rfl) (λ_ _ _ h=>h) (zt ⟨by rfl,λw' hw'=>(by dsimp only at hw';go_simp)⟩) hc8 ?_;simp only [zs,zz,zy,zx];refine fV (i:=9) (d:=some 68) (v:=.pointer (some ⟨bk,0,none⟩)) rfl rfl (by kernel_rfl) (by kernel_rfl) (by kernel_rfl) (λ_ _ _ h=>h) (zt ⟨by rfl,λw' hw'=>(by dsimp only at hw';go_simp)⟩) hc8 ?_;simp only [zs,zz,zy,zx];refine fV (i:=10) (d:=some 69) (v:=.pointer (some ⟨bk,0,none⟩)) rfl rfl (by kernel_rfl) (by kernel_rfl) (by kernel_rfl) (λ_ _ _ h=>h) (zt ⟨by rfl,λw' hw'=>(by dsimp only at hw';go_simp)⟩) hc8 ?_;simp only [zs,zz,zy,zx];refine fV (i:=11) (d:=some 70) (v:=.pointer (some ⟨bk,8,none⟩)) rfl rfl (by kernel_rfl) (by kernel_rfl) (by kernel_rfl) (λ_ _ _ h=>h) (zt ⟨by rfl,λw' hw'=>(by dsimp only at hw';go_simp)⟩) hc8 ?_;simp only [zs,zz,zy,zx];refine fV (i:=12) (d:=some 71) (v:=.int .i64 m) rfl rfl (by kernel_rfl) (by kernel_rfl) (by kernel_rfl) (λ_ _ _ h=>h) (zt ⟨by rfl,λw' hw'=>(by dsimp only at hw';go_simp)⟩) hc8 ?_;simp only [zs,zz,zy,zx];refine fV (i:=13) (d:=some 72) (v:=.pointer (some ⟨bk,0,none⟩)) rfl rfl (by kernel_rfl) (by kernel_rfl) (by kernel_rfl) (λ_ _ _ h=>h) (zt ⟨by rfl,λw' hw'=>(by dsimp only at hw';go_simp)⟩) hc8 ?_;simp only [zs,zz,zy,zx];refine fV (i:=14) (d:=some 73) (v:=.pointer (some ⟨bk,0,none⟩)) rfl rfl (by kernel_rfl) (by kernel_rfl) (by kernel_rfl) (λ_ _ _ h=>h) (zt ⟨by rfl,λw' hw'=>(by dsimp only at hw';go_simp)⟩) hc8 ?_;simp only [zs,zz,zy,zx];refine fV (i:=15) (d:=some 74) (v:=.pointer (some ⟨bk,8,none⟩)) rfl rfl (by kernel_rfl) (by kernel_rfl) (by kernel_rfl) (λ_ _ _ h=>h) (zt ⟨by rfl,λw' hw'=>(by dsimp only at hw';go_simp)⟩) hc8 ?_;simp only [zs,zz,zy,zx];refine fV (i:=16) (d:=some 75) (v:=.int .i64 m) rfl rfl (by kernel_rfl) (by kernel_rfl) (by kernel_rfl) (λ_ _ _ h=>h) (zt ⟨by rfl,λw' hw'=>(by dsimp only at hw';go_simp)⟩) hc8 ?_;simp only [zs,zz,zy,zx];refine fV (i:=17) (d:=some 76) (v:=.pointer (some ⟨bk,0,none⟩)) rfl rfl (by kernel_rfl) (by kernel_rfl) (by kernel_rfl) (λ_ _ _ h=>h) (zt ⟨by rfl,λw' hw'=>(by dsimp only at hw';go_simp)⟩) hc8 ?_;simp only [zs,zz,zy,zx];refine fV (i:=18) (d:=some 77) (v:=.pointer (some ⟨bk,0,none⟩)) rfl rfl (by kernel_rfl) (by kernel_rfl) (by kernel_rfl) (λ_ _ _ h=>h) (zt ⟨by rfl,λw' hw'=>(by dsimp only at hw';go_simp)⟩) hc8 ?_;simp only [zs,zz,zy,zx];refine fV (i:=19) (d:=some 78) (v:=.pointer (some ⟨bk,8,none⟩)) rfl rfl (by kernel_rfl) (by kernel_rfl) (by kernel_rfl) (λ_ _ _ h=>h) (zt ⟨by rfl,λw' hw'=>(by dsimp only at hw';go_simp)⟩) hc8 ?_;simp only [zs,zz,zy,zx];refine fV (i:=20) (d:=some 79) (v:=.int .i64 m) rfl rfl (by kernel_rfl) (by kernel_rfl) (by kernel_rfl) (λ_ _ _ h=>h) (zt ⟨by rfl,λw' hw'=>(by dsimp only at hw';go_simp)⟩) hc8 ?_;simp only [zs,zz,zy,zx];refine wpAnyH_all (rs:=[4,21]) (by kernel_rfl) (by simp) λi hi=>?_
   have hi':i=4\/i=21:=by simpa using hi
   rcases hi' with rfl | rfl
   ·refine xV (d:=some 63) (v:=.slice ma mn mc) (w':=w5.drew) rfl rfl rfl (by go_simp) ⟨hc8,?_⟩;simp only [zs,zz,zy,zx];refine wpAnyH_all (rs:=[21]) (by kernel_rfl) (by simp) λi hi=>?_
    obtain rfl:i=21:=by simpa using hi
    refine xV (d:=some 80) (v:=.slice (some ⟨w5.heap.size,0,none⟩) 4 4) (w':=w5.drew.alloc (.cells #[.int .i64 m,.int .i64 m,.int .i64 m,.int .i64 m] 3)) rfl rfl rfl (by go_simp) ⟨hX8 _,?_⟩;simp only [zs,zz,zy,zx];refine wpAnyH_all (rs:=[22]) (by kernel_rfl) (by simp) λi hi=>?_
    obtain rfl:i=22:=by simpa using hi
    refine wpOp_step rfl λK' hK=>?_
    refine aE2 rfl _ _ 25 3 rfl (.int .i64 0) 8 z9 oT rfl (by omega) B _ E.length _ rfl (hrm.alloc _) (by omega) (by simp;omega) w5.heap.size 4 4 [.int .i64 m,.int .i64 m,.int .i64 m,.int .i64 m] rfl rfl (by omega) (aAs w5.drew _ _ _ _ 3) (aE3 m) ?_;intro v6 w6 r1 r2 r3;obtain ⟨⟨hB6,hF6,hM6⟩,d0,df⟩:=HM.out.done r1 r2 r3 (by omega) hm1.1 hm1.2;have d8:=HM.out.keep8' r2;have d8':=HM.out.keep8 r2;obtain ⟨a6,n6,c6,rfl⟩:=jV r1;refine hK _ _ ⟨d8,?_⟩;clear hK r1 r2 r3;change wpAnyH _ _ _ _ _ _ _ (zs _ (some 81) (.slice a6 n6 c6)) w6;simp only [zs,zz,zy,zx];refine fV (i:=23) (d:=some 82) (v:=.pointer (some ⟨bk,0,none⟩)) rfl rfl (by kernel_rfl) (by kernel_rfl) (by kernel_rfl) (λ_ _ _ h=>h) (zt ⟨by rfl,λw' hw'=>(by dsimp only at hw';go_simp)⟩) d8 ?_;simp only [zs,zz,zy,zx];refine fV (i:=24) (d:=some 83) (v:=.pointer (some ⟨bk,1,none⟩)) rfl rfl (by kernel_rfl) (by kernel_rfl) (by kernel_rfl) (λ_ _ _ h=>h) (zt ⟨by rfl,λw' hw'=>(by dsimp only at hw';go_simp)⟩) d8 ?_;simp only [zs,zz,zy,zx];refine wpAnyH_all (rs:=[25]) (by kernel_rfl) (by simp) λi hi=>?_
    obtain rfl:i=25:=by simpa using hi
    refine aE4 (d:=none) (w':=w6.setCell ⟨bk,1,none⟩ (.slice a6 n6 c6)) rfl rfl rfl (by go_simp) ⟨d8' _,?_⟩;refine wpAnyH_done (by kernel_rfl) ?_ _;go_end0;have hnl:=HNL.out;subst hnl;exact ⟨_,_,_,rfl,⟨by rw [HMM.out];exact hB6,rfl,λx hx=>HS3.out.moved x.1 (by simp at hx;rcases hx with rfl | rfl | rfl | rfl <;> simp),hF6,HM.out.mn,hM6⟩⟩
   ·refine xV (d:=some 80) (v:=.slice (some ⟨w5.heap.size,0,none⟩) 4 4) (w':=w5.drew.alloc (.cells #[.int .i64 m,.int .i64 m,.int .i64 m,.int .i64 m] 3)) rfl rfl rfl (by go_simp) ⟨hX8 _,?_⟩;simp only [zs,zz,zy,zx];refine wpAnyH_all (rs:=[4]) (by kernel_rfl) (by simp) λi hi=>?_
    obtain rfl:i=4:=by simpa using hi
    refine xV (d:=some 63) (v:=.slice ma mn mc) (w':=w5.drew.alloc (.cells #[.int .i64 m,.int .i64 m,.int .i64 m,.int .i64 m] 3)) rfl rfl rfl (by go_simp) ⟨hX8 _,?_⟩;simp only [zs,zz,zy,zx];refine wpAnyH_all (rs:=[22]) (by kernel_rfl) (by simp) λi hi=>?_
    obtain rfl:i=22:=by simpa using hi
    refine wpOp_step rfl λK' hK=>?_
    refine aE2 rfl _ _ 25 3 rfl (.int .i64 0) 8 z9 oT rfl (by omega) B _ E.length _ rfl (hrm.alloc _) (by omega) (by simp;omega) w5.heap.size 4 4 [.int .i64 m,.int .i64 m,.int .i64 m,.int .i64 m] rfl rfl (by omega) (aAs w5.drew _ _ _ _ 3) (aE3 m) ?_;intro v6 w6 r1 r2 r3;obtain ⟨⟨hB6,hF6,hM6⟩,d0,df⟩:=HM.out.done r1 r2 r3 (by omega) hm1.1 hm1.2;have d8:=HM.out.keep8' r2;have d8':=HM.out.keep8 r2;obtain ⟨a6,n6,c6,rfl⟩:=jV r1;refine hK _ _ ⟨d8,?_⟩;clear hK r1 r2 r3;change wpAnyH _ _ _ _ _ _ _ (zs _ (some 81) (.slice a6 n6 c6)) w6;simp only [zs,zz,zy,zx];refine fV (i:=23) (d:=some 82) (v:=.pointer (some ⟨bk,0,none⟩)) rfl rfl (by kernel_rfl) (by kernel_rfl) (by kernel_rfl) (λ_ _ _ h=>h) (zt ⟨by rfl,λw' hw'=>(by dsimp only at hw';go_simp)⟩) d8 ?_;simp only [zs,zz,zy,zx];refine fV (i:=24) (d:=some 83) (v:=.pointer (some ⟨bk,1,none⟩)) rfl rfl (by kernel_rfl) (by kernel_rfl) (by kernel_rfl) (λ_ _ _ h=>h) (zt ⟨by rfl,λw' hw'=>(by dsimp only at hw';go_simp)⟩) d8 ?_;simp only [zs,zz,zy,zx];refine wpAnyH_all (rs:=[25]) (by kernel_rfl) (by simp) λi hi=>?_
    obtain rfl:i=25:=by simpa using hi
    refine aE4 (d:=none) (w':=w6.setCell ⟨bk,1,none⟩ (.slice a6 n6 c6)) rfl rfl rfl (by go_simp) ⟨d8' _,?_⟩;refine wpAnyH_done (by kernel_rfl) ?_ _;go_end0;have hnl:=HNL.out;subst hnl;exact ⟨_,_,_,rfl,⟨by rw [HMM.out];exact hB6,rfl,λx hx=>HS3.out.moved x.1 (by simp at hx;rcases hx with rfl | rfl | rfl | rfl <;> simp),hF6,HM.out.mn,hM6⟩⟩
def rep(n:Nat)(el:List Value):List Value:=(List.replicate n el).flatten
theorem sO(n:Nat)(el:List Value):(rep n el).length=n*el.length:=by simp [rep]
theorem aE5(n:Nat)(el:List Value):rep (n+1) el=el++rep n el:=by simp [rep,List.replicate_succ]
theorem aE6(n k:Nat)(el:List Value):rep (n+k) el=rep n el++rep k el:=by unfold rep;rw [<-List.flatten_append,List.replicate_append_replicate]
theorem aE7(el:List Value):∀(n i:Nat),i<n*el.length->(rep n el)[i]?=el[i % el.length]?:=by
 intro n;induction n with
 | zero=>intro i h;simp at h
 | succ n ih=>
  intro i h;rw [aE5];by_cases hi:i<el.length
  ·rw [zh hi,zc hi]
  ·rw [Nat.succ_mul] at h;rw [zm (by omega),ih _ (by omega),<-Nat.mod_eq_sub_mod (by omega)]
def eS(e:TypeId)(el:List Value)(w:World)(v:Value):Prop:=v=.slice none 0 0\/∃g n c cur,v=.slice (some ⟨g,0,none⟩) n c/\w.heap[g]?=some (.cells cur e)/\(∀i,i<n*el.length->cur[i]?=el[i % el.length]?)/\n<=1000000000000
section
variable {e:TypeId}{el:List Value}{w w':World}{v:Value}
theorem eS.of_own{B n:Nat}(h:w.ownsRow B e el.length v n (rep n el))(hn:n<=1000000000000):eS e el w v:=by
 obtain ⟨h1,⟨rfl,h2⟩ | ⟨g,cap,cur,rfl,hb,hh,hc,hm,hz,ht⟩⟩:=h
 ·exact zt rfl
 ·refine zo ⟨g,n,cap,cur,rfl,hh,λi hi=>?_,hn⟩;have a:=aE7 el n i hi;rw [<-ht,List.getElem?_take,if_pos hi] at a;simpa using a
theorem eS.grown{o:Option Nat}(h:eS e el w v)(hg:w.grownBy w' o)(ho:v.ownBlock=none\/v.ownBlock≠o):eS e el w' v:=by
 rcases h with h | ⟨g,n,c,cur,rfl,hh,hk⟩
 ·exact zt h
 ·refine zo ⟨g,n,c,cur,rfl,?_,hk⟩;rw [hg.block g (zw.1 hh).1 ?_,hh];rcases ho with ho | ho
  ·simp [zr] at ho
  ·intro e;exact ho (by rw [<-e];rfl)
theorem eS.below(h:eS e el w v)(hb:Below w.heap.size w w'):eS e el w' v:=h.grown (fM (o:=none) hb) (by cases v.ownBlock <;> simp)
end
theorem aLh(w:World)(t ty e:TypeId)(el:List Value)(z:Value)(bytes:Nat)(ht:zv.underlying t=some (.slice e))(hinfo:(zv.info? e).map (λi=>(i.zero,i.size,i.bytes))=some (some z,el.length,bytes))(hz1:z.cells.size=el.length)(hsz0:0<el.length)(hby:bytes<=40)(h1:∀u∈el,u.oneCell'=true)
  (B:Nat) (v:Value) (n:Nat) (ho:w.ownsRow B e el.length v n (rep n el)) (hB:B<=w.heap.size) (a:Addr) (k c:Nat) (hk:0<k/\k<=3) (hn:n<=100000000000) (hnews:∀j u,(rep k el)[j]?=some u->w.cell? (a.add j)=some u) :
  ∃v' w',(Builtin.append_ #[t,t] ty #[v,.slice (some a) k c]).run zv w=.ok v' w'/\w'.ownsRow B e el.length v' (n+k) (rep (n+k) el)/\w'.ownsRow B e el.length v n (rep n el)/\w.grownBy w' v.ownBlock/\aX w v v'/\∀u,eS e el w u->eS e el w' u:=by
 obtain ⟨i,hi,hz,hss,hy⟩:=info_parts hinfo;have hcells:=aE6 n k el;have hl:=sO k el;have h1':∀u∈rep k el,u.oneCell'=true:=by intro u hu;unfold rep at hu;obtain ⟨x,hx,hu⟩:=List.mem_flatten.1 hu;rw [List.eq_of_mem_replicate hx] at hu;exact h1 u hu
 have hb24:(n+k)*bytes<=140737488355328:=z8 (z3 (show n+k<=100000000003 by omega) hby) (by decide);by_cases hv:v.ownBlock=none
 ·have hnil:v=.slice none 0 0/\n=0:=by
   obtain ⟨_,h | ⟨g,cap,cur,rfl,_⟩⟩:=ho
   ·exact h
   ·simp [zr] at hv
  obtain ⟨rfl,rfl⟩:=hnil;obtain ⟨v',w',hr,r1,r2,r3⟩:=run_append_own (P:=zv) w w.heap.size t ty e i z el.length bytes ht hi hz hss hy hz1 hsz0 (.slice none 0 0) 0 [] (zf _ _ _ _) a k c (rep k el) hl hnews h1' (by unfold maxLen;omega) hb24 (zu _);refine ⟨v',w',hr,by rw [hcells];exact dI r1 hB,zf _ _ _ _,r2,?_,λu hu=>hu.grown r2 (by cases hub:u.ownBlock with | none=>exact zt rfl | some g=>exact zo (by simp [zr]))⟩;cases hb:v'.ownBlock with
  | none=>exact zt (by rw [hb,hv])
  | some g'=>exact zo ⟨g',hb,(aT r1 g' hb).1⟩
 ·obtain ⟨ho1,⟨rfl,_⟩ | ⟨g,cap,cur,rfl,hbg,hg,hnc,hcm,hcs,htake⟩⟩:=ho
  ·exact absurd rfl hv
  ·have ho:w.ownsRow B e el.length (.slice (some ⟨g,0,none⟩) n cap) n (rep n el):=⟨ho1,zo ⟨g,cap,cur,rfl,hbg,hg,hnc,hcm,hcs,htake⟩⟩;by_cases hroom:n+k<=cap
   ·have hfit:n*el.length+(rep k el).length<=cur.size:=by rw [hl,hcs,<-Nat.add_mul];exact z4 _ hroom
    have hr:=run_append_room (P:=zv) w t ty e i ht hi g n cap cur hg a k c (rep k el) (by rw [hl,hss]) hnews h1' hroom (by rw [hss];exact hfit);rw [hss] at hr;have hget:∀j,((cur.toList.take (n*el.length)++rep k el++cur.toList.drop (n*el.length+(rep k el).length)).toArray)[j]?=if j<n*el.length then cur[j]? else if j<n*el.length+k*el.length then (rep k el)[j-n*el.length]? else cur[j]?:=by intro j;have:=aFu cur.toList (rep k el) (n*el.length) (by simpa using hfit) j;rw [hl] at this ⊢;simpa using this
    have hkeep:∀n',(∀j,j<n'*el.length->cur[j]?=el[j % el.length]?)->∀j,j<n'*el.length->((cur.toList.take (n*el.length)++rep k el++cur.toList.drop (n*el.length+(rep k el).length)).toArray)[j]?=el[j % el.length]?:=by
     intro n' hm j hj;rw [hget];split
     ·exact hm j hj
     ·split
      ·rename_i h1 h2;rw [aE7 el k _ (by omega)];congr 1
       rw [zb n,Nat.sub_mul_mod (by rw [zb];omega)]
      ·exact hm j hj
    generalize hcur':(cur.toList.take (n*el.length)++rep k el++cur.toList.drop (n*el.length+(rep k el).length)).toArray=cur' at *;have hsz:cur'.size=cur.size:=by rw [<-hcur'];simp;omega
    have htl:cur'.toList=cur.toList.take (n*el.length)++rep k el++cur.toList.drop (n*el.length+(rep k el).length):=by rw [<-hcur']
    have hh':(w.setRow g cur').heap[g]?=some (.cells cur' e):=setRow_heap w g cur _ e _ hg;have hgr:w.grownBy (w.setRow g cur') (some g):=⟨rfl,rfl,rfl,by simp,λq _ hq=>setRow_other w g q _ (λe=>hq (by simp [e]))⟩;refine ⟨_,_,hr,⟨sO _ _,zo ⟨g,cap,cur',rfl,hbg,hh',hroom,hcm,by rw [hsz,hcs],?_⟩⟩,⟨ho1,zo ⟨g,cap,cur',rfl,hbg,hh',hnc,hcm,by rw [hsz,hcs],?_⟩⟩,hgr,zt rfl,?_⟩
    ·rw [htl,htake,hcells];exact List.take_left' (by rw [List.length_append,sO,sO,Nat.add_mul])
    ·rw [htl,htake,List.append_assoc];exact List.take_left' (sO _ _)
    ·intro u hu;rcases hu with hu | ⟨g',n',c',cu,rfl,hgu,hmk,hn'⟩
     ·exact zt hu
     ·by_cases e':g'=g
      ·subst e';rw [hg] at hgu;simp at hgu;subst hgu;exact zo ⟨g',n',c',cur',rfl,hh',hkeep n' hmk,hn'⟩
      ·exact zo ⟨g',n',c',cu,rfl,by rw [hgr.block g' (zw.1 hgu).1 (by simpa using e'),hgu],hmk,hn'⟩
   ·have holds:∀j u,(rep n el)[j]?=some u->w.cell? ((⟨g,0,none⟩ : Addr).add j)=some u:=ho.cells (g:=g) rfl;obtain ⟨v',w',hr',r1,r2,_⟩:=run_append_own (P:=zv) w B t ty e i z el.length bytes ht hi hz hss hy hz1 hsz0 _ n (rep n el) ho a k c (rep k el) hl hnews h1' (by unfold maxLen;omega) hb24 hB;have hr:=run_append_grow (P:=zv) w t ty e i z ht hi hz ⟨g,0,none⟩ n cap (rep n el) (by rw [hss];exact ho1) holds a k c (rep k el) (by rw [hl,hss]) hnews (by omega) (by omega) (growslice_fits_wide (by omega) (by rw [hy];exact z8 (z3 (show _<=200000000000 by omega) hby) (by decide)));rw [hr] at hr';injection hr' with e1 e2;subst e1;subst e2;have hb:Below w.heap.size w (w.drew.alloc (.cells ((rep n el).toArray++(rep k el).toArray++Builtin.zeroCells z.cells (grownCap w (n+k) cap e-(n+k))) e)):=(aJ (w1:=w.drew) ⟨1,rfl⟩).alloc (zu _) _;exact ⟨_,_,hr,by rw [hcells];exact r1,aU ho hb (zu _),r2,zo ⟨_,rfl,zu _⟩,λu hu=>hu.below hb⟩
abbrev fD(ga:Nat):List Value:=[.bool true,.slice (some ⟨ga,0,none⟩) 1 1]
abbrev aLi(gl:Nat):List Value:=[.slice (some ⟨gl,0,none⟩) 1 1]
structure bY where
 c:Value
 one:Value
 two:Value
 ga:Nat
 m:Int
def bY.vals(f:bY):List Value:=[f.c,f.one,f.two]
def bY.held(f:bY):List Nat:=f.ga :: f.vals.filterMap zr
structure bY.Ok(w:World)(f:bY):Prop where
 marks:∀v∈f.vals,eS 39 (fD f.ga) w v
 len:∃a n c,f.one=.slice a (n+1) c
 atom:w.heap[f.ga]?=some (.cells #[.string ⟨#[61]⟩,.int .i64 f.m] 36)
structure cX where
 c:Value
 one:Value
 two:Value
 gl:Nat
 ga:Nat
 m:Int
def cX.vals(f:cX):List Value:=[f.c,f.one,f.two]
def cX.held(f:cX):List Nat:=f.gl :: f.ga :: f.vals.filterMap zr
structure cX.Ok(w:World)(f:cX):Prop where
 marks:∀v∈f.vals,eS 22 (aLi f.gl) w v
 len:∃a n c,f.one=.slice a (n+1) c
 lit:w.heap[f.gl]?=some (.cells (fD f.ga).toArray 39)
 atom:w.heap[f.ga]?=some (.cells #[.string ⟨#[61]⟩,.int .i64 f.m] 36)
structure dM(w:World)(B bk:Nat)(nv mv xv yv:Value)(E:List (Value×Int))(F:List bY)(G:List cX)(next:Int):Prop where
 base:dS w B bk (xv,yv) nv mv E next
 rx:w.ownsRow B 22 1 xv (F.length*3) (F.flatMap bY.vals)
 ry:w.ownsRow B 26 1 yv (G.length*3) (G.flatMap cX.vals)
 fs:∀f∈F,f.Ok w
 gs:∀g∈G,g.Ok w
 fewF:F.length<=1000000000
 fewG:G.length<=1000000000
 xap:∀k∈G.flatMap cX.held,xv.ownBlock≠some k
def held(E:List (Value×Int))(F:List bY)(G:List cX):List Nat:=E.filterMap (λx=>x.1.ownBlock)++(F.flatMap bY.held++G.flatMap cX.held)
theorem rC{w w':World}{B:Nat}{e:TypeId}{size:Nat}{v:Value}{n:Nat}{xs:List Value}(h:w.ownsRow B e size v n xs)(hs:∀k,v.ownBlock=some k->w'.heap[k]?=w.heap[k]?):w'.ownsRow B e size v n xs:=by
 obtain ⟨h1,⟨rfl,h2⟩ | ⟨g,cap,cur,rfl,hb,hh,hr⟩⟩:=h
 ·exact ⟨h1,zt ⟨rfl,h2⟩⟩
 ·exact ⟨h1,zo ⟨g,cap,cur,rfl,hb,by rw [hs g rfl,hh],hr⟩⟩
theorem eS.same{e:TypeId}{el:List Value}{w w':World}{v:Value}(h:eS e el w v)(hs:∀k,v.ownBlock=some k->w'.heap[k]?=w.heap[k]?):eS e el w' v:=by
 rcases h with h | ⟨g,n,c,cur,rfl,hh,hk⟩
 ·exact zt h
 ·exact zo ⟨g,n,c,cur,rfl,by rw [hs g rfl,hh],hk⟩
theorem dR.same{w w':World}{v:Value}{m:Int}(h:dR w v m)(hs:∀k,v.ownBlock=some k->w'.heap[k]?=w.heap[k]?):dR w' v m:=by
 rcases h with h | ⟨g,n,c,cur,rfl,hh,hk⟩
 ·exact zt h
 ·exact zo ⟨g,n,c,cur,rfl,by rw [hs g rfl,hh],hk⟩
theorem bY.Ok.same{w w':World}{f:bY}(h:f.Ok w)(hs:∀k∈f.held,w'.heap[k]?=w.heap[k]?):f.Ok w':=
 ⟨λv hv=>(h.marks v hv).same λk hk=>hs k (zl _ (zp.2 ⟨v,hv,hk⟩)),h.len,by rw [hs _ (zi ..),h.atom]⟩
theorem cX.Ok.same{w w':World}{f:cX}(h:f.Ok w)(hs:∀k∈f.held,w'.heap[k]?=w.heap[k]?):f.Ok w':=
 ⟨λv hv=>(h.marks v hv).same λk hk=>hs k (zl _ (zl _ (zp.2 ⟨v,hv,hk⟩))),h.len,by rw [hs _ (zi ..),h.lit],by rw [hs _ (zl _ (zi ..)),h.atom]⟩
section
variable {w w':World}{B bk:Nat}{nv mv xv yv:Value}{E:List (Value×Int)}{F:List bY}{G:List cX}{next:Int}
theorem dM.heldLt(h:dM w B bk nv mv xv yv E F G next):∀k∈held E F G,k<w.heap.size:=by
 have key:∀(e:TypeId) (el:List Value) (v:Value) (k:Nat),eS e el w v->v.ownBlock=some k->k<w.heap.size:=by
  intro e el v k hm hk;rcases hm with rfl | ⟨g,n,c,cur,rfl,hh,_⟩
  ·simp [zr] at hk
  ·simp [zr] at hk;subst hk;exact (zw.1 hh).1
 intro k hk;rcases zq.1 hk with hk | hk
 ·obtain ⟨x,hx,hxk⟩:=zp.1 hk;rcases h.base.mks x hx with e | ⟨g,n,c,cur,e,hh,_⟩
  ·rw [e] at hxk;simp [zr] at hxk
  ·rw [e] at hxk;simp [zr] at hxk;subst hxk;exact (zw.1 hh).1
 ·rcases zq.1 hk with hk | hk
  ·obtain ⟨f,hf,hk⟩:=zj.1 hk;rcases z6.1 hk with rfl | hk
   ·exact (zw.1 (h.fs f hf).atom).1
   ·obtain ⟨v,hv,hvk⟩:=zp.1 hk;exact key _ _ v k ((h.fs f hf).marks v hv) hvk
  ·obtain ⟨f,hf,hk⟩:=zj.1 hk;rcases z6.1 hk with rfl | hk
   ·exact (zw.1 (h.gs f hf).lit).1
   ·rcases z6.1 hk with rfl | hk
    ·exact (zw.1 (h.gs f hf).atom).1
    ·obtain ⟨v,hv,hvk⟩:=zp.1 hk;exact key _ _ v k ((h.gs f hf).marks v hv) hvk
theorem dM.same(h:dM w B bk nv mv xv yv E F G next)(hb:w'.heap[bk]?=w.heap[bk]?)(h1:∀v∈[nv,mv,xv,yv],∀k,v.ownBlock=some k->w'.heap[k]?=w.heap[k]?)(hs:∀k∈held E F G,w'.heap[k]?=w.heap[k]?):dM w' B bk nv mv xv yv E F G next:=
 ⟨⟨by rw [hb,h.base.box],h.base.high,rC h.base.rn (h1 nv (by simp)),rC h.base.rm (h1 mv (by simp)),λx hx=>(h.base.mks x hx).same λk hk=>hs k (zq.2 (zt (zp.2 ⟨x,hx,hk⟩))),h.base.few,h.base.lo,h.base.hi⟩,
  rC h.rx (h1 xv (by simp)),rC h.ry (h1 yv (by simp)),
  λf hf=>(h.fs f hf).same λk hk=>hs k (zq.2 (zo (zq.2 (zt (zj.2 ⟨f,hf,hk⟩))))),
  λf hf=>(h.gs f hf).same λk hk=>hs k (zq.2 (zo (zq.2 (zo (zj.2 ⟨f,hf,hk⟩))))),h.fewF,h.fewG,h.xap⟩
theorem dM.below(h:dM w B bk nv mv xv yv E F G next)(hb:Below w.heap.size w w'):dM w' B bk nv mv xv yv E F G next:=by
 refine h.same (hb.block bk h.base.lt) (λv hv k hk=>hb.block k ?_) (λk hk=>hb.block k (h.heldLt k hk));simp at hv;rcases hv with rfl | rfl | rfl | rfl
 ·exact (aT h.base.rn k hk).2
 ·exact (aT h.base.rm k hk).2
 ·exact (aT h.rx k hk).2
 ·exact (aT h.ry k hk).2
end
theorem aLj(a b:Value)(xs:List Value)(k:Nat)(h:(k+1)*2<=xs.length) :
  ((rep k [a,b]++xs.drop (k*2)).set (k*2) a).set (k*2+1) b=rep (k+1) [a,b]++xs.drop ((k+1)*2):=by
 have hl:(rep k [a,b]).length=k*2:=by rw [sO];rfl
 have hd:xs.drop (k*2)=xs[k*2] :: xs[k*2+1] :: xs.drop ((k+1)*2):=by rw [zk (by omega),zk (i:=k*2+1) (by omega),show (k+1)*2=k*2+1+1 by omega]
 have hr:rep (k+1) [a,b]=rep k [a,b]++[a,b]:=by rw [aE6,aE5];simp [rep]
 rw [hd,hr,z2 _ _ (by omega),z2 _ _ (by omega),hl];simp
theorem dR.view{w:World}{v:Value}{m:Int}(h:dR w v m):∃a n c,v=.slice a n c/\n<=5864062014809/\∀k,k<n->∃g,a=some ⟨g,0,none⟩/\w.cell? ⟨g,k*2,none⟩=some (.string ⟨#[35]⟩)/\w.cell? ⟨g,k*2+1,none⟩=some (.int .i64 m):=by
 rcases h with rfl | ⟨g,n,c,cur,rfl,hh,hk,hn⟩
 ·exact ⟨none,0,0,rfl,by omega,λk hk=>by omega⟩
 ·refine ⟨_,n,c,rfl,hn,λk hkn=>⟨g,rfl,?_,?_⟩⟩
  ·simp [zn,hh,(hk k hkn).1]
  ·simp [zn,hh,(hk k hkn).2]
theorem uD{w:World}{B:Nat}{e:TypeId}{v:Value}{n:Nat}{xs:List Value}(h:w.ownsRow B e 1 v n xs):∃a cap,v=.slice a n cap/\∀k x,xs[k]?=some x->∃g,a=some ⟨g,0,none⟩/\w.cell? ⟨g,k,none⟩=some x:=by
 obtain ⟨h1,⟨rfl,h2⟩ | ⟨g,cap,cur,rfl,hb,hh,hc,hm,hz,ht⟩⟩:=h
 ·refine ⟨none,0,by rw [h2],λk x hx=>?_⟩;have:=(zg.1 hx).1;omega
 ·have ho:w.ownsRow B e 1 (.slice (some ⟨g,0,none⟩) n cap) n xs:=⟨h1,zo ⟨g,cap,cur,rfl,hb,hh,hc,hm,hz,ht⟩⟩;refine ⟨_,_,rfl,λk x hx=>⟨g,rfl,?_⟩⟩;have hk:=(zg.1 hx).1;rw [ho.cellAt k (by omega),hx]
theorem eS.view{e:TypeId}{el:List Value}{w:World}{v:Value}(h:eS e el w v):∃a n c,v=.slice a n c/\n<=1000000000000/\∀k,k<n->∃g,a=some ⟨g,0,none⟩/\∀j (hj:j<el.length),w.cell? ⟨g,k*el.length+j,none⟩=some el[j]:=by
 rcases h with rfl | ⟨g,n,c,cur,rfl,hh,hk,hn⟩
 ·exact ⟨none,0,0,rfl,by omega,λk hk=>by omega⟩
 ·refine ⟨_,n,c,rfl,hn,λk hkn=>⟨g,rfl,λj hj=>?_⟩⟩;have hlt:k*el.length+j<n*el.length:=by
   have:(k+1)*el.length<=n*el.length:=z4 _ hkn;rw [Nat.succ_mul] at this;omega
  have:=hk _ hlt;rw [zb,Nat.mul_add_mod,zc hj,zb] at this;simp [zn,hh,this,hj]
theorem xX{α:Type}(f:α->List Value)(hf:∀a,(f a).length=3):∀(L:List α) (i:Nat) (h:i / 3<L.length),(L.flatMap f)[i]?=(f L[i / 3])[i % 3]?:=by
 intro L;induction L with
 | nil=>intro i h;simp at h
 | cons a L ih=>
  intro i h;rw [List.flatMap_cons];by_cases hi:i<3
  ·rw [zh (by rw [hf];exact hi)];have h0:i / 3=0:=by omega
   simp [h0,zc hi]
  ·obtain ⟨k,rfl⟩ : ∃k,i=k+3:=⟨i-3,by omega⟩;rw [zm (by rw [hf];omega),hf,Nat.add_sub_cancel,ih k (by simp at h;omega)];have h1:(k+3) / 3=k / 3+1:=by omega
   simp [h1]
end Go.Proofs.YtcldkjcpofjmhaaGreatDoor
