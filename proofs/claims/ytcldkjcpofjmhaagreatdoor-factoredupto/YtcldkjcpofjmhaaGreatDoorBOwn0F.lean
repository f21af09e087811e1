import Derived.Test.YtcldkjcpofjmhaaGreatDoorLMemF
import Derived.Deep.RegionHeld3
open Array renaming getElem?_eq_some_iff→zs
open List renaming setIfInBounds_toArray→zz,set_cons_zero→zy,set_cons_succ→zx,map_toArray→zn,mem_append→zl,set_append_right→zk,length_replicate→zj,map_cons→ze,map_nil→zd
open Nat renaming le_refl→zw,lt_of_lt_of_le→zq,le_trans→zm
open Or renaming inl→zt,inr→zi
namespace Go.Proofs.YtcldkjcpofjmhaaGreatDoor
open Act renaming put→zu
open Region renaming wanted→zo
open _root_.Go.Proofs.Tryz renaming prog→zv,underlying25→zc
open Value renaming ownBlock→zp,int→zh
open World renaming cell?→zr,frozen?→zg,setCell→zf
set_option maxHeartbeats 4000000
set_option maxRecDepth 100000
open Go.RowKit Go.Shelf
variable{a:Act}{m:Int}{E:List (Value×Int)}{B bk:Nat}{o:Oper}{lv mv nv nv' v:Value}{w w' w6 wr:World}
variable {xy:Value×Value}
abbrev lD(xy:Value×Value)(nv mv:Value)(next:Int):Array Value:=#[nv,mv,xy.1,xy.2,.slice none 0 0,.slice none 0 0,.slice none 0 0,.slice none 0 0,.int .i64 next]
theorem aMe:(zv.info? 37).map (λi=>(i.zero,i.size,i.bytes))=some (some (.slice none 0 0),1,24):=by kernel_rfl
structure dU(w:World)(B bk:Nat)(xy:Value×Value)(nv mv:Value)(E:List (Value×Int))(next:Int):Prop where
 box:w.heap[bk]?=some (.cells (lD xy nv mv next) 31)
 high:B<=bk
 rn:w.ownsRow B 37 1 nv E.length (E.map Prod.fst)
 rm:w.ownsRow B 3 1 mv E.length (E.map λx=>zh .i64 x.2)
 mks:∀x∈E,dV w x.1 x.2
 few:E.length<=10000000000
 lo : -10000000000<=next
 hi:next<=0
structure iW(w w':World)(bk:Nat)(nv mv lv:Value):Prop where
 os:w'.os=w.os
 tape:w'.tape=w.tape
 output:w'.output=w.output
 size:w.heap.size<=w'.heap.size
 block:∀k,k<w.heap.size->k≠bk->nv.ownBlock≠some k->mv.ownBlock≠some k->lv.ownBlock≠some k->w'.heap[k]?=w.heap[k]?
section
variable {w w' w2:World}{B bk:Nat}{nv mv lv:Value}{E:List (Value×Int)}{next m:Int}
theorem iW.refl(w:World)(bk:Nat)(nv mv lv:Value):iW w w bk nv mv lv:=⟨rfl,rfl,rfl,zw _,λ_ _ _ _ _ _=>rfl⟩
theorem iW.grown(h:iW w w' bk nv mv lv){v:Value}(hg:w'.grownBy w2 v.ownBlock)(hv:aX w nv v\/aX w mv v\/aX w lv v\/v.ownBlock=none):iW w w2 bk nv mv lv:=
 ⟨hg.os.trans h.os,hg.tape.trans h.tape,hg.output.trans h.output,zm h.size hg.size,λk h1 h2 h3 h4 h5=>by
  rw [hg.block k (zq h1 h.size) ?_,h.block k h1 h2 h3 h4 h5];intro e;rcases hv with (hv | ⟨g,hv,hg⟩) | (hv | ⟨g,hv,hg⟩) | (hv | ⟨g,hv,hg⟩) | hv
  ·exact h3 (by rw [<-hv,e])
  ·rw [hv] at e;simp at e;omega
  ·exact h4 (by rw [<-hv,e])
  ·rw [hv] at e;simp at e;omega
  ·exact h5 (by rw [<-hv,e])
  ·rw [hv] at e;simp at e;omega
  ·rw [hv] at e;cases e⟩
theorem iW.below(h:iW w w' bk nv mv lv)(hb:Below w'.heap.size w' w2):iW w w2 bk nv mv lv:=
 ⟨hb.os.trans h.os,hb.tape.trans h.tape,hb.output.trans h.output,zm h.size hb.size,λk h1 h2 h3 h4 h5=>by
  rw [hb.block k (zq h1 h.size),h.block k h1 h2 h3 h4 h5]⟩
theorem iW.setB(h:iW w w' bk nv mv lv)(j:Nat)(x:Value):iW w (w'.setCell ⟨bk,j,none⟩ x) bk nv mv lv:=by
 have hg:=bR w' ⟨bk,j,none⟩ x;exact ⟨hg.os.trans h.os,hg.tape.trans h.tape,hg.output.trans h.output,zm h.size hg.size,λk h1 h2 h3 h4 h5=>by
  rw [hg.block k (zq h1 h.size) (by simpa using h2),h.block k h1 h2 h3 h4 h5]⟩
theorem dU.lt(h:dU w B bk xy nv mv E next):bk<w.heap.size:=(zs.1 h.box).1
theorem dU.c0(h:dU w B bk xy nv mv E next):w.cell? ⟨bk,0,none⟩=some nv:=by simp [zr,h.box]
theorem dU.c1(h:dU w B bk xy nv mv E next):w.cell? ⟨bk,1,none⟩=some mv:=by simp [zr,h.box]
theorem dU.c8(h:dU w B bk xy nv mv E next):w.cell? ⟨bk,8,none⟩=some (.int .i64 next):=by simp [zr,h.box]
theorem dU.soft(h:dU w B bk xy nv mv E next)(j:Nat):w.frozen? ⟨bk,j,none⟩=false:=by simp [zg,h.box]
theorem dU.grown(h:dU w B bk xy nv mv E next){o:Option Nat}(hg:w.grownBy w' o)(h0:o≠some bk)(h1:nv.ownBlock=none\/nv.ownBlock≠o)(h2:mv.ownBlock=none\/mv.ownBlock≠o)(h3:∀x∈E,dV w' x.1 x.2):dU w' B bk xy nv mv E next:=
 ⟨by rw [hg.block bk h.lt (λe=>h0 e.symm),h.box],h.high,cH h.rn hg h1,cH h.rm hg h2,h3,h.few,h.lo,h.hi⟩
theorem dU.below(h:dU w B bk xy nv mv E next)(hb:Below w.heap.size w w'):dU w' B bk xy nv mv E next:=
 ⟨by rw [hb.block bk h.lt,h.box],h.high,aU h.rn hb (zw _),aU h.rm hb (zw _),λx hx=>(h.mks x hx).below hb,h.few,h.lo,h.hi⟩
theorem dU.nodes(h:dU w B bk xy nv mv E next){v:Value}{n:Nat}{xs:List Value}{B':Nat}(ho:w.ownsRow B' 36 2 v n xs)(hg:w.grownBy w' v.ownBlock)(h3:∀x∈E,dV w' x.1 x.2):dU w' B bk xy nv mv E next:=
 h.grown hg (cE ho h.box (by decide)) (bW h.rn ho (by decide)) (bW h.rm ho (by decide)) h3
theorem dV.setB(h:dV w v m)(hb:w.heap[bk]?=some (.cells (lD xy nv mv next) 31))(j:Nat)(x:Value):dV (w.setCell ⟨bk,j,none⟩ x) v m:=by
 rcases h with h | ⟨g,n,c,cur,rfl,hh,hk⟩
 ·exact zt h
 ·refine zi ⟨g,n,c,cur,rfl,?_,hk⟩;rw [heap_setCell_other _ _ _ _ (by simp;rintro rfl;rw [hh] at hb;simp at hb),hh]
theorem yI{w:World}{b j:Nat}{cs:Array Value}{T:TypeId}{x:Value}(h:w.heap[b]?=some (.cells cs T)):(w.setCell ⟨b,j,none⟩ x).heap[b]?=some (.cells (cs.setIfInBounds j x) T):=by unfold zf;simp [Array.getElem?_modify,h]
theorem dU.setNext(h:dU w B bk xy nv mv E next){x:Int}(hlo : -10000000000<=x)(hhi:x<=0):dU (w.setCell ⟨bk,8,none⟩ (.int .i64 x)) B bk xy nv mv E x:=
 ⟨yI h.box,h.high,eC h.rn h.box (by decide),eC h.rm h.box (by decide),λy hy=>(h.mks y hy).setB h.box 8 _,h.few,hlo,hhi⟩
end
structure uQ(w:World)(B bk bx:Nat)(xy:Value×Value)(nv mv lv:Value)(E:List (Value×Int))(m:Int)(n:Nat)(D:List Value)(wr:World):Prop where
 book:dU wr B bk xy nv mv E m
 own:wr.ownsRow B 36 2 lv n (aG (mks n m))
 marks:∀d∈D,dV wr d m
 moved:∀d∈D,aX w lv d
 far:iW w wr bk nv mv lv
 b0:wr.cell? ⟨bx,0,none⟩=some (.string ⟨#[35]⟩)
 b1:wr.cell? ⟨bx,1,none⟩=some (.int .i64 m)
 vne:lv.ownBlock≠some bx
section
variable {w wr w3:World}{B bk bx:Nat}{nv mv lv v':Value}{E:List (Value×Int)}{m:Int}{n:Nat}{D:List Value}
theorem uQ.next(h:uQ w B bk bx xy nv mv lv E m n D wr)(hap:∀x∈E,x.1.ownBlock=none\/x.1.ownBlock≠lv.ownBlock){X:Obj}{k:Nat}(r1:w3.ownsRow B 36 2 v' (n+k) (aG (mks (n+k) m)))(r2:w3.ownsRow B 36 2 lv n (aG (mks n m)))(r3:(wr.alloc X).grownBy w3 lv.ownBlock)(r4:aX (wr.alloc X) lv v')(r5:∀u,dV (wr.alloc X) u m->dV w3 u m)(hn:n+k<=5864062014809) :
  uQ w B bk bx xy nv mv lv E m n (D++[v']) w3:=by
 have hb:Below wr.heap.size wr (wr.alloc X):=(Below.refl _ _).alloc (zw _) X;have hbk:=h.book.below hb;have ho:=aU h.own hb (zw _);have hws:=h.far.size;refine ⟨hbk.nodes ho r3 (λx hx=>(hbk.mks x hx).grown r3 (hap x hx)),r2,?_,?_,(h.far.below hb).grown r3 (zi (zi (zt (aX.refl _ _)))),?_,?_,h.vne⟩
 ·intro d hd;rcases zl.1 hd with hd | hd
  ·exact r5 d ((h.marks d hd).below hb)
  ·simp at hd;subst hd;exact dV.of_own r1 hn
 ·intro d hd;rcases zl.1 hd with hd | hd
  ·exact h.moved d hd
  ·simp at hd;subst hd;exact (aX.refl w lv).trans r4 (by simp;omega)
 ·exact r3.cell (Below.at' hb (zw _) h.b0) (λe=>h.vne e.symm)
 ·exact r3.cell (Below.at' hb (zw _) h.b1) (λe=>h.vne e.symm)
end
theorem aMf(a r:List Nd)(y:Nd)(s:ByteArray)(x:Int):((aG (a++y :: r)).set (a.length*2) (.string s)).set (a.length*2+1) (.int .i64 x)=aG (a++(s,x) :: r):=by
 have h1:aG (a++y :: r)=aG a++(.string y.1 :: .int .i64 y.2 :: aG r):=by simp [aG]
 have h2:aG (a++(s,x) :: r)=aG a++(.string s :: .int .i64 x :: aG r):=by simp [aG]
 have hl:(aG a).length=a.length*2:=qC a;rw [h1,h2,zk _ _ (by omega),zk _ _ (by omega)];simp [hl]
structure wH(w:World)(B bk bx:Nat)(xy:Value×Value)(nv mv lv:Value)(E:List (Value×Int))(m:Int)(l:List Nd)(wr:World):Prop where
 book:dU wr B bk xy nv mv E m
 own:wr.ownsRow B 36 2 lv l.length (aG l)
 far:iW w wr bk nv mv lv
 b0:wr.cell? ⟨bx,0,none⟩=some (.string ⟨#[35]⟩)
 b1:wr.cell? ⟨bx,1,none⟩=some (.int .i64 m)
 vne:lv.ownBlock≠some bx
theorem wH.put{bx g n c:Nat}{a r:List Nd}{y:Nd}(h:wH w B bk bx xy nv mv (.slice (some ⟨g,0,none⟩) n c) E m (a++y :: r) wr)(hn:n=(a++y :: r).length)(hap:∀x∈E,x.1.ownBlock=none\/x.1.ownBlock≠some g) :
  wH w B bk bx xy nv mv (.slice (some ⟨g,0,none⟩) n c) E m (a++wS m :: r) ((wr.setCell ⟨g,a.length*2,none⟩ (.string ⟨#[35]⟩)).setCell ⟨g,a.length*2+1,none⟩ (.int .i64 m)):=by
 subst hn;have hl:(a++wS m :: r).length=(a++y :: r).length:=by simp
 have s1:=(h.own.stored (a.length*2) (.string ⟨#[35]⟩)).1;have s2:=(s1.stored (a.length*2+1) (.int .i64 m)).1;rw [aMf] at s2;have g1:=bR wr ⟨g,a.length*2,none⟩ (.string ⟨#[35]⟩);have g2:=bR (wr.setCell ⟨g,a.length*2,none⟩ (.string ⟨#[35]⟩)) ⟨g,a.length*2+1,none⟩ (.int .i64 m);have hg:=g1.trans g2;have hvb:g≠bx:=by have:=h.vne;simpa [zp] using this
 refine ⟨h.book.nodes h.own hg (λx hx=>(h.book.mks x hx).grown hg (hap x hx)),by rw [hl];exact s2,h.far.grown (v:=.slice (some ⟨g,0,none⟩) _ c) hg (zi (zi (zt (aX.refl _ _)))),hg.cell h.b0 (by simpa using λe=>hvb e.symm),hg.cell h.b1 (by simpa using λe=>hvb e.symm),h.vne⟩
variable {xy:Value×Value}
theorem aB5{ops:Array Oper}{rest:List Oper}{Q:Exit->Act->World->Prop}(hgd:o.guard=none)(s x:Operand)(hop:o.op=.call {callee:=.builtin .append,args:=#[s,x],argTypes:=#[37,37]})
  (B:Nat) (v:Value) (n:Nat) (m:Int) (hs:a.eval s=v) (ho:w.ownsRow B 36 2 v n (aG (mks n m))) (hB:B<=w.heap.size) (ad:Addr) (k c:Nat) (hx:a.eval x=.slice (some ad) k c) (hk:0<k/\k<=3) (hn:n<=5864062014805) (hnews:∀j u,(aG (mks k m))[j]?=some u->w.cell? (ad.add j)=some u)
  (h:∀v' w',w'.ownsRow B 36 2 v' (n+k) (aG (mks (n+k) m))->w'.ownsRow B 36 2 v n (aG (mks n m))->w.grownBy w' v.ownBlock->aX w v v'->(∀u,dV w u m->dV w' u m)->wpList zv ops Q rest (a.put o.dst v') w'):wpList zv ops Q (o :: rest) a w:=by
 refine wpList_plain hgd λK hK'=>?_
 obtain ⟨v',w',hr,h1,h2,h3,h4,h5⟩:=aQc w o.type B v n m ho hB ad k c hk hn hnews;unfold Oper.wp execOp;simp only [hop,resolve,invoke,builtin,Sem.run_bind,Sem.run_pure,Result.andThen_ok,zn,ze,zd,hs,hx,hr];exact hK' _ _ (h v' w' h1 h2 h3 h4 h5)
theorem aMg(w:World)(m:Int):∀j u,(aG (mks 1 m))[j]?=some u->(w.alloc (.cells #[.string ⟨#[35]⟩,.int .i64 m] 36)).cell? ((⟨w.heap.size,0,none⟩ : Addr).add j)=some u:=by
 intro j u hj;have h:aG (mks 1 m)=[.string ⟨#[35]⟩,.int .i64 m]:=rfl;rw [h] at hj;match j,hj with
 | 0,hj=>simp at hj;subst hj;simp [Addr.add]
 | 1,hj=>simp at hj;subst hj;simp [Addr.add]
 | j+2,hj=>simp at hj
theorem aMh(w:World)(m:Int):∀j u,(aG (mks 2 m))[j]?=some u->(w.alloc (.cells #[.string ⟨#[35]⟩,.int .i64 m,.string ⟨#[35]⟩,.int .i64 m] 36)).cell? ((⟨w.heap.size,0,none⟩ : Addr).add j)=some u:=by
 intro j u hj;have h:aG (mks 2 m)=[.string ⟨#[35]⟩,.int .i64 m,.string ⟨#[35]⟩,.int .i64 m]:=rfl;rw [h] at hj;match j,hj with
 | 0,hj=>simp at hj;subst hj;simp [Addr.add]
 | 1,hj=>simp at hj;subst hj;simp [Addr.add]
 | 2,hj=>simp at hj;subst hj;simp [Addr.add]
 | 3,hj=>simp at hj;subst hj;simp [Addr.add]
 | j+4,hj=>simp at hj
theorem aMi(w:World)(m:Int):∀j u,(aG (mks 3 m))[j]?=some u->(w.alloc (.cells #[.string ⟨#[35]⟩,.int .i64 m,.string ⟨#[35]⟩,.int .i64 m,.string ⟨#[35]⟩,.int .i64 m] 36)).cell? ((⟨w.heap.size,0,none⟩ : Addr).add j)=some u:=by
 intro j u hj;have h:aG (mks 3 m)=[.string ⟨#[35]⟩,.int .i64 m,.string ⟨#[35]⟩,.int .i64 m,.string ⟨#[35]⟩,.int .i64 m]:=rfl;rw [h] at hj;match j,hj with
 | 0,hj=>simp at hj;subst hj;simp [Addr.add]
 | 1,hj=>simp at hj;subst hj;simp [Addr.add]
 | 2,hj=>simp at hj;subst hj;simp [Addr.add]
 | 3,hj=>simp at hj;subst hj;simp [Addr.add]
 | 4,hj=>simp at hj;subst hj;simp [Addr.add]
 | 5,hj=>simp at hj;subst hj;simp [Addr.add]
 | j+6,hj=>simp at hj
theorem aEu(w:World)(t ty e:TypeId)(z:Value)(bytes:Nat)(ht:zv.underlying t=some (.slice e))(hinfo:(zv.info? e).map (λi=>(i.zero,i.size,i.bytes))=some (some z,1,bytes))(hz1:z.cells.size=1)(hby:bytes<=24)(base:Nat)(v:Value)(n:Nat)(xs:List Value)(hown:w.ownsRow base e 1 v n xs)(hn:n<=10000000000)(hbase:base<=w.heap.size)(g c k:Nat)(news:List Value)(hk:news.length=k)(hk0:0<k/\k<=4)(hnews:∀j u,news[j]?=some u->w.cell? ((⟨g,0,none⟩ : Addr).add j)=some u)(h1:∀u∈news,u.oneCell'=true) :
  ∃v' w',(Builtin.append_ #[t,t] ty #[v,.slice (some ⟨g,0,none⟩) k c]).run zv w=.ok v' w'/\w'.ownsRow base e 1 v' (n+k) (xs++news)/\w.grownBy w' v.ownBlock/\aX w v v':=by
 obtain ⟨i,hi,hz,hs,hy⟩:=info_parts hinfo;have hb24:(n+k)*bytes<=140737488355328:=zm (Nat.mul_le_mul (show n+k<=10000000004 by omega) hby) (by decide);by_cases hv:v.ownBlock=none
 ·have hnil:v=.slice none 0 0/\n=0:=by
   obtain ⟨_,h | ⟨g,cap,cur,rfl,_⟩⟩:=hown
   ·exact h
   ·simp [zp] at hv
  obtain ⟨rfl,rfl⟩:=hnil;have hxs:xs=[]:=List.eq_nil_of_length_eq_zero (by have:=hown.1;simpa using this);subst hxs;obtain ⟨v',w',hr,r1,r2,r3⟩:=run_append_own (P:=zv) w w.heap.size t ty e i z 1 bytes ht hi hz hs hy hz1 (by decide) (.slice none 0 0) 0 [] (World.ownsRow_nil _ _ _ _) ⟨g,0,none⟩ k c news (by omega) hnews h1 (by unfold maxLen;omega) hb24 (zw _);refine ⟨v',w',hr,dN r1 hbase,r2,?_⟩;cases hb:v'.ownBlock with
  | none=>exact zt (by rw [hb,hv])
  | some g'=>exact zi ⟨g',hb,(aT r1 g' hb).1⟩
 ·obtain ⟨v',w',hr,r1,r2,_⟩:=run_append_own (P:=zv) w base t ty e i z 1 bytes ht hi hz hs hy hz1 (by decide) v n xs hown ⟨g,0,none⟩ k c news (by omega) hnews h1 (by unfold maxLen;omega) hb24 hbase;refine ⟨v',w',hr,r1,r2,?_⟩;rcases wR w base t ty e i z 1 bytes ht hi hz hs hy (by decide) v n xs hown hv ⟨g,0,none⟩ k c news (by omega) hnews h1 (by unfold maxLen;omega) hb24 hr with e | e
  ·exact zt e
  ·exact zi ⟨_,e,zw _⟩
theorem aEv{ops:Array Oper}{rest:List Oper}{Q:Exit->Act->World->Prop}(hgd:o.guard=none)(s x:Operand)(t e:TypeId)(hop:o.op=.call {callee:=.builtin .append,args:=#[s,x],argTypes:=#[t,t]})
  (z:Value) (bytes:Nat) (ht:zv.underlying t=some (.slice e)) (hinfo:(zv.info? e).map (λi=>(i.zero,i.size,i.bytes))=some (some z,1,bytes)) (hz1:z.cells.size=1) (hby:bytes<=24) (base:Nat) (v:Value) (n:Nat) (xs:List Value) (hs:a.eval s=v) (hown:w.ownsRow base e 1 v n xs) (hn:n<=10000000000) (hbase:base<=w.heap.size) (g c k:Nat) (news:List Value) (hx:a.eval x=.slice (some ⟨g,0,none⟩) k c) (hk:news.length=k) (hk0:0<k/\k<=4) (hnews:∀j u,news[j]?=some u->w.cell? ((⟨g,0,none⟩ : Addr).add j)=some u) (h1:∀u∈news,u.oneCell'=true)
  (h:∀v' w',w'.ownsRow base e 1 v' (n+k) (xs++news)->w.grownBy w' v.ownBlock->aX w v v'->wpList zv ops Q rest (a.put o.dst v') w'):wpList zv ops Q (o :: rest) a w:=by
 refine wpList_plain hgd λK hK'=>?_
 obtain ⟨v',w',hr,r1,r2,r3⟩:=aEu w t o.type e z bytes ht hinfo hz1 hby base v n xs hown hn hbase g c k news hk hk0 hnews h1;unfold Oper.wp execOp;simp only [hop,resolve,invoke,builtin,Sem.run_bind,Sem.run_pure,Result.andThen_ok,zn,ze,zd,hs,hx,hr];exact hK' _ _ (h v' w' r1 r2 r3)
theorem aEw{ops:Array Oper}{K:Act->World->Prop}{Q:Exit->Act->World->Prop}{E:Prop}(hgd:o.guard=none)(s x:Operand)(t e:TypeId)(hop:o.op=.call {callee:=.builtin .append,args:=#[s,x],argTypes:=#[t,t]})
  (z:Value) (bytes:Nat) (ht:zv.underlying t=some (.slice e)) (hinfo:(zv.info? e).map (λi=>(i.zero,i.size,i.bytes))=some (some z,1,bytes)) (hz1:z.cells.size=1) (hby:bytes<=24) (base:Nat) (v:Value) (n:Nat) (xs:List Value) (hs:a.eval s=v) (hown:w.ownsRow base e 1 v n xs) (hn:n<=10000000000) (hbase:base<=w.heap.size) (g c k:Nat) (news:List Value) (hx:a.eval x=.slice (some ⟨g,0,none⟩) k c) (hk:news.length=k) (hk0:0<k/\k<=4) (hnews:∀j u,news[j]?=some u->w.cell? ((⟨g,0,none⟩ : Addr).add j)=some u) (h1:∀u∈news,u.oneCell'=true)
  (h:∀v' w',w'.ownsRow base e 1 v' (n+k) (xs++news)->w.grownBy w' v.ownBlock->aX w v v'->K (a.put o.dst v') w') :
  if zo o (yielded ops a.tmps)=true then Oper.wp zv o a w K Q else E:=by
 have hw:zo o (yielded ops a.tmps)=true:=by simp [zo,hgd]
 rw [if_pos hw];obtain ⟨v',w',hr,r1,r2,r3⟩:=aEu w t o.type e z bytes ht hinfo hz1 hby base v n xs hown hn hbase g c k news hk hk0 hnews h1;unfold Oper.wp execOp;simp only [hop,resolve,invoke,builtin,Sem.run_bind,Sem.run_pure,Result.andThen_ok,zn,ze,zd,hs,hx,hr];exact h v' w' r1 r2 r3
theorem aB6(w:World)(a b c d:Value)(t:TypeId):∀j u,[a,b,c,d][j]?=some u->(w.alloc (.cells #[a,b,c,d] t)).cell? ((⟨w.heap.size,0,none⟩ : Addr).add j)=some u:=by
 intro j u hj;match j,hj with
 | 0,hj=>simp at hj;subst hj;simp [Addr.add]
 | 1,hj=>simp at hj;subst hj;simp [Addr.add]
 | 2,hj=>simp at hj;subst hj;simp [Addr.add]
 | 3,hj=>simp at hj;subst hj;simp [Addr.add]
 | j+4,hj=>simp at hj
theorem aMj(a b c d:Option Addr)(n1 n2 n3 n4 c1 c2 c3 c4:Nat):∀u∈[Value.slice a n1 c1,.slice b n2 c2,.slice c n3 c3,.slice d n4 c4],u.oneCell'=true:=by intro u hu;simp at hu;rcases hu with rfl | rfl | rfl | rfl <;> rfl
theorem aEx(m:Int):∀u∈[zh .i64 m,.int .i64 m,.int .i64 m,.int .i64 m],u.oneCell'=true:=by intro u hu;simp at hu;subst hu;rfl
structure tI(w:World)(B bk:Nat)(xy:Value×Value)(nv mv lv nv':Value)(E:List (Value×Int))(m:Int)(D:List Value)(wr:World):Prop where
 box:wr.heap[bk]?=some (.cells (lD xy nv' mv m) 31)
 high:B<=bk
 rn:wr.ownsRow B 37 1 nv' (E.length+4) (E.map Prod.fst++D)
 rm:wr.ownsRow B 3 1 mv E.length (E.map λx=>zh .i64 x.2)
 old:∀x∈E,dV wr x.1 x.2
 new:∀d∈D,dV wr d m
 far:iW w wr bk nv mv lv
 mn:aX w nv nv'
section
variable {w wr w4:World}{B bk bx:Nat}{nv mv lv nv' mv':Value}{E:List (Value×Int)}{m:Int}{n:Nat}{D:List Value}
theorem dV.other{w:World}{B:Nat}{e:TypeId}{u:Value}{n':Nat}{xs:List Value}{m:Int}(h:dV w v m)(ho:w.ownsRow B e 1 u n' xs)(he:36≠e)(hg:w.grownBy w' u.ownBlock):dV w' v m:=by
 rcases h with h | ⟨g,n,c,cur,rfl,hh,hk⟩
 ·exact zt h
 ·refine dV.grown (zi ⟨g,n,c,cur,rfl,hh,hk⟩) hg ?_;right;intro e';obtain ⟨_,⟨rfl,_⟩ | ⟨g',cap,cur',rfl,_,hh',_⟩⟩:=ho
  ·simp [zp] at e'
  ·simp [zp] at e';subst e';rw [hh] at hh';simp at hh';exact he hh'.2
theorem uQ.mid(h:uQ w B bk bx xy nv mv lv E m n D wr){X:Obj}(r1:w4.ownsRow B 37 1 nv' (E.length+4) (E.map Prod.fst++D))(r2:(wr.alloc X).grownBy w4 nv.ownBlock)(r3:aX (wr.alloc X) nv nv') :
  tI w B bk xy nv mv lv nv' E m D (w4.setCell ⟨bk,0,none⟩ nv')/\w4.cell? ⟨bk,0,none⟩=some nv/\w4.frozen? ⟨bk,0,none⟩=false:=by
 have hb:Below wr.heap.size wr (wr.alloc X):=(Below.refl _ _).alloc (zw _) X;have hbk:=h.book.below hb;have hne:nv.ownBlock≠some bk:=cE hbk.rn hbk.box (by decide);have hbx:w4.heap[bk]?=some (.cells (lD xy nv mv m) 31):=by rw [r2.block bk hbk.lt (λe=>hne e.symm),hbk.box]
 have hws:=h.far.size;refine ⟨⟨yI hbx,hbk.high,eC r1 hbx (by decide),eC (cH hbk.rm r2 (bW hbk.rm hbk.rn (by decide))) hbx (by decide),λx hx=>((hbk.mks x hx).other hbk.rn (by decide) r2).setB hbx 0 _,λd hd=>(((h.marks d hd).below hb).other hbk.rn (by decide) r2).setB hbx 0 _,((h.far.below hb).grown r2 (zt (aX.refl _ _))).setB 0 _,(aX.refl w nv).trans r3 (by simp;omega)⟩,by simp [zr,hbx],by simp [zg,hbx]⟩
end
theorem tI.done{mv' d1 d2 d3 d4:Value}(h:tI w B bk xy nv mv lv nv' E m [d1,d2,d3,d4] wr){X:Obj}(r1:w6.ownsRow B 3 1 mv' (E.length+4) ((E.map λx=>zh .i64 x.2)++[.int .i64 m,.int .i64 m,.int .i64 m,.int .i64 m]))(r2:(wr.drew.alloc X).grownBy w6 mv.ownBlock)(r3:aX (wr.drew.alloc X) mv mv')(hf:E.length+4<=10000000000)(hlo : -10000000000<=m)(hhi:m<=0) :
  (dU (w6.setCell ⟨bk,1,none⟩ mv') B bk xy nv' mv' (E++[(d1,m),(d2,m),(d3,m),(d4,m)]) m/\iW w (w6.setCell ⟨bk,1,none⟩ mv') bk nv mv lv/\aX w mv mv')/\w6.cell? ⟨bk,1,none⟩=some mv/\w6.frozen? ⟨bk,1,none⟩=false:=by
 have hb:Below wr.heap.size wr (wr.drew.alloc X):=(aI (w1:=wr.drew) ⟨1,rfl⟩).alloc (zw _) X;have hbl:bk<wr.heap.size:=(zs.1 h.box).1;have hbox:(wr.drew.alloc X).heap[bk]?=some (.cells (lD xy nv' mv m) 31):=by rw [hb.block bk hbl,h.box]
 have hrm:=aU h.rm hb (zw _);have hrn:=aU h.rn hb (zw _);have hne:mv.ownBlock≠some bk:=cE hrm hbox (by decide);have hbx:w6.heap[bk]?=some (.cells (lD xy nv' mv m) 31):=by rw [r2.block bk (by simp;omega) (λe=>hne e.symm),hbox]
 have hws:=h.far.size;have hl:(E++[(d1,m),(d2,m),(d3,m),(d4,m)]).length=E.length+4:=by simp
 refine ⟨⟨⟨yI hbx,h.high,?_,?_,?_,by rw [hl];exact hf,hlo,hhi⟩,((h.far.below hb).grown r2 (zi (zt (aX.refl _ _)))).setB 1 _,(aX.refl w mv).trans r3 (by simp;omega)⟩,by simp [zr,hbx],by simp [zg,hbx]⟩
 ·rw [hl,List.map_append];exact eC (cH hrn r2 (bW hrn hrm (by decide))) hbx (by decide)
 ·rw [hl,List.map_append];exact eC r1 hbx (by decide)
 ·intro x hx;rcases zl.1 hx with hx | hx
  ·exact (((h.old x hx).below hb).other hrm (by decide) r2).setB hbx 1 _
  ·have:x.2=m/\x.1∈[d1,d2,d3,d4]:=by
    simp at hx;rcases hx with rfl | rfl | rfl | rfl <;> simp
   rw [this.1];exact (((h.new x.1 this.2).below hb).other hrm (by decide) r2).setB hbx 1 _
theorem tI.keep8'{D:List Value}(h:tI w B bk xy nv mv lv nv' E m D wr){X:Obj}(r2:(wr.drew.alloc X).grownBy w6 mv.ownBlock):w6.cell? ⟨bk,8,none⟩=some (.int .i64 m):=by
 have hb:Below wr.heap.size wr (wr.drew.alloc X):=(aI (w1:=wr.drew) ⟨1,rfl⟩).alloc (zw _) X;have hbl:bk<wr.heap.size:=(zs.1 h.box).1;have hbox:(wr.drew.alloc X).heap[bk]?=some (.cells (lD xy nv' mv m) 31):=by rw [hb.block bk hbl,h.box]
 have hne:mv.ownBlock≠some bk:=cE (aU h.rm hb (zw _)) hbox (by decide);have hbx:w6.heap[bk]?=some (.cells (lD xy nv' mv m) 31):=by rw [r2.block bk (by simp;omega) (λe=>hne e.symm),hbox]
 simp [zr,hbx]
theorem tI.keep8{D:List Value}(h:tI w B bk xy nv mv lv nv' E m D wr){X:Obj}(r2:(wr.drew.alloc X).grownBy w6 mv.ownBlock)(x:Value):(w6.setCell ⟨bk,1,none⟩ x).cell? ⟨bk,8,none⟩=some (.int .i64 m):=by rw [World.cell?_setCell_other _ _ _ _ (by simp)];exact h.keep8' r2
theorem gD{ops:Array Oper}{Q:Exit->Act->World->Prop}{S:World->Prop}{i:Nat}{oi:Oper}{d:Option Tmp}{fuel:Nat}{listed:Array Bool}(hi:ops[i]?=some oi)(hd:oi.dst=d)(hs:Region.noSelect ops=true)(hf:Region.free .any ops listed i=true)(hr:(Region.ready .any ops listed).contains i=true)
  (hQ:∀c a w,Q (.panic c) (a.put d v) w->Q (.panic c) a w) (hy:YieldsIf zv ops S oi v a) (hS:S w) (h:wpAnyH zv .any ops Q S fuel (listed.setIfInBounds i true) (a.put d v) w):wpAnyH zv .any ops Q S (fuel+1) listed a w:=by
 subst hd;exact wpAnyH_take hi hs hf hr hQ hy hS h
theorem yJ{ops:Array Oper}{i:Nat}{d:Option Tmp}{K:Act->World->Prop}{Q:Exit->Act->World->Prop}(hi:ops[i]?=some o)(hd:o.dst=d)(hg:o.guard=none)(hr:(execOp a.eval o).run zv w=.ok (.value v) w')(h:K (a.put d v) w'):wpOp zv ops Q i K a w:=by subst hd;exact tR hi hg hr h
theorem aEy{ops:Array Oper}{i:Nat}{d:Option Tmp}{K:Act->World->Prop}{Q:Exit->Act->World->Prop}(hi:ops[i]?=some o)(hd:o.dst=d)(hg:o.guard=none)(hr:(execOp a.eval o).run zv w=.ok .skip w')(h:K (a.put d undef) w'):wpOp zv ops Q i K a w:=by
 subst hd;refine wpOp_step hi λK' hK=>?_
 rw [if_pos (by simp [zo,hg])];unfold Oper.wp;rw [hr];exact hK _ _ h
structure yK(w:World)(B bk:Nat)(xy:Value×Value)(nv mv lv:Value)(E:List (Value×Int))(next:Int)(w':World)(nv' mv':Value)(E':List (Value×Int)):Prop where
 book:dU w' B bk xy nv' mv' (E++E') (next-1)
 len:E'.length=4
 new:∀x∈E',aX w lv x.1
 far:iW w w' bk nv mv lv
 mn:aX w nv nv'
 mm:aX w mv mv'
theorem aMk(B bk:Nat)(nv mv lv:Value)(E:List (Value×Int))(next:Int)(l:List Nd)(w:World)(h:dU w B bk xy nv mv E next)(ho:fP w B lv l)(hap:∀x∈E,x.1.ownBlock=none\/x.1.ownBlock≠lv.ownBlock)(hlen:l.length<=5864062014805)(hfew:E.length<=9000000000)(hnx : -9000000000<=next)(hB:B<=w.heap.size) :
  Calls zv 28 #[.pointer (some ⟨bk,0,none⟩),lv] w λe w'=>∃nv' mv' E',e=.returned (.tuple #[])/\yK w B bk xy nv mv lv E next w' nv' mv' E':=by
 have hhi:=h.hi;have hc8:=h.c8;have hf8:=h.soft 8;have hbl:=h.lt;obtain ⟨la,lc,rfl⟩:=aS ho;obtain ⟨na,nn,nc,rfl⟩:=kB h.rn;obtain ⟨ma,mn,mc,rfl⟩:=kB h.rm;have hbk1:=h.setNext (x:=next-1) (by omega) (by omega);have ho1:(w.setCell ⟨bk,8,none⟩ (.int .i64 (next-1))).ownsRow B 36 2 (.slice la l.length lc) l.length (aG l):=eC ho h.box (by decide);have hfar1:iW w (w.setCell ⟨bk,8,none⟩ (.int .i64 (next-1))) bk (.slice na nn nc) (.slice ma mn mc) (.slice la l.length lc):=(iW.refl _ _ _ _ _).setB 8 _;have HAP:=aA hap;have HW0:=aA h;have hvne:(Value.slice la l.length lc).ownBlock≠some w.heap.size:=qK ho;obtain ⟨y0,y1⟩:=tQ (w.setCell ⟨bk,8,none⟩ (.int .i64 (next-1))) (.string ⟨#[35]⟩) (.int .i64 (next-1)) 36;have hsz1:(w.setCell ⟨bk,8,none⟩ (.int .i64 (next-1))).heap.size=w.heap.size:=by simp [zf]
 rw [hsz1] at y0 y1;have hbA:Below (w.setCell ⟨bk,8,none⟩ (.int .i64 (next-1))).heap.size (w.setCell ⟨bk,8,none⟩ (.int .i64 (next-1))) ((w.setCell ⟨bk,8,none⟩ (.int .i64 (next-1))).alloc (.cells #[.string ⟨#[35]⟩,.int .i64 (next-1)] 36)):=(Below.refl _ _).alloc (zw _) _;have HST:=aA (wH.mk (hbk1.below hbA) (aU ho1 hbA (zw _)) (hfar1.below hbA) y0 y1 hvne);clear h ho hap hbk1 ho1 hfar1 hbA hsz1 y0 y1 hvne;go_enter Tryz.func28,Tryz.ntmps28;go_wp2;clear hc8 hf8;generalize (w.setCell ⟨bk,8,none⟩ (.int .i64 (next-1))).alloc (.cells #[.string ⟨#[35]⟩,.int .i64 (next-1)] 36)=W2 at *;have hm1 : -10000000000<=next-1/\next-1<=0:=by omega
 generalize hmm:next-1=m at *
 have HMM:=aA hmm;clear hmm;go_loopw [5] (λc wr=>∃k:Nat,k<=l.length/\c=.int .i64 k/\wH w B bk w.heap.size xy (.slice na nn nc) (.slice ma mn mc) (.slice la l.length lc) E m (mks k m++l.drop k) wr) (λc _=>l.length-(intOf c).toNat);case atStart=>exact ⟨0,Nat.zero_le _,rfl,by simpa using HST.out⟩
 case round=>
  obtain ⟨k,hk,rfl,hW⟩:=hrel;have z0:=hW.b0;have z1:=hW.b1;by_cases hlt:k<l.length
  ·have hlti:(k:Int)<(l.length:Int):=by omega
   have hd:l.drop k=l[k] :: l.drop (k+1):=List.drop_eq_getElem_cons hlt;rw [hd] at hW;obtain ⟨a',cap',e',hc'⟩:=aBv hW.own;obtain ⟨g,ha,e0,e1⟩:=hc' k l[k] (by rw [List.getElem?_append_right (by simp)];simp);simp at e';obtain ⟨rfl,-,-⟩:=e';subst ha;have hfz:∀j,wr.frozen? ⟨g,j,none⟩=false:=λj=>by
    have:=hW.own;rw [show (mks k m++l[k] :: l.drop (k+1)).length=l.length by simp;omega] at this;exact this.frozenAt j
   have f0:=hfz (k*2);have f1:=hfz (k*2+1);have hput:=hW.put (by simp;omega) HAP.out;simp only [zj] at hput;have HP:=aA hput;clear hput hW hc' hd hfz;generalize l[k]=y at *;obtain ⟨ys,yx⟩:=y;simp only at e0 e1;clear HST HMM hm1;go_wp2;go_roundw;case rel=>exact ⟨k+1,by omega,by go_num,by rw [show mks (k+1) m++l.drop (k+1)=mks k m++wS m :: l.drop (k+1) by (unfold mks;rw [List.replicate_succ'];simp)];exact HP.out⟩
   case measure=>simp [intOf];omega
  ·have hke:k=l.length:=by omega
   subst hke;have hlti:¬((l.length:Int)<(l.length:Int)):=by omega
   rw [List.drop_length,List.append_nil] at hW;have hown:=hW.own;rw [zj] at hown;have HS0:=aA (uQ.mk (D:=[.slice la l.length lc]) hW.book hown (λd hd=>by simp at hd;subst hd;exact dV.of_own hown (by omega)) (λd hd=>by simp at hd;subst hd;exact aX.refl _ _) hW.far z0 z1 hW.vne);have hws:=hW.far.size;clear hW hown;generalize hnl:l.length=n at *;have HNL:=aA hnl;clear hnl;go_wp2_with (first
    | (at_builtin;refine aEv rfl (.tmp 50) (.tmp 55) 24 37 rfl (.slice none 0 0) 24 Tryz.underlying24 aMe rfl (by omega) B _ E.length (E.map Prod.fst) rfl (HS3.out.book.rn.alloc _) (by omega) (by simp;omega) w3.heap.size 4 4 [.slice la n lc,.slice a1 n1 c1,.slice a2 n2 c2,.slice a3 n3 c3] rfl rfl (by omega) (aB6 w3 _ _ _ _ 37) (aMj _ _ _ _ _ _ _ _ _ _ _ _) ?_;intro v4 w4 r1 r2 r3;obtain ⟨hM,d0,df⟩:=HS3.out.mid r1 r2 r3;have HM:=aA hM;have hw4:w3.heap.size<=w4.heap.size:=(by have:=r2.size;simp at this;omega);obtain ⟨a4,n4,c4,rfl⟩:=kB r1;clear r1 r2 r3 hM)
    | (at_builtin;refine aB5 rfl (.tmp 40) (.tmp 44) rfl B _ n m rfl (HS2.out.own.alloc _) (by simp;omega) ⟨w2.heap.size,0,none⟩ 3 3 rfl (by omega) hlen (aMi w2 m) ?_;intro v3 w3 r1 r2 r3 r4 r5;have HS3:=aA (HS2.out.next HAP.out r1 r2 r3 r4 r5 (by omega));have b30:=HS3.out.b0;have b31:=HS3.out.b1;have hw3:=HS3.out.far.size;have q0:=HS3.out.book.c0;obtain ⟨a3,n3,c3,rfl⟩:=kB r1;clear r1 r2 r3 r4 r5)
    | (at_builtin;refine aB5 rfl (.tmp 35) (.tmp 38) rfl B _ n m rfl (HS1.out.own.alloc _) (by simp;omega) ⟨w1.heap.size,0,none⟩ 2 2 rfl (by omega) hlen (aMh w1 m) ?_;intro v2 w2 r1 r2 r3 r4 r5;have HS2:=aA (HS1.out.next HAP.out r1 r2 r3 r4 r5 (by omega));have b20:=HS2.out.b0;have b21:=HS2.out.b1;have hw2:=HS2.out.far.size;obtain ⟨a2,n2,c2,rfl⟩:=kB r1;clear r1 r2 r3 r4 r5)
    | (at_builtin;refine aB5 rfl (.tmp 31) (.tmp 33) rfl B _ n m rfl (HS0.out.own.alloc _) (by simp;omega) ⟨wr.heap.size,0,none⟩ 1 1 rfl (by omega) hlen (aMg wr m) ?_;intro v1 w1 r1 r2 r3 r4 r5;have HS1:=aA (HS0.out.next HAP.out r1 r2 r3 r4 r5 (by omega));have b10:=HS1.out.b0;have b11:=HS1.out.b1;have hw1:=HS1.out.far.size;obtain ⟨a1,n1,c1,rfl⟩:=kB r1;clear r1 r2 r3 r4 r5)
    | go_in)
   have hc1:(w4.setCell ⟨bk,0,none⟩ (.slice a4 n4 c4)).cell? ⟨bk,1,none⟩=some (.slice ma mn mc):=by simp [zr,HM.out.box]
   have hc8:(w4.setCell ⟨bk,0,none⟩ (.slice a4 n4 c4)).cell? ⟨bk,8,none⟩=some (.int .i64 m):=by simp [zr,HM.out.box]
   have hb5:bk<(w4.setCell ⟨bk,0,none⟩ (.slice a4 n4 c4)).heap.size:=(zs.1 HM.out.box).1;have hw5:w4.heap.size=(w4.setCell ⟨bk,0,none⟩ (.slice a4 n4 c4)).heap.size:=by simp [zf]
   have hw5':w.heap.size<=(w4.setCell ⟨bk,0,none⟩ (.slice a4 n4 c4)).heap.size:=by omega
   clear d0 df hw5 z0 z1 b10 b11 b20 b21 b30 b31 q0;generalize w4.setCell ⟨bk,0,none⟩ (.slice a4 n4 c4)=w5 at *;have hX1:∀X,(w5.alloc X).cell? ⟨bk,1,none⟩=some (.slice ma mn mc):=λX=>Below.at' ((Below.refl w5.heap.size w5).alloc (zw _) X) (zw _) hc1
   have hX8:∀X,(w5.alloc X).cell? ⟨bk,8,none⟩=some (.int .i64 m):=λX=>Below.at' ((Below.refl w5.heap.size w5).alloc (zw _) X) (zw _) hc8
   have hrm:w5.drew.ownsRow B 3 1 (.slice ma mn mc) E.length (E.map λx=>zh .i64 x.2):=HM.out.rm;refine wp_region_held (S:=λw'=>w'.cell? ⟨bk,8,none⟩=some (.int .i64 m)) (by kernel_rfl) ?_;change wpAnyH _ _ _ _ _ _ _ _ w5.drew;refine gD (i:=0) (d:=some 59) (v:=.pointer (some ⟨bk,0,none⟩)) rfl rfl (by kernel_rfl) (by kernel_rfl) (by kernel_rfl) (λ_ _ _ h=>h) (zt ⟨by rfl,λw' hw'=>(by dsimp only at hw';go_simp)⟩) hc8 ?_;simp only [zu,zz,zy,zx];refine gD (i:=1) (d:=some 60) (v:=.pointer (some ⟨bk,0,none⟩)) rfl rfl (by kernel_rfl) (by kernel_rfl) (by kernel_rfl) (λ_ _ _ h=>h) (zt ⟨by rfl,λw' hw'=>(by dsimp only at hw';go_simp)⟩) hc8 ?_;simp only [zu,zz,zy,zx];refine gD (i:=2) (d:=some 61) (v:=.pointer (some ⟨bk,0,none⟩)) rfl rfl (by kernel_rfl) (by kernel_rfl) (by kernel_rfl) (λ_ _ _ h=>h) (zt ⟨by rfl,λw' hw'=>(by dsimp only at hw';go_simp)⟩) hc8 ?_;simp only [zu,zz,zy,zx];refine gD (i:=3) (d:=some 62) (v:=.pointer (some ⟨bk,1,none⟩)) rfl rfl (by kernel_rfl) (by kernel_rfl) (by kernel_rfl) (λ_ _ _ h=>h) (zt ⟨by rfl,λw' hw'=>(by dsimp only at hw';go_simp)⟩) hc8 ?_;simp only [zu,zz,zy,zx];refine gD (i:=5) (d:=some 64) (v:=.pointer (some ⟨bk,0,none⟩)) rfl rfl (by kernel_rfl) (by kernel_rfl) (by kernel_rfl) (λ_ _ _ h=>h) (zt ⟨by rfl,λw' hw'=>(by dsimp only at hw';go_simp)⟩) hc8 ?_;simp only [zu,zz,zy,zx];refine gD (i:=6) (d:=some 65) (v:=.pointer (some ⟨bk,0,none⟩)) rfl rfl (by kernel_rfl) (by kernel_rfl) (by kernel_rfl) (λ_ _ _ h=>h) (zt ⟨by rfl,λw' hw'=>(by dsimp only at hw';go_simp)⟩) hc8 ?_;simp only [zu,zz,zy,zx];refine gD (i:=7) (d:=some 66) (v:=.pointer (some ⟨bk,8,none⟩)) rfl rfl (by kernel_rfl) (by kernel_rfl) (by kernel_rfl) (λ_ _ _ h=>h) (zt ⟨by rfl,λw' hw'=>(by dsimp only at hw';go_simp)⟩) hc8 ?_;simp only [zu,zz,zy,zx];refine gD (i:=8) (d:=some 67) (v:=.int .i64 m) rfl rfl (by kernel_rfl) (by kernel_rfl) (by kernel_rfl) (λ_ _ _ h=>h) (zt ⟨by rfl,λw' hw'=>(by dsimp only at hw';go_simp)⟩) hc8 ?_;simp only [zu,zz,zy,zx];refine gD (i:=9) (d:=some 68) (v:=.pointer (some ⟨bk,0,none⟩)) rfl rfl (by kernel_rfl) (by kernel_rfl) (by kernel_rfl) (λ_ _ _ h=>h) (zt ⟨by rfl,λw' hw'=>(by dsimp only at hw';go_simp)⟩) hc8 ?_;simp only [zu,zz,zy,zx];refine gD (i:=10) (d:=some 69) (v:=.pointer (some ⟨bk,0,none⟩)) rfl rfl (by kernel_rfl) (by kernel_rfl) (by kernel_rfl) (λ_ _ _ h=>h) (zt ⟨by rfl,λw' hw'=>(by dsimp only at hw';go_simp)⟩) hc8 ?_;simp only [zu,zz,zy,zx];refine gD (i:=11) (d:=some 70) (v:=.pointer (some ⟨bk,8,none⟩)) rfl rfl (by kernel_rfl) (by kernel_rfl) (by kernel_rfl) (λ_ _ _ h=>h) (zt ⟨by rfl,λw' hw'=>(by dsimp only at hw';go_simp)⟩) hc8 ?_;simp only [zu,zz,zy,zx];refine gD (i:=12) (d:=some 71) (v:=.int .i64 m) rfl rfl (by kernel_rfl) (by kernel_rfl) (by kernel_rfl) (λ_ _ _ h=>h) (zt ⟨by rfl,λw' hw'=>(by dsimp only at hw';go_simp)⟩) hc8 ?_;simp only [zu,zz,zy,zx];refine gD (i:=13) (d:=some 72) (v:=.pointer (some ⟨bk,0,none⟩)) rfl rfl (by kernel_rfl) (by kernel_rfl) (by kernel_rfl) (λ_ _ _ h=>h) (zt ⟨by rfl,λw' hw'=>(by dsimp only at hw';go_simp)⟩) hc8 ?_;simp only [zu,zz,zy,zx];refine gD (i:=14) (d:=some 73) (v:=.pointer (some ⟨bk,0,none⟩)) rfl rfl (by kernel_rfl) (by kernel_rfl) (by kernel_rfl) (λ_ _ _ h=>h) (zt ⟨by rfl,λw' hw'=>(by dsimp only at hw';go_simp)⟩) hc8 ?_;simp only [zu,zz,zy,zx];refine gD (i:=15) (d:=some 74) (v:=.pointer (some ⟨bk,8,none⟩)) rfl rfl (by kernel_rfl) (by kernel_rfl) (by kernel_rfl) (λ_ _ _ h=>h) (zt ⟨by rfl,λw' hw'=>(by dsimp only at hw';go_simp)⟩) hc8 ?_;simp only [zu,zz,zy,zx];refine gD (i:=16) (d:=some 75) (v:=.int .i64 m) rfl rfl (by kernel_rfl) (by kernel_rfl) (by kernel_rfl) (λ_ _ _ h=>h) (zt ⟨by rfl,λw' hw'=>(by dsimp only at hw';go_simp)⟩) hc8 ?_;simp only [zu,zz,zy,zx];refine gD (i:=17) (d:=some 76) (v:=.pointer (some ⟨bk,0,none⟩)) rfl rfl (by kernel_rfl) (by kernel_rfl) (by kernel_rfl) (λ_ _ _ h=>h) (zt ⟨by rfl,λw' hw'=>(by dsimp only at hw';go_simp)⟩) hc8 ?_;simp only [zu,zz,zy,zx];refine gD (i:=18) (d:=some 77) (v:=.pointer (some ⟨bk,0,none⟩)) rfl rfl (by kernel_rfl) (by kernel_rfl) (by kernel_rfl) (λ_ _ _ h=>h) (zt ⟨by rfl,λw' hw'=>(by dsimp only at hw';go_simp)⟩) hc8 ?_;simp only [zu,zz,zy,zx];refine gD (i:=19) (d:=some 78) (v:=.pointer (some ⟨bk,8,none⟩)) rfl rfl (by kernel_rfl) (by kernel_rfl) (by kernel_rfl) (λ_ _ _ h=>h) (zt ⟨by rfl,λw' hw'=>(by dsimp only at hw';go_simp)⟩) hc8 ?_;simp only [zu,zz,zy,zx];refine gD (i:=20) (d:=some 79) (v:=.int .i64 m) rfl rfl (by kernel_rfl) (by kernel_rfl) (by kernel_rfl) (λ_ _ _ h=>h) (zt ⟨by rfl,λw' hw'=>(by dsimp only at hw';go_simp)⟩) hc8 ?_;simp only [zu,zz,zy,zx];refine wpAnyH_all (rs:=[4,21]) (by kernel_rfl) (by simp) λi hi=>?_
   have hi':i=4\/i=21:=by simpa using hi
   rcases hi' with rfl | rfl
   ·refine yJ (d:=some 63) (v:=.slice ma mn mc) (w':=w5.drew) rfl rfl rfl (by go_simp) ⟨hc8,?_⟩;simp only [zu,zz,zy,zx];refine wpAnyH_all (rs:=[21]) (by kernel_rfl) (by simp) λi hi=>?_
    obtain rfl:i=21:=by simpa using hi
    refine yJ (d:=some 80) (v:=.slice (some ⟨w5.heap.size,0,none⟩) 4 4) (w':=w5.drew.alloc (.cells #[.int .i64 m,.int .i64 m,.int .i64 m,.int .i64 m] 3)) rfl rfl rfl (by go_simp) ⟨hX8 _,?_⟩;simp only [zu,zz,zy,zx];refine wpAnyH_all (rs:=[22]) (by kernel_rfl) (by simp) λi hi=>?_
    obtain rfl:i=22:=by simpa using hi
    refine wpOp_step rfl λK' hK=>?_
    refine aEw rfl _ _ 25 3 rfl (.int .i64 0) 8 zc pB rfl (by omega) B _ E.length _ rfl (hrm.alloc _) (by omega) (by simp;omega) w5.heap.size 4 4 [.int .i64 m,.int .i64 m,.int .i64 m,.int .i64 m] rfl rfl (by omega) (aB6 w5.drew _ _ _ _ 3) (aEx m) ?_;intro v6 w6 r1 r2 r3;obtain ⟨⟨hB6,hF6,hM6⟩,d0,df⟩:=HM.out.done r1 r2 r3 (by omega) hm1.1 hm1.2;have d8:=HM.out.keep8' r2;have d8':=HM.out.keep8 r2;obtain ⟨a6,n6,c6,rfl⟩:=kB r1;refine hK _ _ ⟨d8,?_⟩;clear hK r1 r2 r3;change wpAnyH _ _ _ _ _ _ _ (zu _ (some 81) (.slice a6 n6 c6)) w6;simp only [zu,zz,zy,zx];refine gD (i:=23) (d:=some 82) (v:=.pointer (some ⟨bk,0,none⟩)) rfl rfl (by kernel_rfl) (by kernel_rfl) (by kernel_rfl) (λ_ _ _ h=>h) (zt ⟨by rfl,λw' hw'=>(by dsimp only at hw';go_simp)⟩) d8 ?_;simp only [zu,zz,zy,zx];refine gD (i:=24) (d:=some 83) (v:=.pointer (some ⟨bk,1,none⟩)) rfl rfl (by kernel_rfl) (by kernel_rfl) (by kernel_rfl) (λ_ _ _ h=>h) (zt ⟨by rfl,λw' hw'=>(by dsimp only at hw';go_simp)⟩) d8 ?_;simp only [zu,zz,zy,zx];refine wpAnyH_all (rs:=[25]) (by kernel_rfl) (by simp) λi hi=>?_
    obtain rfl:i=25:=by simpa using hi
    refine aEy (d:=none) (w':=w6.setCell ⟨bk,1,none⟩ (.slice a6 n6 c6)) rfl rfl rfl (by go_simp) ⟨d8' _,?_⟩;refine wpAnyH_done (by kernel_rfl) ?_ _;go_end0;have hnl:=HNL.out;subst hnl;exact ⟨_,_,_,rfl,⟨by rw [HMM.out];exact hB6,rfl,λx hx=>HS3.out.moved x.1 (by simp at hx;rcases hx with rfl | rfl | rfl | rfl <;> simp),hF6,HM.out.mn,hM6⟩⟩
   ·refine yJ (d:=some 80) (v:=.slice (some ⟨w5.heap.size,0,none⟩) 4 4) (w':=w5.drew.alloc (.cells #[.int .i64 m,.int .i64 m,.int .i64 m,.int .i64 m] 3)) rfl rfl rfl (by go_simp) ⟨hX8 _,?_⟩;simp only [zu,zz,zy,zx];refine wpAnyH_all (rs:=[4]) (by kernel_rfl) (by simp) λi hi=>?_
    obtain rfl:i=4:=by simpa using hi
    refine yJ (d:=some 63) (v:=.slice ma mn mc) (w':=w5.drew.alloc (.cells #[.int .i64 m,.int .i64 m,.int .i64 m,.int .i64 m] 3)) rfl rfl rfl (by go_simp) ⟨hX8 _,?_⟩;simp only [zu,zz,zy,zx];refine wpAnyH_all (rs:=[22]) (by kernel_rfl) (by simp) λi hi=>?_
    obtain rfl:i=22:=by simpa using hi
    refine wpOp_step rfl λK' hK=>?_
    refine aEw rfl _ _ 25 3 rfl (.int .i64 0) 8 zc pB rfl (by omega) B _ E.length _ rfl (hrm.alloc _) (by omega) (by simp;omega) w5.heap.size 4 4 [.int .i64 m,.int .i64 m,.int .i64 m,.int .i64 m] rfl rfl (by omega) (aB6 w5.drew _ _ _ _ 3) (aEx m) ?_;intro v6 w6 r1 r2 r3;obtain ⟨⟨hB6,hF6,hM6⟩,d0,df⟩:=HM.out.done r1 r2 r3 (by omega) hm1.1 hm1.2;have d8:=HM.out.keep8' r2;have d8':=HM.out.keep8 r2;obtain ⟨a6,n6,c6,rfl⟩:=kB r1;refine hK _ _ ⟨d8,?_⟩;clear hK r1 r2 r3;change wpAnyH _ _ _ _ _ _ _ (zu _ (some 81) (.slice a6 n6 c6)) w6;simp only [zu,zz,zy,zx];refine gD (i:=23) (d:=some 82) (v:=.pointer (some ⟨bk,0,none⟩)) rfl rfl (by kernel_rfl) (by kernel_rfl) (by kernel_rfl) (λ_ _ _ h=>h) (zt ⟨by rfl,λw' hw'=>(by dsimp only at hw';go_simp)⟩) d8 ?_;simp only [zu,zz,zy,zx];refine gD (i:=24) (d:=some 83) (v:=.pointer (some ⟨bk,1,none⟩)) rfl rfl (by kernel_rfl) (by kernel_rfl) (by kernel_rfl) (λ_ _ _ h=>h) (zt ⟨by rfl,λw' hw'=>(by dsimp only at hw';go_simp)⟩) d8 ?_;simp only [zu,zz,zy,zx];refine wpAnyH_all (rs:=[25]) (by kernel_rfl) (by simp) λi hi=>?_
    obtain rfl:i=25:=by simpa using hi
    refine aEy (d:=none) (w':=w6.setCell ⟨bk,1,none⟩ (.slice a6 n6 c6)) rfl rfl rfl (by go_simp) ⟨d8' _,?_⟩;refine wpAnyH_done (by kernel_rfl) ?_ _;go_end0;have hnl:=HNL.out;subst hnl;exact ⟨_,_,_,rfl,⟨by rw [HMM.out];exact hB6,rfl,λx hx=>HS3.out.moved x.1 (by simp at hx;rcases hx with rfl | rfl | rfl | rfl <;> simp),hF6,HM.out.mn,hM6⟩⟩
end Go.Proofs.YtcldkjcpofjmhaaGreatDoor
