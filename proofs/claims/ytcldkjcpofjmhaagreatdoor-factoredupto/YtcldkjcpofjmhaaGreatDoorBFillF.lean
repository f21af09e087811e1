import Derived.Test.YtcldkjcpofjmhaaGreatDoorGLitsF
open And renaming intro→zm
open Array renaming getElem?_eq_some_iff→zx
open List renaming mem_append→zy,getElem_mem→zw,mem_filterMap→zv,mem_of_mem_take→zr,mem_cons_of_mem→zq,getElem?_append_right→zo,drop_eq_getElem_cons→zl,mem_cons_self→zh,getElem?_eq_some_iff→zg,mem_cons→zf,mem_flatMap→ze,set_append_right→zd,getElem?_drop→zb,flatMap_cons→z2,mem_map→z3,not_mem_nil→z5
open Nat renaming le_refl→zz,zero_le→zp,lt_of_lt_of_le→zi,le_trans→za
open Or renaming inr→zt,inl→zk
open Prod renaming snd→zj
namespace Go.Proofs.YtcldkjcpofjmhaaGreatDoor
open IntKind renaming wrap_i64→z6,i64→z7
open _root_.Go.Proofs.Tryz renaming prog→zn,underlying22→z4
open Value renaming ownBlock→zu,slice→zc
open World renaming cell?→zs
set_option maxHeartbeats 8000000
set_option maxRecDepth 100000
open Go.RowKit Go.Shelf
theorem aM1(a b:Value)(xs:List Value)(k:Nat)(h:(k+1)*2<=xs.length) :
  ((rep k [a,b]++xs.drop (k*2)).set (k*2) a).set (k*2+1) b=rep (k+1) [a,b]++xs.drop ((k+1)*2):=by
 have hl:(rep k [a,b]).length=k*2:=by rw [tB];rfl
 have hd:xs.drop (k*2)=xs[k*2] :: xs[k*2+1] :: xs.drop ((k+1)*2):=by rw [zl (by omega),zl (i:=k*2+1) (by omega),show (k+1)*2=k*2+1+1 by omega]
 have hr:rep (k+1) [a,b]=rep k [a,b]++[a,b]:=by rw [aEn,aEm];simp [rep]
 rw [hd,hr,zd _ _ (by omega),zd _ _ (by omega),hl];simp
section
variable {w w' w2:World}{bk:Nat}{nv mv:Value}{L L':List Value}
theorem gQ.mono(h:gQ w w' bk nv mv L)(hL:∀v∈L,v∈L'):gQ w w' bk nv mv L':=
 ⟨h.os,h.tape,h.output,h.size,λk h1 h2 h3 h4 h5=>h.block k h1 h2 h3 h4 λv hv=>h5 v (hL v hv)⟩
theorem gQ.below(h:gQ w w' bk nv mv L)(hb:Below w'.heap.size w' w2):gQ w w2 bk nv mv L:=
 ⟨hb.os.trans h.os,hb.tape.trans h.tape,hb.output.trans h.output,za h.size hb.size,λk h1 h2 h3 h4 h5=>by
  rw [hb.block k (zi h1 h.size),h.block k h1 h2 h3 h4 h5]⟩
theorem gQ.grown(h:gQ w w' bk nv mv L){u v:Value}(hu:u∈L)(hv:aX w u v)(hg:w'.grownBy w2 v.ownBlock):gQ w w2 bk nv mv L:=
 ⟨hg.os.trans h.os,hg.tape.trans h.tape,hg.output.trans h.output,za h.size hg.size,λk h1 h2 h3 h4 h5=>by
  rw [hg.block k (zi h1 h.size) ?_,h.block k h1 h2 h3 h4 h5];intro e;rcases hv with hv | ⟨g,hv,hg⟩
  ·exact h5 u hu (by rw [<-hv,e])
  ·rw [hv] at e;simp at e;omega⟩
theorem gQ.setB(h:gQ w w' bk nv mv L)(j:Nat)(x:Value):gQ w (w'.setCell ⟨bk,j,none⟩ x) bk nv mv L:=by
 have hg:=bR w' ⟨bk,j,none⟩ x;exact ⟨hg.os.trans h.os,hg.tape.trans h.tape,hg.output.trans h.output,za h.size hg.size,λk h1 h2 h3 h4 h5=>by
  rw [hg.block k (zi h1 h.size) (by simpa using h2),h.block k h1 h2 h3 h4 h5]⟩
end
section
variable {w w':World}{B bk:Nat}{nv mv xv yv:Value}{E:List (Value×Int)}{F:List bZ}{G:List dB}{next:Int}
theorem dM.far2(h:dM w B bk nv mv xv yv E F G next){o:Option Nat}(h0:o≠some bk)(h1:∀v∈[nv,mv,xv,yv],v.ownBlock=none\/v.ownBlock≠o)(hap:∀k∈held E F G,o≠some k)(hg:w.grownBy w' o):dM w' B bk nv mv xv yv E F G next:=by
 refine h.same (hg.block bk h.base.lt (λe=>h0 e.symm)) (λu hu k hk=>?_) (λk hk=>hg.block k (h.heldLt k hk) (λe=>hap k hk e.symm));refine hg.block k ?_ (λe=>?_)
 ·simp at hu;rcases hu with rfl | rfl | rfl | rfl
  ·exact (aT h.base.rn k hk).2
  ·exact (aT h.base.rm k hk).2
  ·exact (aT h.rx k hk).2
  ·exact (aT h.ry k hk).2
 ·rcases h1 u hu with p | p
  ·rw [p] at hk;cases hk
  ·exact p (by rw [hk,e])
theorem dM.heldNo(h:dM w B bk nv mv xv yv E F G next):∀k∈held E F G,k≠bk/\∀v∈[nv,mv,xv,yv],v.ownBlock≠some k:=by
 have key:∀(k:Nat) (cs:Array Value) (t:TypeId),w.heap[k]?=some (.cells cs t)->(t=36\/t=39\/t=22)->xv.ownBlock≠some k->k≠bk/\∀v∈[nv,mv,xv,yv],v.ownBlock≠some k:=by
  intro k cs t hc ht hx;refine ⟨?_,λv hv=>?_⟩
  ·rintro rfl;have:=h.base.box;rw [hc] at this;simp at this;rcases ht with rfl | rfl | rfl <;> exact absurd this.2 (by decide)
  ·simp at hv;rcases hv with rfl | rfl | rfl | rfl
   ·exact lV h.base.rn hc (by rcases ht with rfl | rfl | rfl <;> decide)
   ·exact lV h.base.rm hc (by rcases ht with rfl | rfl | rfl <;> decide)
   ·exact hx
   ·exact lV h.ry hc (by rcases ht with rfl | rfl | rfl <;> decide)
 intro k hk;rcases zy.1 hk with hk | hk
 ·obtain ⟨x,hx,hxk⟩:=zv.1 hk;rcases h.base.mks x hx with e | ⟨g,n,c,cur,e,hh,_⟩
  ·rw [e] at hxk;simp [zu] at hxk
  ·rw [e] at hxk;simp [zu] at hxk;subst hxk;exact key _ _ _ hh (zk rfl) (lV h.rx hh (by decide))
 ·by_cases hkG:k∈G.flatMap dB.held
  ·obtain ⟨cs,t,hc,ht⟩:=h.heldTy k hk;exact key k cs t hc ht (h.xap k hkG)
  ·rcases zy.1 hk with hk | hk
   ·obtain ⟨f,hf,hk⟩:=ze.1 hk;rcases zf.1 hk with rfl | hk
    ·exact key _ _ _ (h.fs f hf).atom (zk rfl) (lV h.rx (h.fs f hf).atom (by decide))
    ·obtain ⟨v,hv,hvk⟩:=zv.1 hk;rcases (h.fs f hf).marks v hv with rfl | ⟨g,n,c,cur,rfl,hh,_⟩
     ·simp [zu] at hvk
     ·simp [zu] at hvk;subst hvk;exact key _ _ _ hh (zt (zk rfl)) (lV h.rx hh (by decide))
   ·exact absurd hk hkG
end
structure iV(w:World)(B bk:Nat)(nv mv:Value)(L:List Value)(nv1 mv1 xv yv:Value)(E:List (Value×Int))(F:List bZ)(G:List dB)(m:Int)(e:TypeId)(el:List Value)(V:Value)(n:Nat)(row:List Value)(K:List (Nat×Obj))(D:List Value)(wr:World):Prop where
 book:dM wr B bk nv1 mv1 xv yv E F G m
 own:wr.ownsRow B e el.length V n row
 marks:∀d∈D,eZ e el wr d
 moved:∀d∈D,aX w V d
 dap:∀d∈D,∀k,d.ownBlock=some k->xv.ownBlock≠some k
 far:gQ w wr bk nv mv L
 kept:∀p∈K,wr.heap[p.1]?=some p.2
 kne:∀p∈K,V.ownBlock≠some p.1
 ne:V.ownBlock≠some bk
 rows:∀v∈[nv1,mv1,xv,yv],v.ownBlock=none\/v.ownBlock≠V.ownBlock
 apart:∀k∈held E F G,V.ownBlock≠some k
 vL:V∈L
section
variable {w wr w2 w3:World}{B bk:Nat}{nv mv nv1 mv1 xv yv V:Value}{L:List Value}{E:List (Value×Int)}{F:List bZ}{G:List dB}{m:Int}{e:TypeId}{el row row2:List Value}{n:Nat}{K:List (Nat×Obj)}{D:List Value}
theorem iV.grown(h:iV w B bk nv mv L nv1 mv1 xv yv E F G m e el V n row K D wr)(hg:wr.grownBy w2 V.ownBlock)(ho:w2.ownsRow B e el.length V n row2)(hm:∀d∈D,eZ e el w2 d):iV w B bk nv mv L nv1 mv1 xv yv E F G m e el V n row2 K D w2:=
 ⟨h.book.far2 h.ne h.rows h.apart hg,ho,hm,h.moved,h.dap,h.far.grown h.vL (aX.refl _ _) hg,λp hp=>by
  rw [hg.block p.1 (zx.1 (h.kept p hp)).1 (λe=>h.kne p hp e.symm)];exact h.kept p hp,h.kne,h.ne,h.rows,h.apart,h.vL⟩
theorem iV.below(h:iV w B bk nv mv L nv1 mv1 xv yv E F G m e el V n row K D wr)(hb:Below wr.heap.size wr w2):iV w B bk nv mv L nv1 mv1 xv yv E F G m e el V n row K D w2:=
 ⟨h.book.below hb,aU h.own hb (zz _),λd hd=>(h.marks d hd).below hb,h.moved,h.dap,h.far.below hb,λp hp=>by
  rw [hb.block p.1 (zx.1 (h.kept p hp)).1];exact h.kept p hp,h.kne,h.ne,h.rows,h.apart,h.vL⟩
theorem iV.start(h:iV w B bk nv mv L nv1 mv1 xv yv E F G m e el V n (rep n el) K [] wr)(hn:n<=1000000000000):iV w B bk nv mv L nv1 mv1 xv yv E F G m e el V n (rep n el) K [V] wr:=by
 refine ⟨h.book,h.own,λd hd=>?_,λd hd=>?_,λd hd=>?_,h.far,h.kept,h.kne,h.ne,h.rows,h.apart,h.vL⟩
 ·simp at hd;subst hd;exact eZ.of_own h.own hn
 ·simp at hd;subst hd;exact aX.refl _ _
 ·simp at hd;subst hd;intro k hk e';rcases h.rows xv (by simp) with p | p
  ·rw [p] at e';cases e'
  ·exact p (by rw [e',hk])
theorem iV.next(h:iV w B bk nv mv L nv1 mv1 xv yv E F G m e el V n (rep n el) K D wr){X:Obj}{k:Nat}{v':Value}(r1:w3.ownsRow B e el.length v' (n+k) (rep (n+k) el))(r2:w3.ownsRow B e el.length V n (rep n el))(r3:(wr.alloc X).grownBy w3 V.ownBlock)(r4:aX (wr.alloc X) V v')(r5:∀u,eZ e el (wr.alloc X) u->eZ e el w3 u)(hn:n+k<=1000000000000) :
  iV w B bk nv mv L nv1 mv1 xv yv E F G m e el V n (rep n el) K (D++[v']) w3:=by
 have hb:Below wr.heap.size wr (wr.alloc X):=(Below.refl _ _).alloc (zz _) X;have h1:=(h.below hb).grown r3 r2 (λd hd=>r5 d ((h.below hb).marks d hd));have hws:=h.far.size;refine ⟨h1.book,h1.own,λd hd=>?_,λd hd=>?_,λd hd=>?_,h1.far,h1.kept,h1.kne,h1.ne,h1.rows,h1.apart,h1.vL⟩
 ·rcases zy.1 hd with hd | hd
  ·exact h1.marks d hd
  ·simp at hd;subst hd;exact eZ.of_own r1 hn
 ·rcases zy.1 hd with hd | hd
  ·exact h.moved d hd
  ·simp at hd;subst hd;exact (aX.refl w V).trans r4 (by simp;omega)
 ·rcases zy.1 hd with hd | hd
  ·exact h.dap d hd
  ·simp at hd;subst hd;intro k hk e';rcases r4 with r4 | ⟨g,r4,hg⟩
   ·rcases h.rows xv (by simp) with p | p
    ·rw [p] at e';cases e'
    ·exact p (by rw [e',<-r4,hk])
   ·rw [r4] at hk;simp at hk;have:=(aT h.book.rx k e').2;simp at hg;omega
theorem iV.lits{ga:Nat}{one two xv':Value}(h:iV w B bk nv mv L nv1 mv1 xv yv E F G m 39 (fJ ga) V n (rep n (fJ ga)) K [V,one,two] wr)(hx:xv∈L)(hga:(ga,.cells #[.string ⟨#[61]⟩,.int .i64 m] 36)∈K)(hgs:w.heap.size<=ga)(hone:∃a n c,one=.slice a (n+1) c){X:Obj}(r1:w3.ownsRow B 22 1 xv' (F.length*3+3) (F.flatMap bZ.vals++[V,one,two]))(r2:(wr.alloc X).grownBy w3 xv.ownBlock)(r3:aX (wr.alloc X) xv xv')(hf:F.length<1000000000) :
  (dM (w3.setCell ⟨bk,2,none⟩ xv') B bk nv1 mv1 xv' yv E (F++[⟨V,one,two,ga,m⟩]) G m/\gQ w (w3.setCell ⟨bk,2,none⟩ xv') bk nv mv L/\aX w xv xv'/\∀k∈held E (F++[⟨V,one,two,ga,m⟩]) G,k∈held E F G\/V.ownBlock=some k\/w.heap.size<=k)/\w3.cell? ⟨bk,2,none⟩=some xv/\w3.frozen? ⟨bk,2,none⟩=false:=by
 have hb:Below wr.heap.size wr (wr.alloc X):=(Below.refl _ _).alloc (zz _) X;have ha:=h.below hb;have hws:=h.far.size;have hne:xv.ownBlock≠some bk:=cE ha.book.rx ha.book.base.box (by decide);have hbx:w3.heap[bk]?=some (.cells (lD (xv,yv) nv1 mv1 m) 31):=by rw [r2.block bk ha.book.base.lt (λe=>hne e.symm),ha.book.base.box]
 have hset:=bR w3 ⟨bk,2,none⟩ xv';have hblk:∀k,k<(wr.alloc X).heap.size->k≠bk->xv.ownBlock≠some k->(w3.setCell ⟨bk,2,none⟩ xv').heap[k]?=(wr.alloc X).heap[k]?:=by intro k h1 h2 h3;rw [hset.block k (zi h1 r2.size) (by simpa using h2),r2.block k h1 (λe=>h3 e.symm)]
 have hheld:∀k∈held E F G,(w3.setCell ⟨bk,2,none⟩ xv').heap[k]?=(wr.alloc X).heap[k]?:=by intro k hk;obtain ⟨p,q⟩:=ha.book.heldNo k hk;exact hblk k (ha.book.heldLt k hk) p (q xv (by simp))
 have hty:∀(k:Nat) (cs:Array Value) (t:TypeId),(wr.alloc X).heap[k]?=some (.cells cs t)->t≠31->t≠22->(w3.setCell ⟨bk,2,none⟩ xv').heap[k]?=(wr.alloc X).heap[k]?:=by intro k cs t hk h1 h2;refine hblk k (zx.1 hk).1 ?_ (lV ha.book.rx hk (λe=>h2 e.symm));rintro rfl;have:=ha.book.base.box;rw [hk] at this;simp at this;exact h1 this.2
 have hl:(F++[(⟨V,one,two,ga,m⟩ : bZ)]).length=F.length+1:=by simp
 have hfl:(F++[(⟨V,one,two,ga,m⟩ : bZ)]).flatMap bZ.vals=F.flatMap bZ.vals++[V,one,two]:=by simp [bZ.vals]
 refine ⟨⟨⟨⟨yI hbx,ha.book.base.high,?_,?_,?_,ha.book.base.few,ha.book.base.lo,ha.book.base.hi⟩,?_,?_,?_,?_,by rw [hl];omega,ha.book.fewG,?_⟩,((h.far.below hb).grown hx (aX.refl _ _) r2).setB 2 _,(aX.refl w xv).trans r3 (by simp;omega),?_⟩,by simp [zs,hbx],by simp [World.frozen?,hbx]⟩
 ·exact eC (cH ha.book.base.rn r2 (bW ha.book.base.rn ha.book.rx (by decide))) hbx (by decide)
 ·exact eC (cH ha.book.base.rm r2 (bW ha.book.base.rm ha.book.rx (by decide))) hbx (by decide)
 ·exact λx hx=>(ha.book.base.mks x hx).same λk hk=>hheld k (zy.2 (zk (zv.2 ⟨x,hx,hk⟩)))
 ·rw [hl,hfl,show (F.length+1)*3=F.length*3+3 by omega];exact eC r1 hbx (by decide)
 ·exact eC (cH ha.book.ry r2 (bW ha.book.ry ha.book.rx (by decide))) hbx (by decide)
 ·intro f hf;rcases zy.1 hf with hf | hf
  ·exact (ha.book.fs f hf).same λk hk=>hheld k (zy.2 (zt (zy.2 (zk (ze.2 ⟨f,hf,hk⟩)))))
  ·simp at hf;subst hf;refine ⟨λv hv=>?_,hone,?_⟩
   ·have hm:=ha.marks v hv;refine hm.same λk hk=>?_
    rcases hm with rfl | ⟨g,n',c,cur,rfl,hh,_⟩
    ·simp [zu] at hk
    ·simp [zu] at hk;subst hk;exact hty _ _ _ hh (by decide) (by decide)
   ·have:=ha.kept _ hga;rw [hty _ _ _ this (by decide) (by decide)];exact this
 ·exact λf hf=>(ha.book.gs f hf).same λk hk=>hheld k (zy.2 (zt (zy.2 (zt (ze.2 ⟨f,hf,hk⟩)))))
 ·intro k hk e';rcases r3 with r3 | ⟨g,r3,hg⟩
  ·exact ha.book.xap k hk (by rw [<-r3,e'])
  ·have:=ha.book.heldLt k (zy.2 (zt (zy.2 (zt hk))));rw [r3] at e';simp at e';omega
 ·intro k hk;unfold Go.Proofs.YtcldkjcpofjmhaaGreatDoor.held at hk ⊢;rcases zy.1 hk with hk | hk
  ·exact zk (zy.2 (zk hk))
  ·rcases zy.1 hk with hk | hk
   ·rw [List.flatMap_append] at hk;rcases zy.1 hk with hk | hk
    ·exact zk (zy.2 (zt (zy.2 (zk hk))))
    ·simp only [z2,List.flatMap_nil,List.append_nil] at hk;rcases zf.1 hk with rfl | hk
     ·exact zt (zt hgs)
     ·obtain ⟨v,hv,hvk⟩:=zv.1 hk;rcases h.moved v hv with q | ⟨g,q,hg⟩
      ·exact zt (zk (by rw [<-q,hvk]))
      ·rw [q] at hvk;simp at hvk;exact zt (zt (by omega))
   ·exact zk (zy.2 (zt (zy.2 (zt hk))))
end
theorem aAz(w:World)(X:List Value)(t:TypeId):∀j u,X[j]?=some u->(w.alloc (.cells X.toArray t)).cell? ((⟨w.heap.size,0,none⟩ : Addr).add j)=some u:=by
 intro j u hj;have h:(w.alloc (.cells X.toArray t)).heap[w.heap.size]?=some (.cells X.toArray t):=by show (w.heap.push _)[w.heap.size]?=_;simp
 have e:(⟨w.heap.size,0,none⟩ : Addr).add j=⟨w.heap.size,j,none⟩:=by by_cases hj0:j=0 <;> simp [Addr.add,hj0]
 rw [e];unfold zs;simp only [h];simpa using hj
theorem aEg{ops:Array Oper}{rest:List Oper}{o:Oper}{a:Act}{w:World}{Q:Exit->Act->World->Prop}(hgd:o.guard=none)(s x:Operand)(t e:TypeId)(hop:o.op=.call {callee:=.builtin .append,args:=#[s,x],argTypes:=#[t,t]})
  (el:List Value) (z:Value) (bytes:Nat) (ht:zn.underlying t=some (.slice e)) (hinfo:(zn.info? e).map (λi=>(i.zero,i.size,i.bytes))=some (some z,el.length,bytes)) (hz1:z.cells.size=el.length) (hsz0:0<el.length) (hby:bytes<=40) (h1:∀u∈el,u.oneCell'=true)
  (B:Nat) (v:Value) (n:Nat) (hs:a.eval s=v) (ho:w.ownsRow B e el.length v n (rep n el)) (hB:B<=w.heap.size) (ad:Addr) (k c:Nat) (hx:a.eval x=.slice (some ad) k c) (hk:0<k/\k<=3) (hn:n<=100000000000) (hnews:∀j u,(rep k el)[j]?=some u->w.cell? (ad.add j)=some u)
  (h:∀v' w',w'.ownsRow B e el.length v' (n+k) (rep (n+k) el)->w'.ownsRow B e el.length v n (rep n el)->w.grownBy w' v.ownBlock->aX w v v'->(∀u,eZ e el w u->eZ e el w' u)->wpList zn ops Q rest (a.put o.dst v') w'):wpList zn ops Q (o :: rest) a w:=by
 refine wpList_plain hgd λK hK'=>?_
 obtain ⟨v',w',hr,h1,h2,h3,h4,h5⟩:=aM9 w t o.type e el z bytes ht hinfo hz1 hsz0 hby h1 B v n ho hB ad k c hk hn hnews;unfold Oper.wp execOp;simp only [hop,resolve,invoke,builtin,Sem.run_bind,Sem.run_pure,Result.andThen_ok,List.map_toArray,List.map_cons,List.map_nil,hs,hx,hr];exact hK' _ _ (h v' w' h1 h2 h3 h4 h5)
theorem aM2(w:World)(a b c:Value)(t:TypeId):∀j u,[a,b,c][j]?=some u->(w.alloc (.cells #[a,b,c] t)).cell? ((⟨w.heap.size,0,none⟩ : Addr).add j)=some u:=aAz w [a,b,c] t
theorem aM3(a b c:Option Addr)(n1 n2 n3 c1 c2 c3:Nat):∀u∈[zc a n1 c1,.slice b n2 c2,.slice c n3 c3],u.oneCell'=true:=by intro u hu;simp at hu;rcases hu with rfl | rfl | rfl <;> rfl
theorem aEh{L:List Value}(h:(L.filterMap zu).Nodup){k j:Nat}(hk:k<L.length)(hj:L[k].ownBlock=some j):∀v∈L.take k,v.ownBlock≠some j:=by
 intro v hv e;have hl:L=L.take k++L[k] :: L.drop (k+1):=by rw [<-zl hk,List.take_append_drop]
 rw [hl,List.filterMap_append,List.nodup_append] at h;exact h.2.2 j (zv.2 ⟨v,hv,e⟩) j (zv.2 ⟨L[k],zh ..,hj⟩) rfl
theorem qF.ready{w wr:World}{B bk:Nat}{nv mv xv yv nv1 mv1 c:Value}{E E1:List (Value×Int)}{F:List bZ}{G:List dB}{next:Int}{Q:List (Lt×Value)}{k:Nat}(h:qF w B bk nv mv xv yv E F G next (Q.map zj) k wr nv1 mv1 E1)(h0:dM w B bk nv mv xv yv E F G next)(hr:w.ownsRow B 39 2 c Q.length (bA Q))(ha:∀q∈Q,fP w B q.2 q.1.2)(hnd:((Q.map zj).filterMap zu).Nodup)(hap:∀k∈Go.Proofs.YtcldkjcpofjmhaaGreatDoor.held E F G,c.ownBlock≠some k/\∀q∈Q,q.2.ownBlock≠some k) :
  wr.ownsRow B 39 2 c Q.length (bA Q)/\∀hk:k<Q.length,fP wr B Q[k].2 Q[k].1.2/\∀j∈Go.Proofs.YtcldkjcpofjmhaaGreatDoor.held E1 F G,Q[k].2.ownBlock≠some j:=by
 have key:∀{e:TypeId} {s n:Nat} {v:Value} {xs:List Value},w.ownsRow B e s v n xs->e≠31->e≠37->e≠3->(∀j,v.ownBlock=some j->∀u∈(Q.map zj).take k,u.ownBlock≠some j)->wr.ownsRow B e s v n xs:=by
  intro e s n v xs hv h1 h2 h3 h4;refine rM hv λj hj=>h.far.block j (aT hv j hj).2 ?_ ?_ ?_ (h4 j hj)
  ·rintro rfl;exact cE hv h0.base.box h1 hj
  ·intro e';rcases bW hv h0.base.rn h2 with q | q
   ·rw [q] at hj;cases hj
   ·exact q (by rw [hj,e'])
  ·intro e';rcases bW hv h0.base.rm h3 with q | q
   ·rw [q] at hj;cases hj
   ·exact q (by rw [hj,e'])
 refine ⟨key hr (by decide) (by decide) (by decide) λj hj u hu e'=>?_,λhk=>⟨key (ha Q[k] (zw _)) (by decide) (by decide) (by decide) λj hj=>?_,λj hj e'=>?_⟩⟩
 ·obtain ⟨q,hq,rfl⟩:=z3.1 (zr hu);rcases bW (ha q hq) hr (by decide) with p | p
  ·rw [p] at e';cases e'
  ·exact p (by rw [e',hj])
 ·exact aEh hnd (k:=k) (by simpa using hk) (by simpa using hj)
 ·rcases h.held j hj with p | ⟨v,hv,hvj⟩ | p
  ·exact (hap j p).2 Q[k] (zw _) e'
  ·exact aEh hnd (k:=k) (j:=j) (by simpa using hk) (by simpa using e') v hv hvj
  ·have:=(aT (ha Q[k] (zw _)) j e').2;omega
theorem qF.full{w wr:World}{B bk:Nat}{nv mv xv yv nv1 mv1 c:Value}{E E1:List (Value×Int)}{F:List bZ}{G:List dB}{next:Int}{Q:List (Lt×Value)}(h:qF w B bk nv mv xv yv E F G next (Q.map zj) Q.length wr nv1 mv1 E1)(hr:w.ownsRow B 39 2 c Q.length (bA Q))(hr':wr.ownsRow B 39 2 c Q.length (bA Q))(ha:∀q∈Q,fP w B q.2 q.1.2)(hap:∀k∈Go.Proofs.YtcldkjcpofjmhaaGreatDoor.held E F G,c.ownBlock≠some k)(hlo : -10000000000<=next-Q.length-1)(hhi:next-Q.length-1<=0) :
  iV w B bk nv mv (xv :: c :: Q.map zj) nv1 mv1 xv yv E1 F G (next-Q.length-1) 39 (fJ wr.heap.size) c Q.length (bA Q) [(wr.heap.size,.cells #[.string ⟨#[61]⟩,.int .i64 (next-Q.length-1)] 36),(wr.heap.size+1,.cells (fJ wr.heap.size).toArray 39)] [] (((wr.setCell ⟨bk,8,none⟩ (.int .i64 (next-Q.length-1))).alloc (.cells #[.string ⟨#[61]⟩,.int .i64 (next-Q.length-1)] 36)).alloc (.cells (fJ wr.heap.size).toArray 39)):=by
 have hs1:(wr.setCell ⟨bk,8,none⟩ (.int .i64 (next-Q.length-1))).heap.size=wr.heap.size:=by simp [World.setCell]
 have hbox:=h.book.base.box;have hlt:∀k,c.ownBlock=some k->k<wr.heap.size:=λk hk=>(aT hr' k hk).2
 have hbN:=h.book.setNext hlo hhi;have hrN:=eC (j:=8) (x:=.int .i64 (next-Q.length-1)) hr' hbox (by decide);have hfN:=(h.far.mono (L':=xv :: c :: Q.map zj) (λv hv=>zq _ (zq _ (zr hv)))).setB 8 (.int .i64 (next-Q.length-1));generalize next-(Q.length:Int)-1=m at *
 generalize wr.setCell ⟨bk,8,none⟩ (.int .i64 m)=wn at *;have hb1:Below wn.heap.size wn (wn.alloc (.cells #[.string ⟨#[61]⟩,.int .i64 m] 36)):=(Below.refl _ _).alloc (zz _) _;have hb:Below wn.heap.size wn ((wn.alloc (.cells #[.string ⟨#[61]⟩,.int .i64 m] 36)).alloc (.cells (fJ wr.heap.size).toArray 39)):=hb1.alloc (by simp) _;have k1:((wn.alloc (.cells #[.string ⟨#[61]⟩,.int .i64 m] 36)).alloc (.cells (fJ wr.heap.size).toArray 39)).heap[wr.heap.size]?=some (.cells #[.string ⟨#[61]⟩,.int .i64 m] 36):=by rw [<-hs1];show ((wn.heap.push _).push _)[wn.heap.size]?=_;rw [Array.getElem?_push_lt (by simp)];simp
 have k2:((wn.alloc (.cells #[.string ⟨#[61]⟩,.int .i64 m] 36)).alloc (.cells (fJ wr.heap.size).toArray 39)).heap[wr.heap.size+1]?=some (.cells (fJ wr.heap.size).toArray 39):=by
  have e:wr.heap.size+1=(wn.heap.push (.cells #[.string ⟨#[61]⟩,.int .i64 m] 36)).size:=by simp [hs1]
  rw [e];show ((wn.heap.push _).push _)[(wn.heap.push _).size]?=_;rw [Array.getElem?_push_size]
 refine ⟨hbN.below hb,aU hrN hb (zz _),by simp,by simp,by simp,hfN.below hb,?_,?_,cE hr' hbox (by decide),?_,?_,by simp⟩
 ·intro p hp;simp only [zf,z5,or_false] at hp;rcases hp with rfl | rfl
  ·exact k1
  ·exact k2
 ·intro p hp e;simp only [zf,z5,or_false] at hp;rcases hp with rfl | rfl
  ·have:=hlt _ e;omega
  ·have:=hlt _ e;omega
 ·intro v hv;simp at hv;rcases hv with rfl | rfl | rfl | rfl
  ·exact bW h.book.base.rn hr' (by decide)
  ·exact bW h.book.base.rm hr' (by decide)
  ·exact bW h.book.rx hr' (by decide)
  ·exact bW h.book.ry hr' (by decide)
 ·intro j hj e;rcases h.held j hj with p | ⟨v,hv,hvj⟩ | p
  ·exact hap j p e
  ·obtain ⟨q,hq,rfl⟩:=z3.1 (zr hv);rcases bW (ha q hq) hr (by decide) with p | p
   ·rw [p] at hvj;cases hvj
   ·exact p (by rw [hvj,e])
  ·have:=(aT hr j e).2;omega
theorem aEi:(zn.info? 39).map (λi=>(i.zero,i.size,i.bytes))=some (some (.agg #[.bool false,.slice none 0 0]),2,32):=by kernel_rfl
theorem aM4:(zn.info? 22).map (λi=>(i.zero,i.size,i.bytes))=some (some (.slice none 0 0),1,24):=by kernel_rfl
theorem aEj(ga:Nat):∀u∈fJ ga,u.oneCell'=true:=by intro u hu;simp at hu;rcases hu with rfl | rfl <;> rfl
theorem iV.put2{w wr:World}{B bk g n c k:Nat}{nv mv nv1 mv1 xv yv a b:Value}{L:List Value}{E:List (Value×Int)}{F:List bZ}{G:List dB}{m:Int}{e:TypeId}{xs:List Value}{K:List (Nat×Obj)}(h:iV w B bk nv mv L nv1 mv1 xv yv E F G m e [a,b] (.slice (some ⟨g,0,none⟩) n c) n (rep k [a,b]++xs.drop (k*2)) K [] wr)(hk:(k+1)*2<=xs.length) :
  iV w B bk nv mv L nv1 mv1 xv yv E F G m e [a,b] (.slice (some ⟨g,0,none⟩) n c) n (rep (k+1) [a,b]++xs.drop ((k+1)*2)) K [] ((wr.setCell ⟨g,k*2,none⟩ a).setCell ⟨g,k*2+1,none⟩ b):=by
 have s1:=(h.own.stored (k*2) a).1;have s2:=(s1.stored (k*2+1) b).1;rw [aM1 a b xs k hk] at s2;exact h.grown ((bR wr ⟨g,k*2,none⟩ a).trans (bR (wr.setCell ⟨g,k*2,none⟩ a) ⟨g,k*2+1,none⟩ b)) s2 (by simp)
theorem dU.c2{w:World}{B bk:Nat}{xy:Value×Value}{nv mv:Value}{E:List (Value×Int)}{next:Int}(h:dU w B bk xy nv mv E next):w.cell? ⟨bk,2,none⟩=some xy.1:=by simp [zs,h.box]
theorem dU.c3{w:World}{B bk:Nat}{xy:Value×Value}{nv mv:Value}{E:List (Value×Int)}{next:Int}(h:dU w B bk xy nv mv E next):w.cell? ⟨bk,3,none⟩=some xy.2:=by simp [zs,h.box]
theorem aB0{w:World}{bx:Nat}{a b:Value}{t:TypeId}(h:w.heap[bx]?=some (.cells [a,b].toArray t)):w.cell? ⟨bx,0,none⟩=some a/\w.cell? ⟨bx,1,none⟩=some b:=by constructor <;> simp [zs,h]
structure OcR(w:World)(B bk:Nat)(nv mv xv yv c:Value)(E:List (Value×Int))(F:List bZ)(G:List dB)(next:Int)(Q:List (Lt×Value))(w':World)(nv' mv' xv':Value)(E1:List (Value×Int))(F1:List bZ):Prop where
 book:dM w' B bk nv' mv' xv' yv E1 F1 G (next-Q.length-1)
 lenE:E1.length=E.length+4*Q.length
 lenF:F1.length=F.length+1
 far:gQ w w' bk nv mv (xv :: c :: Q.map zj)
 mn:aX w nv nv'
 mm:aX w mv mv'
 mx:aX w xv xv'
 held:∀k∈held E1 F1 G,k∈Go.Proofs.YtcldkjcpofjmhaaGreatDoor.held E F G\/c.ownBlock=some k\/(∃q∈Q,q.2.ownBlock=some k)\/w.heap.size<=k
theorem aM6(B bk:Nat)(nv mv xv yv c:Value)(E:List (Value×Int))(F:List bZ)(G:List dB)(next:Int)(Q:List (Lt×Value))(w:World)(h:dM w B bk nv mv xv yv E F G next)(hr:w.ownsRow B 39 2 c Q.length (bA Q))(ha:∀q∈Q,fP w B q.2 q.1.2)(hsm:∀q∈Q,q.1.2.length<=1000000)(hQ:Q.length<=1000000)(hnd:((Q.map zj).filterMap zu).Nodup)(hap:∀k∈held E F G,c.ownBlock≠some k/\∀q∈Q,q.2.ownBlock≠some k)(hE:E.length<=8000000000)(hF1:F.length<1000000000)(hnx : -8000000000<=next)(hB:B<=w.heap.size) :
  Calls zn 15 #[.pointer (some ⟨bk,0,none⟩),c] w λe w'=>e=.returned (.tuple #[])/\∃nv' mv' xv' E1 F1,OcR w B bk nv mv xv yv c E F G next Q w' nv' mv' xv' E1 F1:=by
 obtain ⟨ca,cc,rfl⟩:=aS hr;obtain ⟨xa,xn,xc,rfl⟩:=kB h.rx;have H0:Hid (qF w B bk nv mv (.slice xa xn xc) yv E F G next (Q.map zj) 0 w nv mv E):=aA ⟨by simpa using h,by simp,by simpa using gQ.refl w bk nv mv,aX.refl _ _,aX.refl _ _,λj hj=>zk hj⟩;have HR:=aA hr;have HA:=aA ha;have HND:=aA hnd;have HAP:=aA hap;have HSM:=aA hsm;have HH:=aA h;have HF:=aA hF1;clear h hr ha hnd hap hsm;go_enter Tryz.func15,Tryz.ntmps15;go_wp2;go_loopw [4] (λi wr=>∃(k:Nat) (nv1 mv1:Value) (E1:List (Value×Int)),k<=Q.length/\i=.int .i64 k/\qF w B bk nv mv (.slice xa xn xc) yv E F G next (Q.map zj) k wr nv1 mv1 E1) (λi _=>Q.length-(intOf i).toNat);case atStart=>exact ⟨0,nv,mv,E,zp _,rfl,H0.out⟩
 case round=>
  obtain ⟨k,nv1,mv1,E1,hk,rfl,hS⟩:=hrel;obtain ⟨hrow,hrd⟩:=hS.ready HH.out HR.out HA.out HND.out HAP.out;have hlen:=hS.len;have hz:=hS.far.size;by_cases hlt:k<Q.length
  ·obtain ⟨hatom,hapk⟩:=hrd hlt;have hq:=HSM.out Q[k] (zw _);obtain ⟨gC,cC,hva⟩:=sH hrow (by omega);simp at hva;obtain ⟨rfl,rfl⟩:=hva;have e2:wr.cell? ⟨gC,k*2+1,none⟩=some Q[k].2:=by rw [hrow.cellAt _ (by omega),(wW Q k hlt).2]
   have HMORE:=aA (λ(w2:World) (nv2 mv2:Value) (E2:List (Value×Int)) (r:yK wr B bk (.slice xa xn xc,yv) nv1 mv1 Q[k].2 E1 (next-k) w2 nv2 mv2 E2)=>hS.more (l:=Q[k].1.2) (by simpa using hlt) (by simpa using hatom) (by simpa using hapk) (by simpa using r));have CN:=aA (aMk (xy:=(.slice xa xn xc,yv)) B bk nv1 mv1 Q[k].2 E1 (next-k) Q[k].1.2 wr hS.book.base hatom (λx hx=>by
    cases hb:x.1.ownBlock with
    | none=>exact zk rfl
    | some j=>exact zt λe=>hapk j (zy.2 (zk (zv.2 ⟨x,hx,hb⟩))) e.symm) (by omega) (by omega) (by omega) (by omega))
   obtain ⟨aa,an,ac,hsh⟩:=kB hatom;rw [hsh] at e2 CN HMORE;clear hS hrow hrd hatom hapk hsh hq;go_wp2_with (first
    | (go_at_call 28;refine (aB CN).mono ?_;rintro e w2 ⟨nv2,mv2,E2,rfl,hr2⟩;have HS2:=aA (HMORE.out w2 nv2 mv2 E2 hr2);clear hr2)
    | go_in)
   go_roundw;case rel=>exact ⟨k+1,nv2,mv2,_,by omega,by go_num,HS2.out⟩
   case measure=>simp [intOf];omega
  ·have hke:k=Q.length:=by omega
   subst hke;have c8:=hS.book.base.c8;have f8:=hS.book.base.soft 8;have hbl:=hS.book.base.lt;have hlo:=hS.book.base.lo;have hhi:=hS.book.base.hi;have hlen:=hS.len;have hz:=hS.far.size;have hmn:=hS.mn;have hmm:=hS.mm;have hheld:=hS.held;have hD:=hS.full HR.out hrow HA.out (λk hk=>(HAP.out k hk).1) (by omega) (by omega);have HD:=aA hD;have HHELD:=aA hheld;have hE1:E1.length<=9000000000:=by omega
   clear hS hrow hrd hD hheld;go_upto_region 6 with (fail);have hmr : -10000000000<=next-(Q.length:Int)-1/\next-(Q.length:Int)-1<=0:=by omega
   clear c8 f8 hlo hhi;generalize ((wr.setCell ⟨bk,8,none⟩ (.int .i64 (next-(Q.length:Int)-1))).alloc (.cells #[.string ⟨#[61]⟩,.int .i64 (next-(Q.length:Int)-1)] 36)).alloc (.cells (fJ wr.heap.size).toArray 39)=W2 at *;generalize hMM:next-(Q.length:Int)-1=m at *
   have HMM:=aA hMM;clear hMM;generalize wr.heap.size=ga at *;go_wp2;go_loopw [6] (λi wr=>∃k:Nat,k<=Q.length/\i=.int .i64 k/\iV w B bk nv mv (.slice xa xn xc :: zc ca Q.length cc :: List.map zj Q) nv1 mv1 (.slice xa xn xc) yv E1 F G m 39 (fJ ga) (zc ca Q.length cc) Q.length (rep k (fJ ga)++(bA Q).drop (k*2)) [(ga,Obj.cells #[Value.string {data:=#[61]},Value.int z7 m] 36),(ga+1,Obj.cells (fJ ga).toArray 39)] [] wr) (λi _=>Q.length-(intOf i).toNat);case atStart=>exact ⟨0,zp _,rfl,by simpa [rep] using HD.out⟩
   case round=>
    obtain ⟨k,hk,rfl,hW⟩:=hrel;have hkb:wr.heap[ga+1]?=some (.cells (fJ ga).toArray 39):=hW.kept (ga+1,.cells (fJ ga).toArray 39) (zq _ (zh ..));obtain ⟨z0,z1⟩:=aB0 hkb;have hown:wr.ownsRow B 39 2 (zc ca Q.length cc) Q.length (rep k (fJ ga)++(bA Q).drop (k*2)):=hW.own;clear hkb;by_cases hlt2:k<Q.length
    ·have hlti:(k:Int)<(Q.length:Int):=by omega
     have hll:=aI2 Q;obtain ⟨g,c',hva⟩:=sH hown (by omega);simp at hva;obtain ⟨rfl,rfl⟩:=hva;have f0:=hown.frozenAt (k*2);have f1:=hown.frozenAt (k*2+1);have hrl:(rep k (fJ ga)).length=k*2:=tB _ _;have e0:wr.cell? ⟨g,k*2,none⟩=some (.bool Q[k].1.1):=by rw [hown.cellAt (k*2) (by omega),zo (by omega),zb,hrl,show k*2+(k*2-k*2)=k*2 by omega,(wW Q k hlt2).1]
     have e1:wr.cell? ⟨g,k*2+1,none⟩=some Q[k].2:=by rw [hown.cellAt (k*2+1) (by omega),zo (by omega),zb,hrl,show k*2+(k*2+1-k*2)=k*2+1 by omega,(wW Q k hlt2).2]
     have HP:=aA (hW.put2 (by omega));clear hW hown;go_wp2;go_roundw;case rel=>exact ⟨k+1,by omega,by go_num,HP.out⟩
     case measure=>simp [intOf];omega
    ·have hke:k=Q.length:=by omega
     subst hke;rw [List.drop_eq_nil_of_le (by rw [aI2];omega),List.append_nil] at hW;have HS0:=aA (hW.start (by omega));have hws:=hW.far.size;have hF:=hW.book.fewF;have hbl3:=hW.book.base.lt;clear hW hown HD;go_wp2_with (first
      | (at_builtin;refine aEv rfl (.tmp 59) (.tmp 63) 26 22 rfl (.slice none 0 0) 24 Tryz.underlying26 aM4 rfl (by omega) B _ (F.length*3) (F.flatMap bZ.vals) rfl (HS2.out.book.rx.alloc _) (by omega) (by simp;omega) w2.heap.size 3 3 [.slice ca Q.length cc,.slice a1 (Q.length+1) c1,.slice a2 (Q.length+2) c2] rfl rfl (by omega) (aM2 w2 _ _ _ 22) (aM3 _ _ _ _ _ _ _ _ _) ?_;intro v3 w3 r1 r2 r3;obtain ⟨hM,d0,df⟩:=HS2.out.lits (by simp) (by simp) (by omega) ⟨_,_,_,rfl⟩ r1 r2 r3 HF.out;have HM:=aA hM;have hw3:w2.heap.size<=w3.heap.size:=(by have:=r2.size;simp at this;omega);obtain ⟨a3,n3,c3,rfl⟩:=kB r1;clear r1 r2 r3 hM)
      | (at_builtin;refine aEg rfl (.tmp 50) (.tmp 53) 22 39 rfl (fJ ga) (.agg #[.bool false,.slice none 0 0]) 32 z4 aEi rfl (Nat.succ_pos _) (by omega) (aEj ga) B _ Q.length rfl (HS1.out.own.alloc _) (by simp;omega) ⟨w1.heap.size,0,none⟩ 2 2 rfl (by omega) (by omega) (aAz w1 (rep 2 (fJ ga)) 39) ?_;intro v2 w2 r1 r2 r3 r4 r5;have HS2:=aA (HS1.out.next r1 r2 r3 r4 r5 (by omega));have hw2:=HS2.out.far.size;have q2:=HS2.out.book.base.c2;have hbl5:=HS2.out.book.base.lt;obtain ⟨a2,c2,rfl⟩:=aS r1;clear r1 r2 r3 r4 r5)
      | (at_builtin;refine aEg rfl (.tmp 46) (.tmp 48) 22 39 rfl (fJ ga) (.agg #[.bool false,.slice none 0 0]) 32 z4 aEi rfl (Nat.succ_pos _) (by omega) (aEj ga) B _ Q.length rfl (HS0.out.own.alloc _) (by simp;omega) ⟨wr.heap.size,0,none⟩ 1 1 rfl (by omega) (by omega) (aAz wr (rep 1 (fJ ga)) 39) ?_;intro v1 w1 r1 r2 r3 r4 r5;have HS1:=aA (HS0.out.next r1 r2 r3 r4 r5 (by omega));have hw1:=HS1.out.far.size;obtain ⟨y0,y1⟩:=aB0 (show w1.heap[ga+1]?=some (.cells (fJ ga).toArray 39) from HS1.out.kept (ga+1,.cells (fJ ga).toArray 39) (zq _ (zh ..)));have hbl4:=HS1.out.book.base.lt;obtain ⟨a1,c1,rfl⟩:=aS r1;clear r1 r2 r3 r4 r5)
      | go_in)
     go_end0;obtain ⟨m1,m2,m3,m4⟩:=HM.out;refine ⟨rfl,nv1,mv1,_,E1,_,⟨by rw [HMM.out];exact m1,hlen,by simp,m2,hmn,hmm,m3,λj hj=>?_⟩⟩;rcases m4 j hj with q | q | q
     ·rcases HHELD.out j q with q | ⟨v,hv,hvj⟩ | q
      ·exact zk q
      ·obtain ⟨q,hq,rfl⟩:=z3.1 (zr hv);exact zt (zt (zk ⟨q,hq,hvj⟩))
      ·exact zt (zt (zt q))
     ·exact zt (zk q)
     ·exact zt (zt (zt q))
theorem dV.view{w:World}{v:Value}{m:Int}(h:dV w v m):∃a n c,v=.slice a n c/\n<=5864062014809/\∀k,k<n->∃g,a=some ⟨g,0,none⟩/\w.cell? ⟨g,k*2,none⟩=some (.string ⟨#[35]⟩)/\w.cell? ⟨g,k*2+1,none⟩=some (.int .i64 m):=by
 rcases h with rfl | ⟨g,n,c,cur,rfl,hh,hk,hn⟩
 ·exact ⟨none,0,0,rfl,by omega,λk hk=>by omega⟩
 ·refine ⟨_,n,c,rfl,hn,λk hkn=>⟨g,rfl,?_,?_⟩⟩
  ·simp [zs,hh,(hk k hkn).1]
  ·simp [zs,hh,(hk k hkn).2]
theorem uO{w:World}{B:Nat}{e:TypeId}{v:Value}{n:Nat}{xs:List Value}(h:w.ownsRow B e 1 v n xs):∃a cap,v=.slice a n cap/\∀k x,xs[k]?=some x->∃g,a=some ⟨g,0,none⟩/\w.cell? ⟨g,k,none⟩=some x:=by
 obtain ⟨h1,⟨rfl,h2⟩ | ⟨g,cap,cur,rfl,hb,hh,hc,hm,hz,ht⟩⟩:=h
 ·refine ⟨none,0,by rw [h2],λk x hx=>?_⟩;have:=(zg.1 hx).1;omega
 ·have ho:w.ownsRow B e 1 (.slice (some ⟨g,0,none⟩) n cap) n xs:=⟨h1,zt ⟨g,cap,cur,rfl,hb,hh,hc,hm,hz,ht⟩⟩;refine ⟨_,_,rfl,λk x hx=>⟨g,rfl,?_⟩⟩;have hk:=(zg.1 hx).1;rw [ho.cellAt k (by omega),hx]
theorem eZ.view{e:TypeId}{el:List Value}{w:World}{v:Value}(h:eZ e el w v):∃a n c,v=.slice a n c/\n<=1000000000000/\∀k,k<n->∃g,a=some ⟨g,0,none⟩/\∀j (hj:j<el.length),w.cell? ⟨g,k*el.length+j,none⟩=some el[j]:=by
 rcases h with rfl | ⟨g,n,c,cur,rfl,hh,hk,hn⟩
 ·exact ⟨none,0,0,rfl,by omega,λk hk=>by omega⟩
 ·refine ⟨_,n,c,rfl,hn,λk hkn=>⟨g,rfl,λj hj=>?_⟩⟩;have hlt:k*el.length+j<n*el.length:=by
   have:(k+1)*el.length<=n*el.length:=Nat.mul_le_mul_right _ hkn;rw [Nat.succ_mul] at this;omega
  have:=hk _ hlt;rw [Nat.mul_comm,Nat.mul_add_mod,Nat.mod_eq_of_lt hj,Nat.mul_comm] at this;simp [zs,hh,this,hj]
theorem yF{α:Type}(f:α->List Value)(hf:∀a,(f a).length=3):∀(L:List α) (i:Nat) (h:i / 3<L.length),(L.flatMap f)[i]?=(f L[i / 3])[i % 3]?:=by
 intro L;induction L with
 | nil=>intro i h;simp at h
 | cons a L ih=>
  intro i h;rw [z2];by_cases hi:i<3
  ·rw [List.getElem?_append_left (by rw [hf];exact hi)];have h0:i / 3=0:=by omega
   simp [h0,Nat.mod_eq_of_lt hi]
  ·obtain ⟨k,rfl⟩ : ∃k,i=k+3:=⟨i-3,by omega⟩;rw [zo (by rw [hf];omega),hf,Nat.add_sub_cancel,ih k (by simp at h;omega)];have h1:(k+3) / 3=k / 3+1:=by omega
   simp [h1]
abbrev aEk(ga:Nat):Value:=.agg #[.bool true,.slice (some ⟨ga,0,none⟩) 1 1]
theorem aEl(ga:Nat)(m:Int)(w:World)(h:w.heap[ga]?=some (.cells #[.string ⟨#[61]⟩,.int .i64 m] 36)) :
  Calls zn 17 #[aEk ga,aEk ga] w λe w'=>e=.returned (.bool true)/\Below w.heap.size w w':=by
 have hlt:ga<w.heap.size:=(zx.1 h).1;have c0:w.cell? ⟨ga,0,none⟩=some (.string ⟨#[61]⟩):=by simp [zs,h]
 have c1:w.cell? ⟨ga,1,none⟩=some (.int .i64 m):=by simp [zs,h]
 have hb1:=(Below.refl w.heap.size w).alloc (zz _) (.cells #[.bool true,.slice (some ⟨ga,0,none⟩) 1 1] 39);have hb2:=hb1.alloc (by simp) (.cells #[.bool true,.slice (some ⟨ga,0,none⟩) 1 1] 39);have hnb:=rQ (⟨#[61]⟩,m) (⟨#[61]⟩,m);have g9:=tJ;have q9:=rR ⟨#[61]⟩ ⟨#[61]⟩ m m;rw [decide_eq_true rfl] at hnb;simp only at hnb;have HB2:=aA hb2;clear h hb1 hb2;go_enter Tryz.func17,Tryz.ntmps17;go_wp2;go_quiet (fail);go_wp2;go_ret;exact ⟨rfl,HB2.out.trans ((aI ⟨_,rfl⟩).mono HB2.out.size)⟩
theorem dU.cn{w:World}{B bk:Nat}{xy:Value×Value}{nv mv:Value}{E:List (Value×Int)}{next:Int}(h:dU w B bk xy nv mv E next):w.cell? ⟨bk,4,none⟩=some (.slice none 0 0)/\w.cell? ⟨bk,6,none⟩=some (.slice none 0 0):=by refine ⟨?_,?_⟩ <;> simp [zs,h.box]
theorem aM7(bk:Nat)(w:World)(n4:w.cell? ⟨bk,4,none⟩=some (.slice none 0 0))(n6:w.cell? ⟨bk,6,none⟩=some (.slice none 0 0)) :
  Calls zn 18 #[.pointer (some ⟨bk,0,none⟩)] w λe w'=>e=.returned (.bool true)/\w'=w:=by
 go_enter Tryz.func18,Tryz.ntmps18;go_wp2;go_loopw [3] (λi wr=>i=.int .i64 0/\wr=w) (λ_ _=>0);case atStart=>exact ⟨rfl,rfl⟩
 case round=>
  obtain ⟨rfl,rfl⟩:=hrel;go_wp2;go_loopw [6] (λi wx=>i=.int .i64 0/\wx=wr) (λ_ _=>0);case atStart=>exact ⟨rfl,rfl⟩
  case round=>
   obtain ⟨rfl,rfl⟩:=hrel;go_wp2;go_ret;exact ⟨rfl,rfl⟩
theorem dM.litAt{w:World}{B bk:Nat}{nv mv xv yv:Value}{E:List (Value×Int)}{F:List bZ}{G:List dB}{next:Int}(h:dM w B bk nv mv xv yv E F G next){i nF:Nat}(hnF:F.length*3=nF)(hi:i<nF) :
  ∃gx xc a n c g1 n1 c1 ga m,xv=.slice (some ⟨gx,0,none⟩) nF xc/\w.cell? ⟨gx,i,none⟩=some (.slice a n c)/\w.cell? ⟨gx,i / 3*3+1,none⟩=some (.slice (some ⟨g1,0,none⟩) (n1+1) c1)/\n<=1000000000000/\n1<=1000000000000/\(∀k,k<n->∃g,a=some ⟨g,0,none⟩/\w.cell? ⟨g,k*2,none⟩=some (.bool true)/\w.cell? ⟨g,k*2+1,none⟩=some (.slice (some ⟨ga,0,none⟩) 1 1))/\w.cell? ⟨g1,n1*2,none⟩=some (.bool true)/\w.cell? ⟨g1,n1*2+1,none⟩=some (.slice (some ⟨ga,0,none⟩) 1 1)/\w.heap[ga]?=some (.cells #[.string ⟨#[61]⟩,.int .i64 m] 36):=by
 subst hnF;have hj:i / 3<F.length:=by omega
 have hF:=h.fs _ (zw hj);generalize hf:F[i / 3]=f at hF;obtain ⟨xa,xc,rfl,hx⟩:=uO h.rx;have hv3:∀g:bZ,g.vals.length=3:=λ_=>rfl
 have hmod:i % 3<f.vals.length:=by rw [hv3];omega
 obtain ⟨gx,rfl,e0⟩:=hx i f.vals[i % 3] (by rw [yF _ hv3 _ _ hj,hf];simp [hmod]);obtain ⟨gx',hgx,e1⟩:=hx (i / 3*3+1) f.one (by rw [yF _ hv3 _ _ (by omega)];simp [show (i / 3*3+1) / 3=i / 3 by omega,show (i / 3*3+1) % 3=1 by omega,hf,bZ.vals]);simp at hgx;subst hgx;obtain ⟨a,n,c,hv,hn,hc⟩:=(hF.marks _ (zw hmod)).view;obtain ⟨a1,n1,c1,hone⟩:=hF.len;obtain ⟨a1',n1',c1',hv1,hn1,hc1⟩:=(hF.marks f.one (by simp [bZ.vals])).view;rw [hone] at hv1;simp at hv1;obtain ⟨rfl,rfl,rfl⟩:=hv1;obtain ⟨g1,rfl,hg1⟩:=hc1 n1 (by omega);refine ⟨gx,xc,a,n,c,g1,n1,c1,f.ga,f.m,rfl,by rw [e0,hv],by rw [e1,hone],hn,by omega,λk hk=>?_,hg1 0 (by simp),hg1 1 (by simp),hF.atom⟩;obtain ⟨g,ha,hg⟩:=hc k hk;exact ⟨g,ha,hg 0 (by simp),hg 1 (by simp)⟩
theorem dM.lisAt{w:World}{B bk:Nat}{nv mv xv yv:Value}{E:List (Value×Int)}{F:List bZ}{G:List dB}{next:Int}(h:dM w B bk nv mv xv yv E F G next){i nF:Nat}(hnF:G.length*3=nF)(hi:i<nF) :
  ∃gx xc a n c g1 n1 c1 gl ga m,yv=.slice (some ⟨gx,0,none⟩) nF xc/\w.cell? ⟨gx,i,none⟩=some (.slice a n c)/\w.cell? ⟨gx,i / 3*3+1,none⟩=some (.slice (some ⟨g1,0,none⟩) (n1+1) c1)/\n<=1000000000000/\n1<=1000000000000/\(∀k,k<n->∃g,a=some ⟨g,0,none⟩/\w.cell? ⟨g,k,none⟩=some (.slice (some ⟨gl,0,none⟩) 1 1))/\w.cell? ⟨g1,n1,none⟩=some (.slice (some ⟨gl,0,none⟩) 1 1)/\w.cell? ⟨gl,0,none⟩=some (.bool true)/\w.cell? ⟨gl,1,none⟩=some (.slice (some ⟨ga,0,none⟩) 1 1)/\w.heap[ga]?=some (.cells #[.string ⟨#[61]⟩,.int .i64 m] 36):=by
 subst hnF;have hj:i / 3<G.length:=by omega
 have hF:=h.gs _ (zw hj);generalize hf:G[i / 3]=f at hF;obtain ⟨xa,xc,rfl,hx⟩:=uO h.ry;have hv3:∀g:dB,g.vals.length=3:=λ_=>rfl
 have hmod:i % 3<f.vals.length:=by rw [hv3];omega
 obtain ⟨gx,rfl,e0⟩:=hx i f.vals[i % 3] (by rw [yF _ hv3 _ _ hj,hf];simp [hmod]);obtain ⟨gx',hgx,e1⟩:=hx (i / 3*3+1) f.one (by rw [yF _ hv3 _ _ (by omega)];simp [show (i / 3*3+1) / 3=i / 3 by omega,show (i / 3*3+1) % 3=1 by omega,hf,dB.vals]);simp at hgx;subst hgx;obtain ⟨a,n,c,hv,hn,hc⟩:=(hF.marks _ (zw hmod)).view;obtain ⟨a1,n1,c1,hone⟩:=hF.len;obtain ⟨a1',n1',c1',hv1,hn1,hc1⟩:=(hF.marks f.one (by simp [dB.vals])).view;rw [hone] at hv1;simp at hv1;obtain ⟨rfl,rfl,rfl⟩:=hv1;obtain ⟨g1,rfl,hg1⟩:=hc1 n1 (by omega);obtain ⟨l0,l1⟩:=aB0 hF.lit;refine ⟨gx,xc,a,n,c,g1,n1,c1,f.gl,f.ga,f.m,rfl,by rw [e0,hv],by rw [e1,hone],hn,by omega,λk hk=>?_,by simpa using hg1 0 (by simp),l0,l1,hF.atom⟩;obtain ⟨g,ha,hg⟩:=hc k hk;exact ⟨g,ha,by simpa using hg 0 (by simp)⟩
theorem aM8(B bk:Nat)(nv mv xv yv:Value)(E:List (Value×Int))(F:List bZ)(G:List dB)(next:Int)(w:World)(h:dM w B bk nv mv xv yv E F G next) :
  Calls zn 7 #[.pointer (some ⟨bk,0,none⟩)] w λe w'=>e=.returned (.bool true)/\Below w.heap.size w w':=by
 obtain ⟨n4,n6⟩:=h.base.cn;have c0:=h.base.c0;have c1:=h.base.c1;have c2:=h.base.c2;have c3:=h.base.c3;simp only at c2 c3;have hfew:=h.base.few;have hfF:=h.fewF;have hfG:=h.fewG;obtain ⟨na,nc,rfl,hN⟩:=uO h.base.rn;obtain ⟨ma,mc,rfl,hM⟩:=uO h.base.rm;obtain ⟨nF,hnF⟩ : ∃n,F.length*3=n:=⟨_,rfl⟩;obtain ⟨nG,hnG⟩ : ∃n,G.length*3=n:=⟨_,rfl⟩;obtain ⟨xa,xc,rfl,hX⟩:=uO h.rx;obtain ⟨ya,yc,rfl,hY⟩:=uO h.ry;rw [hnF] at h c2;rw [hnG] at h c3;have HNF:=aA hnF;have HNG:=aA hnG;have hnF3:nF<=3000000000:=by omega
 have hnG3:nG<=3000000000:=by omega
 clear hnF hnG;have HN:=aA hN;have HM:=aA hM;have H:=aA h;have H46:=aA (zm n4 n6);have C2:=aA c2;have C3:=aA c3;clear h hN hM hX hY n4 n6 c2 c3;go_enter Tryz.func7,Tryz.ntmps7;go_wp2;go_loopw [3] (λc wr=>∃i:Nat,i<=E.length/\c=.int .i64 i/\∃d,wr=w.drewN d) (λc _=>E.length-(intOf c).toNat);case atStart=>exact ⟨0,zp _,rfl,0,rfl⟩
 case round=>
  obtain ⟨i,hi,rfl,d,rfl⟩:=hrel;by_cases hlt:i<E.length
  ·have hlti:(i:Int)<(E.length:Int):=by omega
   obtain ⟨gn,rfl,e0⟩:=HN.out i E[i].1 (by simp [hlt]);obtain ⟨gm,rfl,e1⟩:=HM.out i (.int .i64 E[i].2) (by simp [hlt]);obtain ⟨a,n,c,hv,hn,hc⟩:=(H.out.base.mks E[i] (zw _)).view;rw [hv] at e0;generalize E[i].2=m at *;have HC:=aA hc;clear hv hc;go_wp2;go_loopw [4] (λc wr=>∃k:Nat,k<=n/\c=.int .i64 k/\∃d,wr=w.drewN d) (λc _=>n-(intOf c).toNat);case atStart=>exact ⟨0,zp _,rfl,d,rfl⟩
   case round=>
    obtain ⟨k,hk,rfl,d',rfl⟩:=hrel;by_cases hkn:k<n
    ·have hkni:(k:Int)<(n:Int):=by omega
     obtain ⟨g,rfl,f0,f1⟩:=HC.out k hkn;have hnb:=rQ (⟨#[35]⟩,m) (⟨#[35]⟩,m);have g9:=tJ;have q9:=rR ⟨#[35]⟩ ⟨#[35]⟩ m m;rw [decide_eq_true rfl] at hnb;simp only at hnb;go_wp2;go_quiet (fail);go_wp2;go_roundw;case rel=>exact ⟨k+1,by omega,by go_num,(by first | exact jZ _ _ _ | exact ⟨_,rfl⟩)⟩
     case measure=>simp [intOf];omega
    ·have hkn':k=n:=by omega
     subst hkn';go_wp2;go_roundw;case rel=>exact ⟨i+1,by omega,by go_num,(by first | exact jZ _ _ _ | exact ⟨_,rfl⟩)⟩
     case measure=>simp [intOf];omega
  ·have hie:i=E.length:=by omega
   subst hie;clear hlt;go_wp2;have HBD:=aA (aI (w:=w) (w1:=w.drewN d) ⟨d,rfl⟩);generalize w.drewN d=w0 at *;clear c0 c1 HN HM;go_loopw [5] (λc wr=>∃i:Nat,i<=nF/\c=.int .i64 i/\Below w.heap.size w wr) (λc _=>nF-(intOf c).toNat);case atStart=>exact ⟨0,zp _,rfl,HBD.out⟩
   case round=>
    obtain ⟨i,hi,rfl,hb⟩:=hrel;have q2:=Below.at' hb (zz _) C2.out;by_cases hlt:i<nF
    ·have hlti:(i:Int)<(nF:Int):=by omega
     have hix:(i:Int) / 3*3+1<(nF:Int):=by have:=HNF.out;omega
     have hix2:i / 3*3+1<nF:=by omega
     obtain ⟨gx,xc',a,n,c,g1,n1,c1,ga,m,hxv,e0,e1,hn,hn1,hc,l0,l1,hga⟩:=H.out.litAt HNF.out hlt;simp at hxv;obtain ⟨rfl,rfl⟩:=hxv;have HC:=aA hc;have HE:=aA (zm e0 (zm e1 (zm l0 (zm l1 hga))));have e0':=Below.at' hb (zz _) e0;have e1':=Below.at' hb (zz _) e1;clear hc e0 e1 l0 l1 hga;go_wp2;clear e0' e1' q2;go_loopw [7] (λc wr=>∃k:Nat,k<=n/\c=.int .i64 k/\Below w.heap.size w wr) (λc _=>n-(intOf c).toNat);case atStart=>exact ⟨0,zp _,rfl,hb⟩
     case round=>
      obtain ⟨k,hk,rfl,hb'⟩:=hrel;obtain ⟨e0,e1,l0,l1,hga⟩:=HE.out;have q2:=Below.at' hb' (zz _) C2.out;have r0:=Below.at' hb' (zz _) e0;by_cases hkn:k<n
      ·have hkni:(k:Int)<(n:Int):=by omega
       obtain ⟨g,rfl,f0,f1⟩:=HC.out k hkn;have f0':=Below.at' hb' (zz _) f0;have f1':=Below.at' hb' (zz _) f1;have l0':=Below.at' hb' (zz _) l0;have l1':=Below.at' hb' (zz _) l1;have hw1:z7.wrap (n1:Int)=n1:=by rw [z6];omega
       have hw2:(n1:Int)<(n1:Int)+1:=by omega
       have CM:=aA (aEl ga m wr.drew (show wr.heap[ga]?=_ by rw [hb'.block ga (zx.1 hga).1,hga]));have HB':=aA hb';clear e0 e1 l0 l1 hga f0 f1 hb' hb;go_wp2;go_region_held3 (λw'=>w'.cell? ⟨bk,2,none⟩=some (.slice (some ⟨gx,0,none⟩) (nF) xc)/\w'.cell? ⟨gx,i,none⟩=some (.slice (some ⟨g,0,none⟩) n c)/\w'.cell? ⟨g,k*2,none⟩=some (.bool true)/\w'.cell? ⟨g,k*2+1,none⟩=some (.slice (some ⟨ga,0,none⟩) 1 1)/\w'.cell? ⟨g1,n1*2,none⟩=some (.bool true)/\w'.cell? ⟨g1,n1*2+1,none⟩=some (.slice (some ⟨ga,0,none⟩) 1 1)) (first | go_keep | exact ⟨Below.at' HB1.out (zz _) q2,Below.at' HB1.out (zz _) r0,Below.at' HB1.out (zz _) f0',Below.at' HB1.out (zz _) f1',Below.at' HB1.out (zz _) l0',Below.at' HB1.out (zz _) l1'⟩) (first | (go_at_call 17;refine (aB CM).mono ?_;rintro e w2 ⟨rfl,hb2⟩;have HB1:Hid (Below wr.heap.size wr w2):=aA ((aI (w1:=wr.drew) ⟨1,rfl⟩).trans hb2);have HB2:Hid (Below w.heap.size w w2):=aA (HB'.out.trans (HB1.out.mono HB'.out.size));clear hb2));all_goals
        go_wp2;go_roundw;case rel=>exact ⟨k+1,by omega,by go_num,HB2.out⟩
        case measure=>simp [intOf];omega
      ·have hkn':k=n:=by omega
       subst hkn';clear e0 e1 l0 l1 hga;go_wp2;go_roundw;case rel=>exact ⟨i+1,by omega,by go_num,hb'⟩
       case measure=>simp [intOf];omega
    ·have hie:i=nF:=by omega
     subst hie;clear hlt;go_wp2;clear q2;go_loopw [9] (λc wr=>∃i:Nat,i<=nG/\c=.int .i64 i/\Below w.heap.size w wr) (λc _=>nG-(intOf c).toNat);case atStart=>exact ⟨0,zp _,rfl,hb⟩
     case round=>
      clear hb;obtain ⟨i,hi,rfl,hb⟩:=hrel;have q3:=Below.at' hb (zz _) C3.out;by_cases hlt:i<nG
      ·have hlti:(i:Int)<(nG:Int):=by omega
       have hix:(i:Int) / 3*3+1<(nG:Int):=by have:=HNG.out;omega
       have hix2:i / 3*3+1<nG:=by omega
       obtain ⟨gx,xc',a,n,c,g1,n1,c1,gl,ga,m,hxv,e0,e1,hn,hn1,hc,l1,x0,x1,hga⟩:=H.out.lisAt HNG.out hlt;simp at hxv;obtain ⟨rfl,rfl⟩:=hxv;have HC:=aA hc;have HE:=aA (zm e0 (zm e1 (zm l1 (zm x0 (zm x1 hga)))));have e0':=Below.at' hb (zz _) e0;have e1':=Below.at' hb (zz _) e1;clear hc e0 e1 l1 x0 x1 hga;go_wp2;clear e0' e1' q3;go_loopw [11] (λc wr=>∃k:Nat,k<=n/\c=.int .i64 k/\Below w.heap.size w wr) (λc _=>n-(intOf c).toNat);case atStart=>exact ⟨0,zp _,rfl,hb⟩
       case round=>
        obtain ⟨k,hk,rfl,hb'⟩:=hrel;obtain ⟨e0,e1,l1,x0,x1,hga⟩:=HE.out;have q3:=Below.at' hb' (zz _) C3.out;have r0:=Below.at' hb' (zz _) e0;by_cases hkn:k<n
        ·have hkni:(k:Int)<(n:Int):=by omega
         obtain ⟨g,rfl,f0⟩:=HC.out k hkn;have f0':=Below.at' hb' (zz _) f0;have l1':=Below.at' hb' (zz _) l1;have x0':=Below.at' hb' (zz _) x0;have x1':=Below.at' hb' (zz _) x1;have hw1:z7.wrap (n1:Int)=n1:=by rw [z6];omega
         have hw2:(n1:Int)<(n1:Int)+1:=by omega
         have CM:=aA (aEl ga m wr.drew (show wr.heap[ga]?=_ by rw [hb'.block ga (zx.1 hga).1,hga]));have HB':=aA hb';clear e0 e1 l1 x0 x1 hga f0 hb' hb;go_wp2;go_region_held3 (λw'=>w'.cell? ⟨bk,3,none⟩=some (.slice (some ⟨gx,0,none⟩) (nG) yc)/\w'.cell? ⟨gx,i,none⟩=some (.slice (some ⟨g,0,none⟩) n c)/\w'.cell? ⟨g,k,none⟩=some (.slice (some ⟨gl,0,none⟩) 1 1)/\w'.cell? ⟨gl,0,none⟩=some (.bool true)/\w'.cell? ⟨gl,1,none⟩=some (.slice (some ⟨ga,0,none⟩) 1 1)/\w'.cell? ⟨g1,n1,none⟩=some (.slice (some ⟨gl,0,none⟩) 1 1)) (first | go_keep | exact ⟨Below.at' HB1.out (zz _) q3,Below.at' HB1.out (zz _) r0,Below.at' HB1.out (zz _) f0',Below.at' HB1.out (zz _) x0',Below.at' HB1.out (zz _) x1',Below.at' HB1.out (zz _) l1'⟩) (first | (go_at_call 17;refine (aB CM).mono ?_;rintro e w2 ⟨rfl,hb2⟩;have HB1:Hid (Below wr.heap.size wr w2):=aA ((aI (w1:=wr.drew) ⟨1,rfl⟩).trans hb2);have HB2:Hid (Below w.heap.size w w2):=aA (HB'.out.trans (HB1.out.mono HB'.out.size));clear hb2));all_goals
          go_wp2;go_roundw;case rel=>exact ⟨k+1,by omega,by go_num,HB2.out⟩
          case measure=>simp [intOf];omega
        ·have hkn':k=n:=by omega
         subst hkn';clear e0 e1 l1 x0 x1 hga;go_wp2;go_roundw;case rel=>exact ⟨i+1,by omega,by go_num,hb'⟩
         case measure=>simp [intOf];omega
      ·have hie:i=nG:=by omega
       subst hie;have CR:=aA (aM7 bk wr (Below.at' hb (zz _) H46.out.1) (Below.at' hb (zz _) H46.out.2));go_wp2_with (go_at_call 18;refine (aB CR).mono ?_;rintro e w2 ⟨rfl,hw2⟩;rw [hw2];clear hw2 w2);go_ret;exact ⟨rfl,hb⟩
end Go.Proofs.YtcldkjcpofjmhaaGreatDoor
