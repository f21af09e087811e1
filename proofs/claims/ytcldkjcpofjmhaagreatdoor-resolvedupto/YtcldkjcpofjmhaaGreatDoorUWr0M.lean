import Derived.Test.YtcldkjcpofjmhaaGreatDoorUSzM
import Derived.Deep.CutRange
open List renaming length_cons→zv,length_append→zs,flatten_cons→zp,map_cons→zo,mem_cons_of_mem→zk,mem_cons→zi
open Nat renaming le_refl→zz,le_trans→zw
open Or renaming inr→zt
namespace Go.Proofs.YtcldkjcpofjmhaaGreatDoor
open _root_.Go.Proofs.Tryz renaming prog→zu,underlying37→zq
open Value renaming ownBlock→zy,slice→zl
open World renaming block_lt_of_cell?→zx,cell?_setCell_same'→zr,frozen?_of_block→zn,frozen?_setCell→zm,size_alloc→zh
set_option maxHeartbeats 2000000
set_option maxRecDepth 100000
section
open Go.RowKit Go.Shelf Go.WideMaps
theorem aJl(w:World)(ty:TypeId)(base:Nat)(v:Value)(l:List Nd)(hown:w.ownsRow base 36 2 v l.length (aH l))(hv:v.ownBlock≠none)(hn:l.length<=1000000)(hbase:base<=w.heap.size)(g c:Nat)(nd:Nd)(hu:w.cell? ⟨g,0,none⟩=some (.string nd.1))(hu1:w.cell? ⟨g,1,none⟩=some (.int .i64 nd.2)) :
  ∃v' w',(Builtin.append_ #[37,37] ty #[v,.slice (some ⟨g,0,none⟩) 1 c]).run zu w=.ok v' w'/\w'.ownsRow base 36 2 v' (l.length+1) (aH (l++[nd]))/\w.grownBy w' v.ownBlock/\(v'.ownBlock=v.ownBlock\/v'.ownBlock=some w.heap.size):=by
 obtain ⟨i,hi,hz,hss,hy⟩:=info_parts mP;have hnews:∀(j:Nat) (u':Value),[Value.string nd.1,Value.int .i64 nd.2][j]?=some u'->w.cell? ((⟨g,0,none⟩ : Addr).add j)=some u':=by
  intro j u' hj;have hj0:=(List.getElem?_eq_some_iff.1 hj).1;simp at hj0;match j,hj0,hj with
  | 0,_,hj=>simp at hj;subst hj;exact hu
  | 1,_,hj=>simp at hj;subst hj;exact hu1
 have h1c:∀x∈[Value.string nd.1,Value.int .i64 nd.2],x.oneCell'=true:=by intro x hx;simp at hx;rcases hx with rfl | rfl <;> rfl
 obtain ⟨v',w',hr,h1,h2,_⟩:=run_append_own (P:=zu) w base 37 ty 36 i (.agg #[.string ⟨#[]⟩,.int .i64 0]) 2 24 zq hi hz hss hy rfl (by decide) v l.length (aH l) hown ⟨g,0,none⟩ 1 c [.string nd.1,.int .i64 nd.2] rfl hnews h1c (by unfold maxLen;omega) (by omega) hbase;exact ⟨v',w',hr,by rw [rG];exact h1,h2,wB w base 37 ty 36 i (.agg #[.string ⟨#[]⟩,.int .i64 0]) 2 24 zq hi hz hss hy (by decide) v l.length (aH l) hown hv ⟨g,0,none⟩ 1 c [.string nd.1,.int .i64 nd.2] rfl hnews h1c (by unfold maxLen;omega) (by omega) hr⟩
theorem aVo{ops:Array Oper}{o:Oper}{a:Act}{w:World}{K:Act->World->Prop}{Q:Exit->Act->World->Prop}{E:Prop}(hgd:o.guard=none)(s x:Operand)
  (ho:o.op=.call {callee:=.builtin .append,args:=#[s,x],argTypes:=#[37,37]}) (base:Nat) (v:Value) (l:List Nd) (hs:a.eval s=v) (hown:w.ownsRow base 36 2 v l.length (aH l)) (hv:v.ownBlock≠none) (hn:l.length<=1000000) (hbase:base<=w.heap.size)
  (g c:Nat) (nd:Nd) (hx:a.eval x=.slice (some ⟨g,0,none⟩) 1 c) (hu:w.cell? ⟨g,0,none⟩=some (.string nd.1)) (hu1:w.cell? ⟨g,1,none⟩=some (.int .i64 nd.2))
  (h:∀v' w',w'.ownsRow base 36 2 v' (l.length+1) (aH (l++[nd]))->w.grownBy w' v.ownBlock->(v'.ownBlock=v.ownBlock\/v'.ownBlock=some w.heap.size)->K (a.put o.dst v') w') :
  if Region.wanted o (yielded ops a.tmps)=true then Oper.wp zu o a w K Q else E:=by
 have hw:Region.wanted o (yielded ops a.tmps)=true:=by simp [Region.wanted,hgd]
 rw [if_pos hw];obtain ⟨v',w',hr,h1,h2,h3⟩:=aJl w o.type base v l hown hv hn hbase g c nd hu hu1;unfold Oper.wp execOp;simp only [ho,resolve,invoke,builtin,Sem.run_bind,Sem.run_pure,Result.andThen_ok,List.map_toArray,zo,List.map_nil,hs,hx,hr];exact h v' w' h1 h2 h3
structure aJm(w:World)(B tb:Nat)(vn ve vl vs vm:Value)(L:List Nd)(F:List Nat)(S:List Int)(B1:Nat)(v:Value)(out:List Nd)(v':Value)(w':World):Prop where
 tm:bE w' B tb vn ve vl vs vm L F S
 row:w'.ownsRow B1 36 2 v' out.length (aH out)
 some:v'.ownBlock≠none
 far:w.grownBy w' v.ownBlock
 moved:aX w v v'
structure mH(w:World)(B tb:Nat)(vn ve vl vs vm:Value)(L:List Nd)(F:List Nat)(S:List Int)(B1:Nat)(v:Value)(out:List Nd)(ex:Nat->List Nd)(nb N0:Nat)(pre:List Nat)(W:World):Prop where
 big:N0<=W.heap.size
 tm:bE W B tb vn ve vl vs vm L F S
 st:∃v',W.cell? ⟨nb,0,none⟩=some v'/\W.ownsRow B1 36 2 v' (out++(pre.map ex).flatten).length (aH (out++(pre.map ex).flatten))/\v'.ownBlock≠none/\aX w v v'/\v'.ownBlock≠some nb/\v'.ownBlock≠some w.heap.size/\(∀k,N0<=k+2->k<N0->v'.ownBlock≠some k)
 nf:W.frozen? ⟨nb,0,none⟩=false
 far:w.grownBy W v.ownBlock
 x0:W.cell? ⟨w.heap.size,0,none⟩=some (.pointer (some ⟨tb,0,none⟩))
theorem aJn{w w':World}{B:Nat}{e:TypeId}{size:Nat}{v:Value}{n:Nat}{xs:List Value}{o:Option Nat}(h:w.ownsRow B e size v n xs)(hg:w.grownBy w' o)(ho:∀r,o=some r->∃x:Obj,w.heap[r]?=some x/\x.isCells=false):w'.ownsRow B e size v n xs:=cG h hg (wZ h ho)
theorem mH.own{w:World}{B tb:Nat}{vn ve vl vs vm:Value}{L:List Nd}{F:List Nat}{S:List Int}{B1:Nat}{v:Value}{out:List Nd}{ex:Nat->List Nd}{nb N0 N:Nat}{C:List Nat}(hN:w.heap.size<=N):OwnFrom N (λ(pre:List (nO C)) W=>mH w B tb vn ve vl vs vm L F S B1 v out ex nb N0 (pre.map λx=>x.1) W):=by
 intro pre W W' row h hg hr;have hr':∀r,row=some r->∃o:Obj,W.heap[r]?=some o/\o.isCells=false:=λr e=>(hr r e).2
 obtain ⟨v',h1,h2,h3⟩:=h.st;exact ⟨zw h.big hg.size,h.tm.others hg hr',⟨v',cell_kept h1 hg hr',aJn h2 hg hr',h3⟩,(frozen_kept h1 hg hr').trans h.nf,nN h.far hg (λr e=>by have:=(hr r e).1;omega),cell_kept h.x0 hg hr'⟩
theorem aJo{G:Gr}{R:Nat->Nat->Prop}{rep:Nat->Nat}(hR:gR G R)(hN:eW G R)(hA:G.Arity)(hrep:∀i j,R i j->rep i=rep j){x:List Nat}{l:List Nd}(h:aQ G R rep x l):∃ex:Nat->List Nd,(∀i∈x,aQ G R rep [i] (ex i))/\(∀i∈x,(ex i).length<=l.length)/\(x.map ex).flatten=l:=by
 induction x generalizing l with
 | nil=>cases h;exact ⟨λ_=>[],by simp,by simp,rfl⟩
 | cons i r ih=>
  obtain ⟨l1,l2,rfl,h1,h2⟩:=h.split [i] r rfl;obtain ⟨ex,e1,e2,e3⟩:=ih h2;have key:∀j∈r,j=i->ex j=l1:=by rintro j hj rfl;exact (e1 j hj).one hR hN hA hrep _ h1
  refine ⟨λj=>if j=i then l1 else ex j,?_,?_,?_⟩
  ·intro j hj;by_cases e:j=i
   ·subst e;simpa using h1
   ·rcases zi.1 hj with hj | hj
    ·exact absurd hj e
    ·simpa [e] using e1 j hj
  ·intro j hj;by_cases e:j=i
   ·subst e;simp
   ·rcases zi.1 hj with hj | hj
    ·exact absurd hj e
    ·have:=e2 j hj;simp [e];omega
  ·rw [zo,zp,if_pos rfl,<-e3];congr 2
   apply List.map_congr_left;intro j hj;by_cases e:j=i
   ·rw [if_pos e,key j hj e]
   ·rw [if_neg e]
attribute [local go_sem] Oper.semAt_some
theorem aA0{w:World}{B:Nat}{e:TypeId}{size:Nat}{v:Value}{n:Nat}{xs:List Value}(h:w.ownsRow B e size v n xs)(hv:v.ownBlock≠none):∃g c,v=.slice (some ⟨g,0,none⟩) n c:=by
 obtain ⟨_,⟨rfl,_⟩ | ⟨g,cap,cur,rfl,_⟩⟩:=h
 ·exact absurd rfl hv
 ·exact ⟨g,cap,rfl⟩
theorem aJp(w:World)(x y:Value)(t1 t2:TypeId):∃W,W=(w.alloc (.cells #[x] t1)).alloc (.cells #[y] t2)/\Below w.heap.size w W/\W.cell? ⟨w.heap.size,0,none⟩=some x/\W.cell? ⟨w.heap.size+1,0,none⟩=some y/\W.frozen? ⟨w.heap.size+1,0,none⟩=false/\W.heap.size=w.heap.size+2:=by
 refine ⟨_,rfl,((Below.refl _ _).alloc (zz _) _).alloc (by simp) _,?_,?_,?_,by simp⟩
 ·exact Below.at' ((Below.refl _ (w.alloc (.cells #[x] t1))).alloc (zz _) (.cells #[y] t2)) (zz _) (qQ w x t1).1
 ·have:=(qQ (w.alloc (.cells #[x] t1)) y t2).1;rw [zh] at this;exact this
 ·have:=(qQ (w.alloc (.cells #[x] t1)) y t2).2;rw [zh] at this;exact this
def aJq(Q:Exit->Act->World->Prop):Exit->Act->World->Prop
 | .panic _,_,_=>False
 | e,a,w=>Q e a w
theorem aVp{c:Code}{Q:Exit->Act->World->Prop}{a:Act}{w:World}(h:c.wp zu (aJq Q) a w):c.wp zu Q a w:=
 Code.wp_mono (λe a w h=>by cases e <;> first | exact h | exact False.elim h) h
theorem aJr{w w2 w3:World}{gv:Nat}{t u:Value}{o:Obj}(hg:(w2.drew.alloc o).grownBy w3 (some gv))(k0:w2.cell? ⟨w.heap.size,0,none⟩=some t)(k1:w2.cell? ⟨w.heap.size+1,0,none⟩=some u)(kf:w2.frozen? ⟨w.heap.size+1,0,none⟩=false)(h0:w.heap.size≠gv)(h1:w.heap.size+1≠gv) :
  w3.cell? ⟨w.heap.size,0,none⟩=some t/\w3.cell? ⟨w.heap.size+1,0,none⟩=some u/\w3.frozen? ⟨w.heap.size+1,0,none⟩=false:=by
 have hb:Below w2.heap.size w2 (w2.drew.alloc o):=(aJ (w1:=w2.drew) ⟨1,rfl⟩).alloc (zz _) o;have j0:=Below.at' hb (zz _) k0;have j1:=Below.at' hb (zz _) k1;refine ⟨hg.cell j0 (by simpa using h0),hg.cell j1 (by simpa using h1),?_⟩;rw [zn (hg.block _ (zx _ _ j1) (by simpa using h1)),hb.frozen (p:=⟨w.heap.size+1,0,none⟩) (zx _ _ k1)];exact kf
theorem aVq{Q:Exit->Act->World->Prop}{a:Act}{w:World}(h:Q .normal a w):aJq Q .normal a w:=h
theorem aVr{w w0 w2 w3:World}{B tb:Nat}{vn ve vl vs vm:Value}{L:List Nd}{F:List Nat}{S:List Int}{B1 gv cv g3 c3:Nat}{out:List Nd}{nd:Nd}{ex:Nat->List Nd}{o:Obj}(h0:bE w0 B tb vn ve vl vs vm L F S)(h:bE w B tb vn ve vl vs vm L F S)(hb:Below w.heap.size w w2)(hB1:w0.heap.size<=B1)(hgv:B1<=gv/\gv<w.heap.size)(hg:(w2.drew.alloc o).grownBy w3 (some gv))(k0:w2.cell? ⟨w.heap.size,0,none⟩=some (.pointer (some ⟨tb,0,none⟩))){u:Value}(k1:w2.cell? ⟨w.heap.size+1,0,none⟩=some u)(kf:w2.frozen? ⟨w.heap.size+1,0,none⟩=false)
  (ho:w3.ownsRow B1 36 2 (.slice (some ⟨g3,0,none⟩) (out.length+1) c3) (out.length+1) (aH (out++[nd]))) (hw:(zl (some ⟨g3,0,none⟩) (out.length+1) c3).ownBlock=some gv\/(zl (some ⟨g3,0,none⟩) (out.length+1) c3).ownBlock=some (w2.drew.alloc o).heap.size) :
  mH w B tb vn ve vl vs vm L F S B1 (.slice (some ⟨gv,0,none⟩) out.length cv) (out++[nd]) ex (w.heap.size+1) (w.heap.size+2) [] (w3.setCell ⟨w.heap.size+1,0,none⟩ (.slice (some ⟨g3,0,none⟩) (out.length+1) c3)):=by
 have hb2:Below w2.heap.size w2 (w2.drew.alloc o):=(aJ (w1:=w2.drew) ⟨1,rfl⟩).alloc (zz _) o;have hbA:Below w.heap.size w (w2.drew.alloc o):=hb.trans (hb2.mono hb.size);obtain ⟨e0,e1,e2,e3,e4⟩:=h0.lts (zw hB1 hgv.1);have ht3:=(h.below hbA).grown hg e0 (zt e1) (zt e2) (zt e3) (zt e4);obtain ⟨d0,d1,df⟩:=aJr hg k0 k1 kf (by omega) (by omega);have hlt2:w.heap.size+1<w2.heap.size:=zx _ _ k1;have hs3:=hg.size;have hsA:(w2.drew.alloc o).heap.size=w2.heap.size+1:=by simp
 have hg3:g3=gv\/g3=w2.heap.size+1:=by simp only [zy,Option.some.injEq] at hw;rw [hsA] at hw;exact hw
 have hne:g3≠w.heap.size+1/\g3≠w.heap.size:=by omega
 have hss:(w3.setCell ⟨w.heap.size+1,0,none⟩ (.slice (some ⟨g3,0,none⟩) (out.length+1) c3)).heap.size=w3.heap.size:=by simp [World.setCell]
 refine ⟨by omega,ht3.boxed h (by omega) 0 _,⟨_,zr _ _ _ (by rw [d1];rfl),?_,by simp [zy],?_,by simpa [zy] using hne.1,by simpa [zy] using hne.2,?_⟩,?_,mC (xC hbA hg) (by omega) 0 _,fP d0 (by omega)⟩
 ·have:=pX ho (p:=⟨w.heap.size+1,0,none⟩) (by simp [zy];omega) (.slice (some ⟨g3,0,none⟩) (out.length+1) c3);simpa using this
 ·rcases hg3 with e | e
  ·exact Or.inl (by simp [zy,e])
  ·exact zt ⟨g3,rfl,by omega⟩
 ·intro k h1 h2 e;simp [zy] at e;omega
 ·rw [zm];exact df
theorem aVs{w:World}{B:Nat}{e:TypeId}{size:Nat}{v:Value}{n:Nat}{xs:List Value}(h:w.ownsRow B e size v n xs)(hv:v.ownBlock≠none):∃g m c,v=.slice (some ⟨g,0,none⟩) m c:=by obtain ⟨g,c,h⟩:=aA0 h hv;exact ⟨g,_,c,h⟩
theorem aVt{C:List Nat}{ex:Nat->List Nd}(h:∀y∈C,1<=(ex y).length):C.length<=((C.map ex).flatten).length/\∀x∈C,(ex x).length+C.length<=((C.map ex).flatten).length+1:=by
 induction C with
 | nil=>simp
 | cons y C ih=>
  obtain ⟨h1,h2⟩:=ih (λz hz=>h z (zk _ hz));have hy:=h y (by simp);simp only [zo,zp,zs,zv];refine ⟨by omega,λx hx=>?_⟩;rcases zi.1 hx with rfl | hx
  ·omega
  ·have:=h2 x hx;omega
theorem aVu{pre:List Nat}{ex:Nat->List Nd}{M:Nat}(h:∀y∈pre,(ex y).length<=M):((pre.map ex).flatten).length<=pre.length*M:=by
 induction pre with
 | nil=>simp
 | cons y C ih=>
  have h1:=ih (λz hz=>h z (zk _ hz));have h2:=h y (by simp);simp only [zo,zp,zs,zv,Nat.add_mul];omega
theorem aVv{j k M e n:Nat}(hk:j<k)(hn:k+M=n)(he:e<=M):1+j*M+e*e<=n*n:=by
 subst hn;have h1:e*e<=M*M:=Nat.mul_le_mul he he;have h2:j*M<=k*M:=Nat.mul_le_mul_right _ (Nat.le_of_lt hk);have h3:0<k*k:=Nat.mul_pos (by omega) (by omega);have h4:(k+M)*(k+M)=k*k+k*M+(k*M+M*M):=by rw [Nat.add_mul,Nat.mul_add,Nat.mul_add,Nat.mul_comm M k]
 rw [h4];omega
theorem mH.boxes{w W W6:World}{B tb:Nat}{vn ve vl vs vm:Value}{L:List Nd}{F:List Nat}{S:List Int}{B1:Nat}{v:Value}{out:List Nd}{ex:Nat->List Nd}{nb N0:Nat}(h:mH w B tb vn ve vl vs vm L F S B1 v out ex nb N0 [] W)(hb:Below W.heap.size W W6)(hs:W6.heap.size=W.heap.size+2):mH w B tb vn ve vl vs vm L F S B1 v out ex nb W6.heap.size [] W6:=by
 obtain ⟨v',h1,h2,h3,h4,h5,h6,h7⟩:=h.st;refine ⟨zz _,h.tm.below hb,⟨v',Below.at' hb (zz _) h1,aU h2 hb (zz _),h3,h4,h5,h6,?_⟩,(hb.frozen (p:=⟨nb,0,none⟩) (zx _ _ h1)).trans h.nf,aFr h.far (aX.refl _ _) ?_,Below.at' hb (zz _) h.x0⟩
 ·intro k k1 k2 e;have:=(aT h2 k e).2;omega
 ·exact fM hb
theorem mH.next{w W W':World}{B tb:Nat}{vn ve vl vs vm:Value}{L:List Nd}{F:List Nat}{S:List Int}{B1:Nat}{v:Value}{out:List Nd}{ex:Nat->List Nd}{nb N0 x:Nat}{pre:List Nat}(h0:bE w B tb vn ve vl vs vm L F S)(h:mH w B tb vn ve vl vs vm L F S B1 v out ex nb N0 pre W)(hnb:w.heap.size<nb)(hN:nb<N0){g n c:Nat}{v2:Value}(hc:W.cell? ⟨nb,0,none⟩=some (.slice (some ⟨g,0,none⟩) n c))(hm:aX w v (.slice (some ⟨g,0,none⟩) n c))(h1:g≠nb)(h2:g≠w.heap.size)(h3:∀k,N0<=k+2->k<N0->g≠k)
  (hr:aJm W B tb vn ve vl vs vm L F S B1 (.slice (some ⟨g,0,none⟩) n c) (out++(pre.map ex).flatten++ex x) v2 W'):mH w B tb vn ve vl vs vm L F S B1 v out ex nb N0 (pre++[x]) (W'.setCell ⟨nb,0,none⟩ v2)/\W'.cell? ⟨nb,0,none⟩=some (.slice (some ⟨g,0,none⟩) n c)/\W'.frozen? ⟨nb,0,none⟩=false:=by
 have hfar:W.grownBy W' (some g):=hr.far;have hsz:=hfar.size;have hbig:=h.big;have hd:=hfar.cell hc (by simp;omega);have hdf:W'.frozen? ⟨nb,0,none⟩=false:=(zn (hfar.block nb (zx W ⟨nb,0,none⟩ hc) (by simp;omega))).trans h.nf;have hv2:v2.ownBlock=some g\/∃k,v2.ownBlock=some k/\W.heap.size<=k:=hr.moved;have hss:(W'.setCell ⟨nb,0,none⟩ v2).heap.size=W'.heap.size:=by simp [World.setCell]
 have hn2:v2.ownBlock≠some nb:=by rcases hv2 with e | ⟨k,e,hk⟩ <;> rw [e] <;> simp <;> omega
 have hn3:v2.ownBlock≠some w.heap.size:=by rcases hv2 with e | ⟨k,e,hk⟩ <;> rw [e] <;> simp <;> omega
 have hws:=h.far.size;refine ⟨⟨by omega,hr.tm.boxed h0 (by omega) 0 _,⟨v2,zr _ _ _ (by rw [hd];rfl),?_,hr.some,hm.trans hr.moved hws,hn2,hn3,?_⟩,?_,mC (aFr h.far hm hr.far) (by omega) 0 _,fP (hfar.cell h.x0 (by simp;omega)) (by omega)⟩,hd,hdf⟩
 ·have:=pX hr.row (p:=⟨nb,0,none⟩) (λe=>hn2 e.symm) v2;have e:out++((pre++[x]).map ex).flatten=out++(pre.map ex).flatten++ex x:=by simp
  rw [e];exact this
 ·intro k k1 k2;rcases hv2 with e | ⟨k',e,hk⟩ <;> rw [e] <;> simp
  ·exact h3 k k1 k2
  ·omega
 ·rw [zm];exact hdf
theorem aVw(B tb:Nat)(vn ve vl vs vm:Value)(L:List Nd)(F:List Nat)(S:List Int)(rt d:Nat->Nat)(hL:dE L)(hF:gD F rt d)(hN:jN L rt)(hC:dQ (aD L) (λi j=>rt i=rt j) λ_ _=>False)(w0:World)(h0:bE w0 B tb vn ve vl vs vm L F S)(B1:Nat)(hB1:w0.heap.size<=B1) :
  ∀(m:Nat) (a:Nat) (l out:List Nd) (v:Value) (w:World),l.length<m->aQ (aD L) (λi j=>rt i=rt j) rt [a] l->bE w B tb vn ve vl vs vm L F S->w.ownsRow B1 36 2 v out.length (aH out)->v.ownBlock≠none->B1<=w.heap.size->out.length+l.length*l.length<=1000000->a<L.length->
  Calls zu 116 #[.pointer (some ⟨tb,0,none⟩),v,.int .i64 a] w λe w'=>∃v',e=.returned v'/\aJm w B tb vn ve vl vs vm L F S B1 v (out++l) v' w':=by
 obtain ⟨hD,hNC⟩:=aIz hC (qP rt);intro m;induction m with
 | zero=>intro a l out v w hm;omega
 | succ m ih=>
  intro a l out v w hm hX h hv hvn hBw hsq ha;have hlen:out.length+l.length<=1000000:=zw (Nat.add_le_add_left (Nat.le_mul_self _) _) hsq;have HSQ:=aA hsq;clear hsq;obtain ⟨gv,cv,rfl⟩:=aA0 hv hvn;have hgv:=aT hv gv rfl;obtain ⟨w1,hw1,hb1,x0,x1,f1,hs1⟩:=aJp w (.pointer (some ⟨tb,0,none⟩)) (.slice (some ⟨gv,0,none⟩) out.length cv) 107 37;have CA:=aA (aCp B tb vn ve vl vs vm L F S rt d a w1 (h.below hb1) hF ha);have hra:rt a<L.length:=by rw [<-h.lf];exact hF.rt_lt (by rw [h.lf];exact ha)
  have hrr:=hF.rt_rt a;obtain ⟨nd,hnd⟩ : ∃n,L[rt a]?=some n:=⟨L[rt a],List.getElem?_eq_getElem hra⟩;obtain ⟨gn,cn,rfl,c0,c1⟩:=(h.below hb1).node hnd;have cn0:=(h.below hb1).c0;have hfew:=h.few;have HT:=aA h;have HB1:=aA hb1;have HX:=aA hX;have HV:=aA hv;have HD:=aA hD;have HNC:=aA hNC;have HN:=aA hN;have HF:=aA hF;have IH:=aA ih;have HM:=aA hm;obtain ⟨s,xx⟩:=nd;simp only at c0 c1;obtain ⟨r,hr⟩ : ∃r,r=rt a:=⟨_,rfl⟩;rw [<-hr] at hra hrr hnd c0 c1 CA;have HRT:=aA hr;have HRR:=aA hrr;have HND:=aA hnd;have hri:(r:Int)<(L.length:Int):=by omega
  have CV:=aA (λwx=>qI s xx wx);clear h hb1 hX hv hvn hD hNC hN hF ih hm hr hrr hnd hC;refine (callsIn_wide (n:=3)).1 ?_;refine callsIn_of_wp_marks Tryz.func116 rfl trivial ?_;simp only [Tryz.ntmps116,List.size_toArray,zv,List.length_nil,Nat.reduceAdd,Nat.reduceSub,Array.replicate_succ,Array.replicate_zero,List.push_toArray,List.append_toArray,List.nil_append,List.cons_append];refine wpIn_wide.2 ?_;by_cases hvar:s.toList.isEmpty=true
  ·rw [hvar] at CV;have hvb:aF (s,xx)=true:=hvar;have hnn:∀j,rt r=rt j->¬(aD L).named j:=by
    intro j e hj;have:=HN.out j hj;rw [<-e,HRR.out,gS HND.out,hvb] at this;cases this
   have hl:l=[(⟨#[]⟩,(r:Int))]:=by have h1:aQ (aD L) (λi j=>rt i=rt j) rt [a] [(⟨#[]⟩,((rt a:Nat):Int))]:=aQ.var (λj e hj=>hnn j (by rw [HRR.out,HRT.out];exact e) hj) aQ.nil;have h2:=HX.out.one HD.out HNC.out (uY L) (λ_ _ e=>e) _ h1;rw [h2,HRT.out]
   subst hl;have HAP:=aA (λ(w2:World) (hb2:Below w1.heap.size w1 w2)=>aJl (w2.alloc (.cells #[.string ⟨#[]⟩,.int .i64 r] 36)) 37 B1 _ out ((aU (aU HV.out HB1.out (zz _)) hb2 (zz _)).alloc _) (by simp [zy]) (by omega) (by have:=HB1.out.size;have:=hb2.size;simp;omega) w2.heap.size 1 (⟨#[]⟩,(r:Int)) (sX _ _ _ _).1 (sX _ _ _ _).2);subst hw1;clear hnn hvb;go_wp2_with (first
    | (go_at_call 114;refine (aB CA).mono ?_;rintro e w' ⟨rfl,rfl⟩)
    | (go_at_call 83;refine (aB CV _).mono ?_;rintro e w2 ⟨rfl,hb2⟩;have k1:=Below.at' hb2 (zz _) x1;have HB2:=aA hb2;obtain ⟨v3,w3,hr3,ho3,hg3,hw3⟩:=HAP.out w2 hb2;have HR3:=aA hr3;have HO3:=aA ho3;have HG3:=aA hg3;have HW3:=aA hw3;clear hb2 hr3 ho3 hg3 hw3)
    | (at_builtin;refine Go.Lib.wpList_append_run _ rfl _ _ _ _ rfl _ _ rfl rfl _ _ (aB HR3) ?_)
    | go_in)
   refine tN (v:=v3) rfl (by simp [results,Tryz.results116,go_sem]) ?_;have hbA:Below w.heap.size w (w2.alloc (.cells #[.string ⟨#[]⟩,.int .i64 r] 36)):=(HB1.out.trans (HB2.out.mono HB1.out.size)).alloc (zw HB1.out.size HB2.out.size) _;obtain ⟨e0,e1,e2,e3,e4⟩:=h0.lts (zw hB1 hgv.1);exact ⟨v3,rfl,⟨(HT.out.below hbA).grown HG3.out e0 (zt e1) (zt e2) (zt e3) (zt e4),by simpa using HO3.out,by rcases HW3.out with e | e <;> rw [e] <;> simp [zy],xC hbA HG3.out,by
    rcases HW3.out with e | e
    ·exact Or.inl e
    ·exact zt ⟨_,e,hbA.size⟩⟩⟩
  ·have hvb:aF (s,xx)=false:=by simpa [aF] using hvar
   rw [show s.toList.isEmpty=false by simpa using hvar] at CV;have hnm:(aD L).named r:=by rw [gS HND.out];exact hvb
   have hra2:rt a=rt r:=by rw [HRR.out,HRT.out]
   obtain ⟨l',hl',hX'⟩ : ∃l',l=(s,xx) :: l'/\aQ (aD L) (λi j=>rt i=rt j) rt ((aD L).ch r) l':=by
    have hX:=HX.out;cases hX with
    | var h1 _=>exact absurd hnm (h1 r hra2)
    | @name _ j _ l' h1 h2 h3=>
     have hjr:rt j=rt r:=h1.symm.trans hra2;refine ⟨l',by rw [HNC.out j r hjr h2 hnm,oH HND.out],?_⟩;rw [List.append_nil] at h3;exact h3.same HD.out (λ_ _ e=>e) _ (wW HD.out HNC.out (uY L) hjr h2 hnm)
   subst hl';have hlen1:out.length+(l'.length+1)<=1000000:=by simpa using hlen
   obtain ⟨C,hCe⟩ : ∃C,(aD L).ch r=C:=⟨_,rfl⟩;rw [hCe] at hX';obtain ⟨ex,hex,hexl,hexf⟩:=aJo HD.out HNC.out (uY L) (λ_ _ e=>e) hX';obtain ⟨ge,ce,rfl,_⟩:=HT.out.ends (by omega);subst hw1;go_upto_region 4 with (first
    | (go_at_call 114;refine (aB CA).mono ?_;rintro e w' ⟨rfl,rfl⟩)
    | (go_at_call 83;refine (aB CV _).mono ?_;rintro e w2 ⟨rfl,hb2⟩;have k0:=Below.at' hb2 (zz _) x0;have k1:=Below.at' hb2 (zz _) x1;have kf1:=(hb2.frozen (p:=⟨w.heap.size+1,0,none⟩) (zx _ _ x1)).trans f1;have kc0:=Below.at' hb2 (zz _) c0;have kc1:=Below.at' hb2 (zz _) c1;have kn0:=Below.at' hb2 (zz _) cn0;have HB2:=aA (HB1.out.trans (hb2.mono HB1.out.size));clear hb2)
    | go_in)
   have hw2:=HB2.out.size;have hW2:w.heap.size+1<w2.heap.size:=zx _ _ k1;have HV2:=aA (aU HV.out (HB2.out.trans ((aJ (w1:=w2.drew) ⟨1,rfl⟩).mono hw2)) (zz _));have HKP:=aA (λ(w3:World) (hg:(w2.drew.alloc (.cells #[.string s,.int .i64 xx] 36)).grownBy w3 (some gv))=>aJr hg k0 k1 kf1 (by omega) (by omega));have kA0:=λX=>Below.at' ((Below.refl w2.heap.size w2).alloc (zz _) X) (zz _) k1
   have kA1:=λX=>Below.at' ((Below.refl w2.heap.size w2).alloc (zz _) X) (zz _) k0
   have hrz:(0:Int)<=(r:Int):=Int.natCast_nonneg _;have HMID:=aA (λ(w3:World) (g3 c3:Nat) (hg:(w2.drew.alloc (.cells #[.string s,.int .i64 xx] 36)).grownBy w3 (some gv)) (ho:w3.ownsRow B1 36 2 (.slice (some ⟨g3,0,none⟩) (out.length+1) c3) (out.length+1) (aH (out++[(s,xx)]))) (hw:(zl (some ⟨g3,0,none⟩) (out.length+1) c3).ownBlock=some gv\/(zl (some ⟨g3,0,none⟩) (out.length+1) c3).ownBlock=some (w2.drew.alloc (.cells #[.string s,.int .i64 xx] 36)).heap.size)=>aVr (cv:=cv) (ex:=ex) h0 HT.out HB2.out hB1 hgv hg k0 k1 kf1 ho hw);go_cut [24] from 24 to 33 (λt wx=>t=t/\mH w B tb (.slice (some ⟨gn,0,none⟩) L.length cn) (.slice (some ⟨ge,0,none⟩) L.length ce) vl vs vm L F S B1 (.slice (some ⟨gv,0,none⟩) out.length cv) (out++[(s,xx)]) ex (w.heap.size+1) (w.heap.size+2) [] wx)
   case first=>
    refine aVp ?_;go_region_law (refine aVo (by rfl) _ _ (by rfl) B1 _ out (by rfl) (HV2.out.alloc _) (by simp [zy]) (by omega) (by simp;omega) w2.heap.size 1 (s,xx) (by rfl) (sX _ _ _ _).1 (sX _ _ _ _).2 ?_;intro v3 w3 ho3 hg3 hw3;have hv3:v3.ownBlock≠none:=(by rcases hw3 with e | e <;> rw [e] <;> simp [zy]);obtain ⟨g3,c3,rfl⟩:=aA0 ho3 hv3;obtain ⟨d0,d1,df1⟩:=HKP.out w3 hg3);all_goals
     refine aVq ?_;go_wp2_with fail;go_meet;case rel=>exact ⟨by first | rfl | trivial,HMID.out w3 g3 c3 hg3 ho3 hw3⟩
   case rest=>
    obtain ⟨_,hmid⟩:=hcut;have CP:=aA (λwx=>aCn tb r wx);have z0:=hmid.x0;have HMD:=aA hmid;have hwcb:=hmid.big;clear hmid CA CV HMID HKP HV2 kA0 kA1;have nA:=λX=>Below.at' ((Below.refl wc.heap.size wc).alloc (zz _) X) (zz _) z0
    go_wp2_with (first
     | (go_at_call 115;refine (aB CP _).mono ?_;rintro e w5 ⟨rfl,rfl⟩)
     | go_in)
    clear nA CP;obtain ⟨w6,hw6,hal,ot0,oa0,_,hs6⟩:=aJp wc (.pointer (some ⟨tb,0,none⟩)) (.int .i64 r) 107 3;rw [<-hw6];clear hw6;have hI6:=HMD.out.boxes hal hs6;have hIt:kR w6 (wc.heap.size+1) wc.heap.size tb ge L r:=kR.of hI6.tm (by omega) oa0 ot0;have htb0:=(Array.getElem?_eq_some_iff.1 h0.box).1;have hge0:=(aT h0.re ge rfl).2;have hks:∀k∈[wc.heap.size+1,wc.heap.size,tb,ge],k<w6.heap.size:=by intro k hk;simp at hk;rcases hk with rfl | rfl | rfl | rfl <;> omega
    have hnd:=HND.out;refine (wpIn_wide (n:=3)).1 ?_;refine wpIn_rangeFunc_ownG rfl (by omega) (gf:=133) (lb:=#[.pointer (some ⟨wc.heap.size+1,0,none⟩),.pointer (some ⟨wc.heap.size,0,none⟩)]) rfl trivial (enters_of Tryz.func133 (by kernel_rfl) rfl)
     (encs:=λx:nO C=>#[.int .i64 (x.1:Nat)]) (Kp:=iK [wc.heap.size+1,wc.heap.size,tb,ge]) (S:=λxs=>xs.map (λx=>x.1)=C) (Sp:=λpre=>pre.map (λx=>x.1) <+: C) (N:=C.length) (w0:=w6)
     (λl J Jx W hW hJ hJx hY h0=>by
      have:=aCy 2 l (wc.heap.size+1) wc.heap.size tb ge L r (s,xx) C hCe (by omega) hL hfew hnd J Jx _ hJ hY W (hIt.kept (aCr hW hks)) h0;simpa using this)
     (λh k=>h.trans k) (iK.put hks) (Below.refl _ _) (λ_=>rfl)
     (λpre W=>mH w B tb (.slice (some ⟨gn,0,none⟩) L.length cn) (.slice (some ⟨ge,0,none⟩) L.length ce) vl vs vm L F S B1 (.slice (some ⟨gv,0,none⟩) out.length cv) (out++[(s,xx)]) ex (w.heap.size+1) w6.heap.size (pre.map λx=>x.1) W)
     (λc pre W=>False)
     (mH.own (by omega)) (λc=>by intro _ _ _ _ h;cases h) ?h0 ?a1 ?assign ?body ?done ?stop
    case h0=>exact hI6
    case assign=>
     intro l x W K hK;gi_wp2
     exact hK
    case body=>
     rintro l pre x W hI hln;obtain ⟨v',hc',hr',hv',hm',hq1,hq2,hq3⟩:=hI.st;have hxp:x.1<L.length:=aCt hL hnd x.1 (by rw [hCe];exact x.2);obtain ⟨g,c,rfl⟩:=aA0 hr' hv';have hxl:=hexl x.1 x.2;have hpos:∀y∈C,1<=(ex y).length:=λy hy=>(hex y hy).pos
     have hroom:(out++[(s,xx)]++((pre.map λx=>x.1).map ex).flatten).length+(ex x.1).length*(ex x.1).length<=1000000:=by
      obtain ⟨q1,q2⟩:=aVt hpos;rw [hexf] at q1 q2;have q3:=aVu (pre:=pre.map λx=>x.1) (ex:=ex) (M:=l'.length+1-C.length) (λy hy=>by
       obtain ⟨z,_,rfl⟩:=List.mem_map.1 hy;have:=q2 z.1 z.2;omega)
      rw [List.length_map] at q3;have q4:=q2 x.1 x.2;have q5:=aVv (j:=pre.length) (k:=C.length) (M:=l'.length+1-C.length) (e:=(ex x.1).length) (n:=l'.length+1) hln (by omega) (by omega);have q6:out.length+(l'.length+1)*(l'.length+1)<=1000000:=by simpa using HSQ.out
      simp only [zs,zv,List.length_nil];omega
     have hBW:B1<=W.heap.size:=by have:=hI.far.size;omega
     have CJ:=aA (IH.out x.1 (ex x.1) _ _ W (by have:=HM.out;simp at this;omega) (hex x.1 x.2) hI.tm hr' hv' hBW hroom hxp);have hgl:=aT hr' g rfl;have hW6:=hI.big;have hq1':g≠w.heap.size+1:=by simpa [zy] using hq1
     have hq2':g≠w.heap.size:=by simpa [zy] using hq2
     have hq3':∀k,w6.heap.size<=k+2->k<w6.heap.size->g≠k:=λk k1 k2=>by simpa [zy] using hq3 k k1 k2
     have hkk:∀k∈[wc.heap.size+1,wc.heap.size,tb,ge],k<W.heap.size/\k≠g:=by
      intro k hk;simp at hk;rcases hk with rfl | rfl | rfl | rfl
      ·exact ⟨by omega,(hq3' _ (by omega) (by omega)).symm⟩
      ·exact ⟨by omega,(hq3' _ (by omega) (by omega)).symm⟩
      ·exact ⟨by omega,by omega⟩
      ·exact ⟨by omega,by omega⟩
     have hkn:∀k∈[wc.heap.size+1,wc.heap.size,tb,ge],k≠w.heap.size+1:=by intro k hk;simp at hk;rcases hk with rfl | rfl | rfl | rfl <;> omega
     have HNX:=aA (λ(W':World) (v2:Value) hr=>mH.next (x:=x.1) (W':=W') (v2:=v2) HT.out hI (by omega) (by omega) hc' hm' hq1' hq2' hq3' hr);have HKG:=aA (λ(W':World) (hg:W.grownBy W' (some g))=>And.intro (xB w6.heap.size hg (wY hr' rfl)) (aCu hg hkk));have HKS:=aA (λ(W':World) (hs:W.heap.size<=W'.heap.size) (v:Value) (k:Nat) hk=>(bQ W' ⟨w.heap.size+1,0,none⟩ v).block k (Nat.lt_of_lt_of_le (hkk k hk).1 hs) (by simpa using hkn k hk));have x0':=hI.x0;clear hI hr' hv' hm' hq1 hq2 hq3 hroom hpos hxl hkk hkn hq1' hq2' hq3' hgl;generalize (out++[(s,xx)]++((pre.map λx=>x.1).map ex).flatten).length=n at *;gi_wp2_with (first
      | (refine ⟨trivial,?_⟩;gi_at_call 116;refine (CallsIn.inRound l (callsIn_wide.2 (aB CJ))).mono ?_;rintro e W' ⟨v2,rfl,hres⟩;obtain ⟨g2,m2,c2,rfl⟩:=aVs hres.row hres.some;obtain ⟨hnx,hcn,hfn⟩:=HNX.out W' _ hres;obtain ⟨hkf,hkp⟩:=HKG.out W' hres.far;have hsz:=HKS.out W' hres.far.size (.slice (some ⟨g2,0,none⟩) m2 c2);have HNN:=aA hnx;have HKF:=aA hkf;have HKP:=aA hkp;have HSZ:=aA hsz;clear hnx hkf hkp hsz hres)
      | fail)
     refine ⟨HKF.out.trans (sE _ hcn _),HKP.out.trans (λk hk=>HSZ.out k hk),?_⟩;have hnn:=HNN.out;rw [show (pre.map λx=>x.1)++[x.1]=(pre++[x]).map λx=>x.1 by simp] at hnn;exact hnn
    case done=>
     rintro D ys W hD hSy hI hK;obtain ⟨v',hc',hr',hv',hm',_⟩:=hI.st;rw [hSy,hexf] at hr';have HI:=aA hI;have HR':=aA hr';have HK:=aA hK;have HM':=aA hm';clear hI hr' hK hm';go_wp2;have hK:=HK.out;refine ⟨by simp,.inl ⟨_,_,rfl,run_takeDeferred hK,?_⟩⟩;refine ⟨v',by simp [results,Tryz.results116,go_sem],?_⟩;have hot:∀r,(some D:Option Nat)=some r->∃o:Obj,W.heap[r]?=some o/\o.isCells=false:=λr e=>by cases e;exact ⟨_,hK,rfl⟩
     have hl:out++(s,xx) :: l'=out++[(s,xx)]++l':=by simp
     refine ⟨v',rfl,⟨HI.out.tm.others (grownBy_putObj' W D (.deferred none)) hot,by rw [hl];exact aJn HR'.out (grownBy_putObj' W D (.deferred none)) hot,hv',nN HI.out.far (grownBy_putObj' W D (.deferred none)) (λr e=>by cases e;omega),HM'.out⟩⟩
    case stop=>
     rintro D c pre W hD hSy hI hK;cases hI
end
section
open Go.RowKit Go.Shelf Go.WideMaps
attribute [local go_sem] Oper.semAt_some
theorem aVx{w:World}{B B':Nat}{e:TypeId}{size:Nat}{v:Value}{n:Nat}{xs:List Value}(h:w.ownsRow B' e size v n xs)(hB:B<=B'):w.ownsRow B e size v n xs:=by
 obtain ⟨h1,⟨rfl,h2⟩ | ⟨g,cap,cur,rfl,hb,hr⟩⟩:=h
 ·exact ⟨h1,Or.inl ⟨rfl,h2⟩⟩
 ·exact ⟨h1,zt ⟨g,cap,cur,rfl,zw hB hb,hr⟩⟩
structure aVy(w:World)(B tb:Nat)(vn ve vl vs vm:Value)(L:List Nd)(F:List Nat)(S:List Int)(rt:Nat->Nat)(a:Nat)(v:Value)(b:Bool)(w':World)(S':List Int):Prop where
 tm:bE w' B tb vn ve vl vs vm L F S'
 far:w.grownBy w' vs.ownBlock
 keep:bF (aD L) (λi j=>rt i=rt j) a->qR L rt S'/\∀p:Nat,S'[p]?=some (-1)↔S[p]?=some (-1)
 yes:b=true->bF (aD L) (λi j=>rt i=rt j) a/\v.ownBlock≠none/\∃l,aQ (aD L) (λi j=>rt i=rt j) rt [a] l/\l.length<=500/\w'.ownsRow w.heap.size 36 2 v l.length (aH l)
 no:b=false->v=.slice none 0 0/\(¬bF (aD L) (λi j=>rt i=rt j) a\/∃l,aQ (aD L) (λi j=>rt i=rt j) rt [a] l/\500<l.length)
theorem aVz(B tb:Nat)(vn ve vl vs vm:Value)(L:List Nd)(F:List Nat)(rt d:Nat->Nat)(hL:dE L)(hF:gD F rt d)(hN:jN L rt)(hC:dQ (aD L) (λi j=>rt i=rt j) λ_ _=>False)(S:List Int)(a:Nat)(w:World)(h:bE w B tb vn ve vl vs vm L F S)(hS:qR L rt S)(hR:∀r:Nat,S[r]?=some (-1)->eX (aD L) (λi j=>rt i=rt j) r a)(ha:a<L.length) :
  Calls zu 92 #[.pointer (some ⟨tb,0,none⟩),.int .i64 a] w λe w'=>∃v b S',e=.returned (.tuple #[v,.bool b])/\aVy w B tb vn ve vl vs vm L F S rt a v b w' S':=by
 have CS:=aA (aJ9 B tb vn ve vl vs vm L F rt d hL hF hN hC (kC S+1) S a w (by omega) h hS hR ha);have HC:=aA hC;have HF:=aA hF;have HN:=aA hN;have HVS:=aA h.rs;clear h hS hR hC hF hN;obtain ⟨iN,hN,hN0,hN1,hN2⟩:=info_parts mP;go_enter Tryz.func92,Tryz.ntmps92;go_upto_region 2 with (first
  | (go_at_call 89;refine (aB CS).mono ?_;rintro e w1 ⟨n,b,S1,rfl,hres⟩)
  | go_in)
 clear CS;cases b with
 | false=>
  obtain ⟨rfl,hno⟩:=hres.no rfl;have HRES:=aA hres;clear hres;go_wp2;go_ret2;refine ⟨.slice none 0 0,false,S1,rfl,⟨HRES.out.tm,HRES.out.far,λe=>absurd e hno,λe=>(by cases e),λ_=>⟨rfl,Or.inl hno⟩⟩⟩
 | true=>
  obtain ⟨k1,k2,k3,l,k4,k5⟩:=hres.yes rfl;obtain ⟨k,hk⟩ : ∃k,k=min 501 l.length:=⟨_,rfl⟩;rw [<-hk] at k5;subst k5;have HRES:=aA hres;have HK1:=aA k1;have HK2:=aA k2;have HK3:=aA k3;have HK4:=aA k4;have HKL:=aA hk;clear hres k1 k2 k3 k4 hk;by_cases hbig:500<k
  ·have hbi:(500:Int)<(k:Int):=by omega
   go_wp2;go_ret2;refine ⟨.slice none 0 0,false,S1,rfl,⟨HRES.out.tm,HRES.out.far,λ_=>⟨HK1.out,HK2.out⟩,λe=>(by cases e),λ_=>⟨rfl,zt ⟨l,HK4.out,by have:=HKL.out;omega⟩⟩⟩⟩
  ·have hbi:¬(500:Int)<(k:Int):=by omega
   have hkl:k=l.length:=by have:=HKL.out;omega
   subst hkl;have hl5:l.length<=500:=by omega
   have HWR:=aA (λ(w2:World) (ho:w2.ownsRow w1.heap.size 36 2 (.slice (some ⟨w1.heap.size,0,none⟩) 0 l.length) 0 []) (hg:w1.grownBy w2 none)=>aVw B tb vn ve vl vs vm L F S1 rt d hL HF.out HN.out HC.out w1 HRES.out.tm w1.heap.size (zz _) (l.length+1) a l [] _ w2 (by omega) HK4.out (HRES.out.tm.grown hg (by simp) (by cases vn.ownBlock <;> simp) (by cases ve.ownBlock <;> simp) (by cases vl.ownBlock <;> simp) (by cases vs.ownBlock <;> simp)) ho (by simp [zy]) hg.size (by have:=Nat.mul_le_mul hl5 hl5;simp;omega) ha);go_wp2_with (first
    | (at_make;refine wpList_make_own _ rfl _ _ 37 rfl w1.heap.size 36 iN (.agg #[.string ⟨#[]⟩,.int .i64 0]) 2 zq hN hN0 hN1 .i64 .i64 _ l.length rfl rfl rfl (by rw [hN2];omega) (by unfold maxLen;omega) (zz _) ?_;intro w2 ho hg;have HO:=aA ho;have HG:=aA hg;clear ho hg)
    | (go_at_call 116;refine (aB HWR w2 HO.out HG.out).mono ?_;rintro e w3 ⟨v3,rfl,hres3⟩;have HR3:=aA hres3;clear hres3)
    | go_in)
   go_ret2;have hr3:=HR3.out;have hrow:w3.ownsRow w1.heap.size 36 2 v3 l.length (aH l):=by simpa using hr3.row
   refine ⟨v3,true,S1,rfl,⟨hr3.tm,?_,λ_=>⟨HK1.out,HK2.out⟩,λ_=>⟨HK3.out,hr3.some,l,HK4.out,hl5,?_⟩,λe=>(by cases e)⟩⟩
   ·have h1:=HRES.out.far;exact nN (nN h1 HG.out (λr e=>by cases e)) hr3.far (λr e=>by simp [zy] at e;have:=h1.size;omega)
   ·exact aVx hrow HRES.out.far.size
end
end Go.Proofs.YtcldkjcpofjmhaaGreatDoor
