/- The program: what a place was made is written behind other nodes: what holds on the way. The program: what a place was made is written behind other nodes. The program: what the term at a place was made. The program: two terms are made the same. The program's terms while something is concluded from them. -/
import Derived.Test.YtbddofieljiihaaGreatDoorUSzI
import Derived.Deep.CutRange
import Derived.Lib.SliceRun
import Derived.Test.YtbddofieljiihaaGreatDoorVExtI
namespace Go.Proofs.YtbddofieljiihaaGreatDoor
open Go.RowKit Go.Shelf Go.WideMaps
set_option maxRecDepth 100000
theorem aGh (w:World) (ty:TypeId) (base:Nat) (v:Value) (l:List Nd) (hown:w.ownsRow base 106 2 v l.length (aP l)) (hv:v.ownBlock≠none) (hn:l.length≤1000000) (hbase:base≤w.heap.size) (g c:Nat) (nd:Nd) (hu:w.cell? ⟨g,0,none⟩=some (.string nd.1)) (hu1:w.cell? ⟨g,1,none⟩=some (.int .i64 nd.2)) :
  ∃v' w',(Builtin.append_ #[72,72] ty #[v,.slice (some ⟨g,0,none⟩) 1 c]).run Tryz.prog w=.ok v' w'∧w'.ownsRow base 106 2 v' (l.length+1) (aP (l++[nd]))∧w.grownBy w' v.ownBlock∧(v'.ownBlock=v.ownBlock∨v'.ownBlock=some w.heap.size):=by
 obtain ⟨i,hi,hz,hss,hy⟩:=info_parts pL
 have hnews:∀(j:Nat) (u':Value),[Value.string nd.1,Value.int .i64 nd.2][j]?=some u'→w.cell? ((⟨g,0,none⟩ : Addr).add j)=some u':=by
  intro j u' hj
  have hj0:=(List.getElem?_eq_some_iff.1 hj).1
  simp at hj0
  match j,hj0,hj with
  | 0,_,hj=>simp at hj;subst hj;exact hu
  | 1,_,hj=>simp at hj;subst hj;exact hu1
 have h1c:∀x∈[Value.string nd.1,Value.int .i64 nd.2],x.oneCell'=true:=by intro x hx;simp at hx;rcases hx with rfl | rfl <;> rfl
 obtain ⟨v',w',hr,h1,h2,_⟩:=run_append_own (P:=Tryz.prog) w base 72 ty 106 i (.agg #[.string ⟨#[]⟩,.int .i64 0]) 2 24 Tryz.underlying72 hi hz hss hy rfl (by decide) v l.length (aP l) hown ⟨g,0,none⟩ 1 c [.string nd.1,.int .i64 nd.2] rfl hnews h1c (by unfold maxLen;omega) (by omega) hbase
 exact ⟨v',w',hr,by rw [tB];exact h1,h2,aA0 w base 72 ty 106 i (.agg #[.string ⟨#[]⟩,.int .i64 0]) 2 24 Tryz.underlying72 hi hz hss hy (by decide) v l.length (aP l) hown hv ⟨g,0,none⟩ 1 c [.string nd.1,.int .i64 nd.2] rfl hnews h1c (by unfold maxLen;omega) (by omega) hr⟩
theorem aSx {ops:Array Oper} {o:Oper} {a:Act} {w:World} {K:Act→World→Prop} {Q:Exit→Act→World→Prop} {E:Prop} (hgd:o.guard=none) (s x:Operand)
  (ho:o.op=.call {callee:=.builtin .append,args:=#[s,x],argTypes:=#[72,72]}) (base:Nat) (v:Value) (l:List Nd) (hs:a.eval s=v) (hown:w.ownsRow base 106 2 v l.length (aP l)) (hv:v.ownBlock≠none) (hn:l.length≤1000000) (hbase:base≤w.heap.size)
  (g c:Nat) (nd:Nd) (hx:a.eval x=.slice (some ⟨g,0,none⟩) 1 c) (hu:w.cell? ⟨g,0,none⟩=some (.string nd.1)) (hu1:w.cell? ⟨g,1,none⟩=some (.int .i64 nd.2))
  (h:∀v' w',w'.ownsRow base 106 2 v' (l.length+1) (aP (l++[nd]))→w.grownBy w' v.ownBlock→(v'.ownBlock=v.ownBlock∨v'.ownBlock=some w.heap.size)→K (a.put o.dst v') w') :
  if Region.wanted o (yielded ops a.tmps)=true then Oper.wp Tryz.prog o a w K Q else E:=by
 have hw:Region.wanted o (yielded ops a.tmps)=true:=by simp [Region.wanted,hgd]
 rw [if_pos hw]
 obtain ⟨v',w',hr,h1,h2,h3⟩:=aGh w o.type base v l hown hv hn hbase g c nd hu hu1
 unfold Oper.wp execOp
 simp only [ho,resolve,invoke,builtin,Sem.run_bind,Sem.run_pure,Result.andThen_ok,List.map_toArray,List.map_cons,List.map_nil,hs,hx,hr]
 exact h v' w' h1 h2 h3
structure aGi (w:World) (B tb:Nat) (vn ve vl vs vm:Value) (L:List Nd) (F:List Nat) (S:List Int) (B1:Nat) (v:Value) (out:List Nd) (v':Value) (w':World):Prop where
 tm:bA w' B tb vn ve vl vs vm L F S
 row:w'.ownsRow B1 106 2 v' out.length (aP out)
 some:v'.ownBlock≠none
 far:w.grownBy w' v.ownBlock
 moved:gX w v v'
structure lM (w:World) (B tb:Nat) (vn ve vl vs vm:Value) (L:List Nd) (F:List Nat) (S:List Int) (B1:Nat) (v:Value) (out:List Nd) (ex:Nat→List Nd) (nb N0:Nat) (pre:List Nat) (W:World):Prop where
 big:N0≤W.heap.size
 tm:bA W B tb vn ve vl vs vm L F S
 st:∃v',W.cell? ⟨nb,0,none⟩=some v'∧W.ownsRow B1 106 2 v' (out++(pre.map ex).flatten).length (aP (out++(pre.map ex).flatten))∧v'.ownBlock≠none∧gX w v v'∧v'.ownBlock≠some nb∧v'.ownBlock≠some w.heap.size∧(∀k,N0≤k+2→k < N0→v'.ownBlock≠some k)
 nf:W.frozen? ⟨nb,0,none⟩=false
 far:w.grownBy W v.ownBlock
 x0:W.cell? ⟨w.heap.size,0,none⟩=some (.pointer (some ⟨tb,0,none⟩))
theorem aGj {w w':World} {B:Nat} {e:TypeId} {size:Nat} {v:Value} {n:Nat} {xs:List Value} {o:Option Nat} (h:w.ownsRow B e size v n xs) (hg:w.grownBy w' o) (ho:∀r,o=some r→∃x:Obj,w.heap[r]?=some x∧x.isCells=false):w'.ownsRow B e size v n xs:=cX h hg (tX h ho)
theorem lM.own {w:World} {B tb:Nat} {vn ve vl vs vm:Value} {L:List Nd} {F:List Nat} {S:List Int} {B1:Nat} {v:Value} {out:List Nd} {ex:Nat→List Nd} {nb N0 N:Nat} {C:List Nat} (hN:w.heap.size≤N):OwnFrom N (fun (pre:List (mK C)) W=>lM w B tb vn ve vl vs vm L F S B1 v out ex nb N0 (pre.map fun x=>x.1) W):=by
 intro pre W W' row h hg hr
 have hr':∀r,row=some r→∃o:Obj,W.heap[r]?=some o∧o.isCells=false:=fun r e=>(hr r e).2
 obtain ⟨v',h1,h2,h3⟩:=h.st
 exact ⟨Nat.le_trans h.big hg.size,h.tm.others hg hr',⟨v',cell_kept h1 hg hr',aGj h2 hg hr',h3⟩,(frozen_kept h1 hg hr').trans h.nf,mJ h.far hg (fun r e=>by have:=(hr r e).1;omega),cell_kept h.x0 hg hr'⟩
theorem aSy {G:Gr} {R:Nat→Nat→Prop} {rep:Nat→Nat} (hR:iE G R) (hN:jS G R) (hA:G.Arity) (hrep:∀i j,R i j→rep i=rep j) {x:List Nat} {l:List Nd} (h:aO G R rep x l):∃ex:Nat→List Nd,(∀i∈x,aO G R rep [i] (ex i))∧(∀i∈x,(ex i).length≤l.length)∧(x.map ex).flatten=l:=by
 induction x generalizing l with
 | nil=>cases h;exact ⟨fun _=>[],by simp,by simp,rfl⟩
 | cons i r ih=>
  obtain ⟨l1,l2,rfl,h1,h2⟩:=h.split [i] r rfl
  obtain ⟨ex,e1,e2,e3⟩:=ih h2
  have key:∀j∈r,j=i→ex j=l1:=by
   rintro j hj rfl
   exact (e1 j hj).one hR hN hA hrep _ h1
  refine ⟨fun j=>if j=i then l1 else ex j,?_,?_,?_⟩
  ·intro j hj
   by_cases e:j=i
   ·subst e;simpa using h1
   ·rcases List.mem_cons.1 hj with hj | hj
    ·exact absurd hj e
    ·simpa [e] using e1 j hj
  ·intro j hj
   by_cases e:j=i
   ·subst e;simp
   ·rcases List.mem_cons.1 hj with hj | hj
    ·exact absurd hj e
    ·have:=e2 j hj
     simp [e];omega
  ·rw [List.map_cons,List.flatten_cons,if_pos rfl,←e3]
   congr 2
   apply List.map_congr_left
   intro j hj
   by_cases e:j=i
   ·rw [if_pos e,key j hj e]
   ·rw [if_neg e]
attribute [local go_sem] Oper.semAt_some
theorem xL {w:World} {B:Nat} {e:TypeId} {size:Nat} {v:Value} {n:Nat} {xs:List Value} (h:w.ownsRow B e size v n xs) (hv:v.ownBlock≠none):∃g c,v=.slice (some ⟨g,0,none⟩) n c:=by
 obtain ⟨_,⟨rfl,_⟩ | ⟨g,cap,cur,rfl,_⟩⟩:=h
 ·exact absurd rfl hv
 ·exact ⟨g,cap,rfl⟩
theorem aGk (w:World) (x y:Value) (t1 t2:TypeId):∃W,W=(w.alloc (.cells #[x] t1)).alloc (.cells #[y] t2)∧Below w.heap.size w W∧W.cell? ⟨w.heap.size,0,none⟩=some x∧W.cell? ⟨w.heap.size+1,0,none⟩=some y∧W.frozen? ⟨w.heap.size+1,0,none⟩=false∧W.heap.size=w.heap.size+2:=by
 refine ⟨_,rfl,((Below.refl _ _).alloc (Nat.le_refl _) _).alloc (by simp) _,?_,?_,?_,by simp⟩
 ·exact Below.at' ((Below.refl _ (w.alloc (.cells #[x] t1))).alloc (Nat.le_refl _) (.cells #[y] t2)) (Nat.le_refl _) (oV w x t1).1
 ·have:=(oV (w.alloc (.cells #[x] t1)) y t2).1
  rw [World.size_alloc] at this
  exact this
 ·have:=(oV (w.alloc (.cells #[x] t1)) y t2).2
  rw [World.size_alloc] at this
  exact this
def aGl (Q:Exit→Act→World→Prop):Exit→Act→World→Prop
 | .panic _,_,_=>False
 | e,a,w=>Q e a w
theorem aSz {c:Code} {Q:Exit→Act→World→Prop} {a:Act} {w:World} (h:c.wp Tryz.prog (aGl Q) a w):c.wp Tryz.prog Q a w:=
 Code.wp_mono (fun e a w h=>by cases e <;> first | exact h | exact False.elim h) h
theorem aGm {w w2 w3:World} {gv:Nat} {t u:Value} {o:Obj} (hg:(w2.drew.alloc o).grownBy w3 (some gv)) (k0:w2.cell? ⟨w.heap.size,0,none⟩=some t) (k1:w2.cell? ⟨w.heap.size+1,0,none⟩=some u) (kf:w2.frozen? ⟨w.heap.size+1,0,none⟩=false) (h0:w.heap.size≠gv) (h1:w.heap.size+1≠gv) :
  w3.cell? ⟨w.heap.size,0,none⟩=some t∧w3.cell? ⟨w.heap.size+1,0,none⟩=some u∧w3.frozen? ⟨w.heap.size+1,0,none⟩=false:=by
 have hb:Below w2.heap.size w2 (w2.drew.alloc o):=(aJ (w1:=w2.drew) ⟨1,rfl⟩).alloc (Nat.le_refl _) o
 have j0:=Below.at' hb (Nat.le_refl _) k0
 have j1:=Below.at' hb (Nat.le_refl _) k1
 refine ⟨hg.cell j0 (by simpa using h0),hg.cell j1 (by simpa using h1),?_⟩
 rw [World.frozen?_of_block (hg.block _ (World.block_lt_of_cell? _ _ j1) (by simpa using h1)),hb.frozen (p:=⟨w.heap.size+1,0,none⟩) (World.block_lt_of_cell? _ _ k1)]
 exact kf
theorem aT0 {Q:Exit→Act→World→Prop} {a:Act} {w:World} (h:Q .normal a w):aGl Q .normal a w:=h
theorem aT1 {w w0 w2 w3:World} {B tb:Nat} {vn ve vl vs vm:Value} {L:List Nd} {F:List Nat} {S:List Int} {B1 gv cv g3 c3:Nat} {out:List Nd} {nd:Nd} {ex:Nat→List Nd} {o:Obj} (h0:bA w0 B tb vn ve vl vs vm L F S) (h:bA w B tb vn ve vl vs vm L F S) (hb:Below w.heap.size w w2) (hB1:w0.heap.size≤B1) (hgv:B1≤gv∧gv < w.heap.size) (hg:(w2.drew.alloc o).grownBy w3 (some gv)) (k0:w2.cell? ⟨w.heap.size,0,none⟩=some (.pointer (some ⟨tb,0,none⟩))) {u:Value} (k1:w2.cell? ⟨w.heap.size+1,0,none⟩=some u) (kf:w2.frozen? ⟨w.heap.size+1,0,none⟩=false)
  (ho:w3.ownsRow B1 106 2 (.slice (some ⟨g3,0,none⟩) (out.length+1) c3) (out.length+1) (aP (out++[nd]))) (hw:(Value.slice (some ⟨g3,0,none⟩) (out.length+1) c3).ownBlock=some gv∨(Value.slice (some ⟨g3,0,none⟩) (out.length+1) c3).ownBlock=some (w2.drew.alloc o).heap.size) :
  lM w B tb vn ve vl vs vm L F S B1 (.slice (some ⟨gv,0,none⟩) out.length cv) (out++[nd]) ex (w.heap.size+1) (w.heap.size+2) [] (w3.setCell ⟨w.heap.size+1,0,none⟩ (.slice (some ⟨g3,0,none⟩) (out.length+1) c3)):=by
 have hb2:Below w2.heap.size w2 (w2.drew.alloc o):=(aJ (w1:=w2.drew) ⟨1,rfl⟩).alloc (Nat.le_refl _) o
 have hbA:Below w.heap.size w (w2.drew.alloc o):=hb.trans (hb2.mono hb.size)
 obtain ⟨e0,e1,e2,e3,e4⟩:=h0.lts (Nat.le_trans hB1 hgv.1)
 have ht3:=(h.below hbA).grown hg e0 (Or.inr e1) (Or.inr e2) (Or.inr e3) (Or.inr e4)
 obtain ⟨d0,d1,df⟩:=aGm hg k0 k1 kf (by omega) (by omega)
 have hlt2:w.heap.size+1 < w2.heap.size:=World.block_lt_of_cell? _ _ k1
 have hs3:=hg.size
 have hsA:(w2.drew.alloc o).heap.size=w2.heap.size+1:=by simp
 have hg3:g3=gv∨g3=w2.heap.size+1:=by
  simp only [Value.ownBlock,Option.some.injEq] at hw
  rw [hsA] at hw
  exact hw
 have hne:g3≠w.heap.size+1∧g3≠w.heap.size:=by omega
 have hss:(w3.setCell ⟨w.heap.size+1,0,none⟩ (.slice (some ⟨g3,0,none⟩) (out.length+1) c3)).heap.size=w3.heap.size:=by simp [World.setCell]
 refine ⟨by omega,ht3.boxed h (by omega) 0 _,⟨_,World.cell?_setCell_same' _ _ _ (by rw [d1];rfl),?_,by simp [Value.ownBlock],?_,by simpa [Value.ownBlock] using hne.1,by simpa [Value.ownBlock] using hne.2,?_⟩,?_,lI (uM hbA hg) (by omega) 0 _,fH d0 (by omega)⟩
 ·have:=qX ho (p:=⟨w.heap.size+1,0,none⟩) (by simp [Value.ownBlock];omega) (.slice (some ⟨g3,0,none⟩) (out.length+1) c3)
  simpa using this
 ·rcases hg3 with e | e
  ·exact Or.inl (by simp [Value.ownBlock,e])
  ·exact Or.inr ⟨g3,rfl,by omega⟩
 ·intro k h1 h2 e
  simp [Value.ownBlock] at e
  omega
 ·rw [World.frozen?_setCell];exact df
theorem aT2 {w:World} {B:Nat} {e:TypeId} {size:Nat} {v:Value} {n:Nat} {xs:List Value} (h:w.ownsRow B e size v n xs) (hv:v.ownBlock≠none):∃g m c,v=.slice (some ⟨g,0,none⟩) m c:=by
 obtain ⟨g,c,h⟩:=xL h hv
 exact ⟨g,_,c,h⟩
theorem aT3 {C:List Nat} {ex:Nat→List Nd} (h:∀y∈C,1≤(ex y).length):C.length≤((C.map ex).flatten).length∧∀x∈C,(ex x).length+C.length≤((C.map ex).flatten).length+1:=by
 induction C with
 | nil=>simp
 | cons y C ih=>
  obtain ⟨h1,h2⟩:=ih (fun z hz=>h z (List.mem_cons_of_mem _ hz))
  have hy:=h y (by simp)
  simp only [List.map_cons,List.flatten_cons,List.length_append,List.length_cons]
  refine ⟨by omega,fun x hx=>?_⟩
  rcases List.mem_cons.1 hx with rfl | hx
  ·omega
  ·have:=h2 x hx;omega
theorem aT4 {pre:List Nat} {ex:Nat→List Nd} {M:Nat} (h:∀y∈pre,(ex y).length≤M):((pre.map ex).flatten).length≤pre.length * M:=by
 induction pre with
 | nil=>simp
 | cons y C ih=>
  have h1:=ih (fun z hz=>h z (List.mem_cons_of_mem _ hz))
  have h2:=h y (by simp)
  simp only [List.map_cons,List.flatten_cons,List.length_append,List.length_cons,Nat.add_mul]
  omega
theorem aT5 {j k M e n:Nat} (hk:j < k) (hn:k+M=n) (he:e≤M):1+j * M+e * e≤n * n:=by
 subst hn
 have h1:e * e≤M * M:=Nat.mul_le_mul he he
 have h2:j * M≤k * M:=Nat.mul_le_mul_right _ (Nat.le_of_lt hk)
 have h3:0 < k * k:=Nat.mul_pos (by omega) (by omega)
 have h4:(k+M) * (k+M)=k * k+k * M+(k * M+M * M):=by rw [Nat.add_mul,Nat.mul_add,Nat.mul_add,Nat.mul_comm M k]
 rw [h4]
 omega
theorem lM.boxes {w W W6:World} {B tb:Nat} {vn ve vl vs vm:Value} {L:List Nd} {F:List Nat} {S:List Int} {B1:Nat} {v:Value} {out:List Nd} {ex:Nat→List Nd} {nb N0:Nat} (h:lM w B tb vn ve vl vs vm L F S B1 v out ex nb N0 [] W) (hb:Below W.heap.size W W6) (hs:W6.heap.size=W.heap.size+2):lM w B tb vn ve vl vs vm L F S B1 v out ex nb W6.heap.size [] W6:=by
 obtain ⟨v',h1,h2,h3,h4,h5,h6,h7⟩:=h.st
 refine ⟨Nat.le_refl _,h.tm.below hb,⟨v',Below.at' hb (Nat.le_refl _) h1,aZ h2 hb (Nat.le_refl _),h3,h4,h5,h6,?_⟩,(hb.frozen (p:=⟨nb,0,none⟩) (World.block_lt_of_cell? _ _ h1)).trans h.nf,aEj h.far (gX.refl _ _) ?_,Below.at' hb (Nat.le_refl _) h.x0⟩
 ·intro k k1 k2 e
  have:=(bY h2 k e).2
  omega
 ·exact fF hb
theorem lM.next {w W W':World} {B tb:Nat} {vn ve vl vs vm:Value} {L:List Nd} {F:List Nat} {S:List Int} {B1:Nat} {v:Value} {out:List Nd} {ex:Nat→List Nd} {nb N0 x:Nat} {pre:List Nat} (h0:bA w B tb vn ve vl vs vm L F S) (h:lM w B tb vn ve vl vs vm L F S B1 v out ex nb N0 pre W) (hnb:w.heap.size < nb) (hN:nb < N0) {g n c:Nat} {v2:Value} (hc:W.cell? ⟨nb,0,none⟩=some (.slice (some ⟨g,0,none⟩) n c)) (hm:gX w v (.slice (some ⟨g,0,none⟩) n c)) (h1:g≠nb) (h2:g≠w.heap.size) (h3:∀k,N0≤k+2→k < N0→g≠k)
  (hr:aGi W B tb vn ve vl vs vm L F S B1 (.slice (some ⟨g,0,none⟩) n c) (out++(pre.map ex).flatten++ex x) v2 W'):lM w B tb vn ve vl vs vm L F S B1 v out ex nb N0 (pre++[x]) (W'.setCell ⟨nb,0,none⟩ v2)∧W'.cell? ⟨nb,0,none⟩=some (.slice (some ⟨g,0,none⟩) n c)∧W'.frozen? ⟨nb,0,none⟩=false:=by
 have hfar:W.grownBy W' (some g):=hr.far
 have hsz:=hfar.size
 have hbig:=h.big
 have hd:=hfar.cell hc (by simp;omega)
 have hdf:W'.frozen? ⟨nb,0,none⟩=false:=(World.frozen?_of_block (hfar.block nb (World.block_lt_of_cell? W ⟨nb,0,none⟩ hc) (by simp;omega))).trans h.nf
 have hv2:v2.ownBlock=some g∨∃k,v2.ownBlock=some k∧W.heap.size≤k:=hr.moved
 have hss:(W'.setCell ⟨nb,0,none⟩ v2).heap.size=W'.heap.size:=by simp [World.setCell]
 have hn2:v2.ownBlock≠some nb:=by
  rcases hv2 with e | ⟨k,e,hk⟩ <;> rw [e] <;> simp <;> omega
 have hn3:v2.ownBlock≠some w.heap.size:=by
  rcases hv2 with e | ⟨k,e,hk⟩ <;> rw [e] <;> simp <;> omega
 have hws:=h.far.size
 refine ⟨⟨by omega,hr.tm.boxed h0 (by omega) 0 _,⟨v2,World.cell?_setCell_same' _ _ _ (by rw [hd];rfl),?_,hr.some,hm.trans hr.moved hws,hn2,hn3,?_⟩,?_,lI (aEj h.far hm hr.far) (by omega) 0 _,fH (hfar.cell h.x0 (by simp;omega)) (by omega)⟩,hd,hdf⟩
 ·have:=qX hr.row (p:=⟨nb,0,none⟩) (fun e=>hn2 e.symm) v2
  have e:out++((pre++[x]).map ex).flatten=out++(pre.map ex).flatten++ex x:=by simp
  rw [e]
  exact this
 ·intro k k1 k2
  rcases hv2 with e | ⟨k',e,hk⟩ <;> rw [e] <;> simp
  ·exact h3 k k1 k2
  ·omega
 ·rw [World.frozen?_setCell];exact hdf
set_option maxHeartbeats 2000000 in
theorem aT6 (B tb:Nat) (vn ve vl vs vm:Value) (L:List Nd) (F:List Nat) (S:List Int) (rt d:Nat→Nat) (hL:eA L) (hF:eZ F rt d) (hN:iJ L rt) (hC:dE (aE L) (fun i j=>rt i=rt j) fun _ _=>False) (w0:World) (h0:bA w0 B tb vn ve vl vs vm L F S) (B1:Nat) (hB1:w0.heap.size≤B1) :
  ∀(m:Nat) (a:Nat) (l out:List Nd) (v:Value) (w:World),l.length < m→aO (aE L) (fun i j=>rt i=rt j) rt [a] l→bA w B tb vn ve vl vs vm L F S→w.ownsRow B1 106 2 v out.length (aP out)→v.ownBlock≠none→B1≤w.heap.size→out.length+l.length * l.length≤1000000→a < L.length→
  Calls Tryz.prog 146 #[.pointer (some ⟨tb,0,none⟩),v,.int .i64 a] w fun e w'=>∃v',e=.returned v'∧aGi w B tb vn ve vl vs vm L F S B1 v (out++l) v' w':=by
 obtain ⟨hD,hNC⟩:=aG2 hC (oR rt)
 intro m
 induction m with
 | zero=>intro a l out v w hm;omega
 | succ m ih=>
  intro a l out v w hm hX h hv hvn hBw hsq ha
  have hlen:out.length+l.length≤1000000:=Nat.le_trans (Nat.add_le_add_left (Nat.le_mul_self _) _) hsq
  have HSQ:=aA hsq
  clear hsq
  obtain ⟨gv,cv,rfl⟩:=xL hv hvn
  have hgv:=bY hv gv rfl
  obtain ⟨w1,hw1,hb1,x0,x1,f1,hs1⟩:=aGk w (.pointer (some ⟨tb,0,none⟩)) (.slice (some ⟨gv,0,none⟩) out.length cv) 162 72
  have CA:=aA (aA8 B tb vn ve vl vs vm L F S rt d a w1 (h.below hb1) hF ha)
  have hra:rt a < L.length:=by rw [←h.lf];exact hF.rt_lt (by rw [h.lf];exact ha)
  have hrr:=hF.rt_rt a
  obtain ⟨nd,hnd⟩ : ∃n,L[rt a]?=some n:=⟨L[rt a],List.getElem?_eq_getElem hra⟩
  obtain ⟨gn,cn,rfl,c0,c1⟩:=(h.below hb1).node hnd
  have cn0:=(h.below hb1).c0
  have hfew:=h.few
  have HT:=aA h
  have HB1:=aA hb1
  have HX:=aA hX
  have HV:=aA hv
  have HD:=aA hD
  have HNC:=aA hNC
  have HN:=aA hN
  have HF:=aA hF
  have IH:=aA ih
  have HM:=aA hm
  obtain ⟨s,xx⟩:=nd
  simp only at c0 c1
  obtain ⟨r,hr⟩ : ∃r,r=rt a:=⟨_,rfl⟩
  rw [←hr] at hra hrr hnd c0 c1 CA
  have HRT:=aA hr
  have HRR:=aA hrr
  have HND:=aA hnd
  have hri:(r:Int) < (L.length:Int):=by omega
  have CV:=aA (fun wx=>nE s xx wx)
  clear h hb1 hX hv hvn hD hNC hN hF ih hm hr hrr hnd hC
  refine (callsIn_wide (n:=3)).1 ?_
  refine callsIn_of_wp_marks Tryz.func146 rfl trivial ?_
  simp only [Tryz.ntmps146,List.size_toArray,List.length_cons,List.length_nil,Nat.reduceAdd,Nat.reduceSub,Array.replicate_succ,Array.replicate_zero,List.push_toArray,List.append_toArray,List.nil_append,List.cons_append]
  refine wpIn_wide.2 ?_
  by_cases hvar:s.toList.isEmpty=true
  ·rw [hvar] at CV
   have hvb:aH (s,xx)=true:=hvar
   have hnn:∀j,rt r=rt j→¬(aE L).named j:=by
    intro j e hj
    have:=HN.out j hj
    rw [←e,HRR.out,fV HND.out,hvb] at this
    cases this
   have hl:l=[(⟨#[]⟩,(r:Int))]:=by
    have h1:aO (aE L) (fun i j=>rt i=rt j) rt [a] [(⟨#[]⟩,((rt a:Nat):Int))]:=aO.var (fun j e hj=>hnn j (by rw [HRR.out,HRT.out];exact e) hj) aO.nil
    have h2:=HX.out.one HD.out HNC.out (sD L) (fun _ _ e=>e) _ h1
    rw [h2,HRT.out]
   subst hl
   have HAP:=aA (fun (w2:World) (hb2:Below w1.heap.size w1 w2)=>aGh (w2.alloc (.cells #[.string ⟨#[]⟩,.int .i64 r] 106)) 72 B1 _ out ((aZ (aZ HV.out HB1.out (Nat.le_refl _)) hb2 (Nat.le_refl _)).alloc _) (by simp [Value.ownBlock]) (by omega) (by have:=HB1.out.size;have:=hb2.size;simp;omega) w2.heap.size 1 (⟨#[]⟩,(r:Int)) (wI _ _ _ _).1 (wI _ _ _ _).2)
   subst hw1
   clear hnn hvb
   go_wp2_with (first
    | (go_at_call 144;refine (aB CA).mono ?_;rintro e w' ⟨rfl,rfl⟩)
    | (go_at_call 49;refine (aB CV _).mono ?_;rintro e w2 ⟨rfl,hb2⟩;have k1:=Below.at' hb2 (Nat.le_refl _) x1;have HB2:=aA hb2;obtain ⟨v3,w3,hr3,ho3,hg3,hw3⟩:=HAP.out w2 hb2;have HR3:=aA hr3;have HO3:=aA ho3;have HG3:=aA hg3;have HW3:=aA hw3;clear hb2 hr3 ho3 hg3 hw3)
    | (at_builtin;refine Go.Lib.wpList_append_run _ rfl _ _ _ _ rfl _ _ rfl rfl _ _ (aB HR3) ?_)
    | go_in)
   refine rG (v:=v3) rfl (by simp [results,Tryz.results146,go_sem]) ?_
   have hbA:Below w.heap.size w (w2.alloc (.cells #[.string ⟨#[]⟩,.int .i64 r] 106)):=(HB1.out.trans (HB2.out.mono HB1.out.size)).alloc (Nat.le_trans HB1.out.size HB2.out.size) _
   obtain ⟨e0,e1,e2,e3,e4⟩:=h0.lts (Nat.le_trans hB1 hgv.1)
   exact ⟨v3,rfl,⟨(HT.out.below hbA).grown HG3.out e0 (Or.inr e1) (Or.inr e2) (Or.inr e3) (Or.inr e4),by simpa using HO3.out,by rcases HW3.out with e | e <;> rw [e] <;> simp [Value.ownBlock],uM hbA HG3.out,by
    rcases HW3.out with e | e
    ·exact Or.inl e
    ·exact Or.inr ⟨_,e,hbA.size⟩⟩⟩
  ·have hvb:aH (s,xx)=false:=by simpa [aH] using hvar
   rw [show s.toList.isEmpty=false by simpa using hvar] at CV
   have hnm:(aE L).named r:=by rw [fV HND.out];exact hvb
   have hra2:rt a=rt r:=by rw [HRR.out,HRT.out]
   obtain ⟨l',hl',hX'⟩ : ∃l',l=(s,xx) :: l'∧aO (aE L) (fun i j=>rt i=rt j) rt ((aE L).ch r) l':=by
    have hX:=HX.out
    cases hX with
    | var h1 _=>exact absurd hnm (h1 r hra2)
    | @name _ j _ l' h1 h2 h3=>
     have hjr:rt j=rt r:=h1.symm.trans hra2
     refine ⟨l',by rw [HNC.out j r hjr h2 hnm,nT HND.out],?_⟩
     rw [List.append_nil] at h3
     exact h3.same HD.out (fun _ _ e=>e) _ (aAj HD.out HNC.out (sD L) hjr h2 hnm)
   subst hl'
   have hlen1:out.length+(l'.length+1)≤1000000:=by simpa using hlen
   obtain ⟨C,hCe⟩ : ∃C,(aE L).ch r=C:=⟨_,rfl⟩
   rw [hCe] at hX'
   obtain ⟨ex,hex,hexl,hexf⟩:=aSy HD.out HNC.out (sD L) (fun _ _ e=>e) hX'
   obtain ⟨ge,ce,rfl,_⟩:=HT.out.ends (by omega)
   subst hw1
   go_upto_region 4 with (first
    | (go_at_call 144;refine (aB CA).mono ?_;rintro e w' ⟨rfl,rfl⟩)
    | (go_at_call 49;refine (aB CV _).mono ?_;rintro e w2 ⟨rfl,hb2⟩;have k0:=Below.at' hb2 (Nat.le_refl _) x0;have k1:=Below.at' hb2 (Nat.le_refl _) x1;have kf1:=(hb2.frozen (p:=⟨w.heap.size+1,0,none⟩) (World.block_lt_of_cell? _ _ x1)).trans f1;have kc0:=Below.at' hb2 (Nat.le_refl _) c0;have kc1:=Below.at' hb2 (Nat.le_refl _) c1;have kn0:=Below.at' hb2 (Nat.le_refl _) cn0;have HB2:=aA (HB1.out.trans (hb2.mono HB1.out.size));clear hb2)
    | go_in)
   have hw2:=HB2.out.size
   have hW2:w.heap.size+1 < w2.heap.size:=World.block_lt_of_cell? _ _ k1
   have HV2:=aA (aZ HV.out (HB2.out.trans ((aJ (w1:=w2.drew) ⟨1,rfl⟩).mono hw2)) (Nat.le_refl _))
   have HKP:=aA (fun (w3:World) (hg:(w2.drew.alloc (.cells #[.string s,.int .i64 xx] 106)).grownBy w3 (some gv))=>aGm hg k0 k1 kf1 (by omega) (by omega))
   have kA0:=fun X=>Below.at' ((Below.refl w2.heap.size w2).alloc (Nat.le_refl _) X) (Nat.le_refl _) k1
   have kA1:=fun X=>Below.at' ((Below.refl w2.heap.size w2).alloc (Nat.le_refl _) X) (Nat.le_refl _) k0
   have hrz:(0:Int)≤(r:Int):=Int.natCast_nonneg _
   have HMID:=aA (fun (w3:World) (g3 c3:Nat) (hg:(w2.drew.alloc (.cells #[.string s,.int .i64 xx] 106)).grownBy w3 (some gv)) (ho:w3.ownsRow B1 106 2 (.slice (some ⟨g3,0,none⟩) (out.length+1) c3) (out.length+1) (aP (out++[(s,xx)]))) (hw:(Value.slice (some ⟨g3,0,none⟩) (out.length+1) c3).ownBlock=some gv∨(Value.slice (some ⟨g3,0,none⟩) (out.length+1) c3).ownBlock=some (w2.drew.alloc (.cells #[.string s,.int .i64 xx] 106)).heap.size)=>aT1 (cv:=cv) (ex:=ex) h0 HT.out HB2.out hB1 hgv hg k0 k1 kf1 ho hw)
   go_cut [24] from 24 to 33 (fun t wx=>t=t∧lM w B tb (.slice (some ⟨gn,0,none⟩) L.length cn) (.slice (some ⟨ge,0,none⟩) L.length ce) vl vs vm L F S B1 (.slice (some ⟨gv,0,none⟩) out.length cv) (out++[(s,xx)]) ex (w.heap.size+1) (w.heap.size+2) [] wx)
   case first=>
    refine aSz ?_
    go_region_law (refine aSx (by rfl) _ _ (by rfl) B1 _ out (by rfl) (HV2.out.alloc _) (by simp [Value.ownBlock]) (by omega) (by simp;omega) w2.heap.size 1 (s,xx) (by rfl) (wI _ _ _ _).1 (wI _ _ _ _).2 ?_;intro v3 w3 ho3 hg3 hw3;have hv3:v3.ownBlock≠none:=(by rcases hw3 with e | e <;> rw [e] <;> simp [Value.ownBlock]);obtain ⟨g3,c3,rfl⟩:=xL ho3 hv3;obtain ⟨d0,d1,df1⟩:=HKP.out w3 hg3)
    all_goals
     refine aT0 ?_
     go_wp2_with fail
     go_meet
     case rel=>exact ⟨by first | rfl | trivial,HMID.out w3 g3 c3 hg3 ho3 hw3⟩
   case rest=>
    obtain ⟨_,hmid⟩:=hcut
    have CP:=aA (fun wx=>aB3 tb r wx)
    have z0:=hmid.x0
    have HMD:=aA hmid
    have hwcb:=hmid.big
    clear hmid CA CV HMID HKP HV2 kA0 kA1
    have nA:=fun X=>Below.at' ((Below.refl wc.heap.size wc).alloc (Nat.le_refl _) X) (Nat.le_refl _) z0
    go_wp2_with (first
     | (go_at_call 145;refine (aB CP _).mono ?_;rintro e w5 ⟨rfl,rfl⟩)
     | go_in)
    clear nA CP
    obtain ⟨w6,hw6,hal,ot0,oa0,_,hs6⟩:=aGk wc (.pointer (some ⟨tb,0,none⟩)) (.int .i64 r) 162 3
    rw [←hw6]
    clear hw6
    have hI6:=HMD.out.boxes hal hs6
    have hIt:jV w6 (wc.heap.size+1) wc.heap.size tb ge L r:=jV.of hI6.tm (by omega) oa0 ot0
    have htb0:=(Array.getElem?_eq_some_iff.1 h0.box).1
    have hge0:=(bY h0.re ge rfl).2
    have hks:∀k∈[wc.heap.size+1,wc.heap.size,tb,ge],k < w6.heap.size:=by
     intro k hk
     simp at hk
     rcases hk with rfl | rfl | rfl | rfl <;> omega
    have hnd:=HND.out
    refine (wpIn_wide (n:=3)).1 ?_
    refine wpIn_rangeFunc_ownG rfl (by omega) (gf:=149) (lb:=#[.pointer (some ⟨wc.heap.size+1,0,none⟩),.pointer (some ⟨wc.heap.size,0,none⟩)]) rfl trivial (enters_of Tryz.func149 (by kernel_rfl) rfl)
     (encs:=fun x:mK C=>#[.int .i64 (x.1:Nat)]) (Kp:=gE [wc.heap.size+1,wc.heap.size,tb,ge]) (S:=fun xs=>xs.map (fun x=>x.1)=C) (Sp:=fun pre=>pre.map (fun x=>x.1) <+: C) (N:=C.length) (w0:=w6)
     (fun l J Jx W hW hJ hJx hY h0=>by
      have:=aBc 2 l (wc.heap.size+1) wc.heap.size tb ge L r (s,xx) C hCe (by omega) hL hfew hnd J Jx _ hJ hY W (hIt.kept (aB5 hW hks)) h0
      simpa using this)
     (fun h k=>h.trans k) (gE.put hks) (Below.refl _ _) (fun _=>rfl)
     (fun pre W=>lM w B tb (.slice (some ⟨gn,0,none⟩) L.length cn) (.slice (some ⟨ge,0,none⟩) L.length ce) vl vs vm L F S B1 (.slice (some ⟨gv,0,none⟩) out.length cv) (out++[(s,xx)]) ex (w.heap.size+1) w6.heap.size (pre.map fun x=>x.1) W)
     (fun c pre W=>False)
     (lM.own (by omega)) (fun c=>by intro _ _ _ _ h;cases h) ?h0 ?a1 ?assign ?body ?done ?stop
    case h0=>exact hI6
    case assign=>
     intro l x W K hK
     gi_wp2
     exact hK
    case body=>
     rintro l pre x W hI hln
     obtain ⟨v',hc',hr',hv',hm',hq1,hq2,hq3⟩:=hI.st
     have hxp:x.1 < L.length:=aB7 hL hnd x.1 (by rw [hCe];exact x.2)
     obtain ⟨g,c,rfl⟩:=xL hr' hv'
     have hxl:=hexl x.1 x.2
     have hpos:∀y∈C,1≤(ex y).length:=fun y hy=>(hex y hy).pos
     have hroom:(out++[(s,xx)]++((pre.map fun x=>x.1).map ex).flatten).length+(ex x.1).length * (ex x.1).length≤1000000:=by
      obtain ⟨q1,q2⟩:=aT3 hpos
      rw [hexf] at q1 q2
      have q3:=aT4 (pre:=pre.map fun x=>x.1) (ex:=ex) (M:=l'.length+1 - C.length) (fun y hy=>by
       obtain ⟨z,_,rfl⟩:=List.mem_map.1 hy
       have:=q2 z.1 z.2
       omega)
      rw [List.length_map] at q3
      have q4:=q2 x.1 x.2
      have q5:=aT5 (j:=pre.length) (k:=C.length) (M:=l'.length+1 - C.length) (e:=(ex x.1).length) (n:=l'.length+1) hln (by omega) (by omega)
      have q6:out.length+(l'.length+1) * (l'.length+1)≤1000000:=by simpa using HSQ.out
      simp only [List.length_append,List.length_cons,List.length_nil]
      omega
     have hBW:B1≤W.heap.size:=by have:=hI.far.size;omega
     have CJ:=aA (IH.out x.1 (ex x.1) _ _ W (by have:=HM.out;simp at this;omega) (hex x.1 x.2) hI.tm hr' hv' hBW hroom hxp)
     have hgl:=bY hr' g rfl
     have hW6:=hI.big
     have hq1':g≠w.heap.size+1:=by simpa [Value.ownBlock] using hq1
     have hq2':g≠w.heap.size:=by simpa [Value.ownBlock] using hq2
     have hq3':∀k,w6.heap.size≤k+2→k < w6.heap.size→g≠k:=fun k k1 k2=>by simpa [Value.ownBlock] using hq3 k k1 k2
     have hkk:∀k∈[wc.heap.size+1,wc.heap.size,tb,ge],k < W.heap.size∧k≠g:=by
      intro k hk
      simp at hk
      rcases hk with rfl | rfl | rfl | rfl
      ·exact ⟨by omega,(hq3' _ (by omega) (by omega)).symm⟩
      ·exact ⟨by omega,(hq3' _ (by omega) (by omega)).symm⟩
      ·exact ⟨by omega,by omega⟩
      ·exact ⟨by omega,by omega⟩
     have hkn:∀k∈[wc.heap.size+1,wc.heap.size,tb,ge],k≠w.heap.size+1:=by
      intro k hk
      simp at hk
      rcases hk with rfl | rfl | rfl | rfl <;> omega
     have HNX:=aA (fun (W':World) (v2:Value) hr=>lM.next (x:=x.1) (W':=W') (v2:=v2) HT.out hI (by omega) (by omega) hc' hm' hq1' hq2' hq3' hr)
     have HKG:=aA (fun (W':World) (hg:W.grownBy W' (some g))=>And.intro (uL w6.heap.size hg (tW hr' rfl)) (aB8 hg hkk))
     have HKS:=aA (fun (W':World) (hs:W.heap.size≤W'.heap.size) (v:Value) (k:Nat) hk=>(cB W' ⟨w.heap.size+1,0,none⟩ v).block k (Nat.lt_of_lt_of_le (hkk k hk).1 hs) (by simpa using hkn k hk))
     have x0':=hI.x0
     clear hI hr' hv' hm' hq1 hq2 hq3 hroom hpos hxl hkk hkn hq1' hq2' hq3' hgl
     generalize (out++[(s,xx)]++((pre.map fun x=>x.1).map ex).flatten).length=n at *
     gi_wp2_with (first
      | (refine ⟨trivial,?_⟩;gi_at_call 146;refine (CallsIn.inRound l (callsIn_wide.2 (aB CJ))).mono ?_;rintro e W' ⟨v2,rfl,hres⟩;obtain ⟨g2,m2,c2,rfl⟩:=aT2 hres.row hres.some;obtain ⟨hnx,hcn,hfn⟩:=HNX.out W' _ hres;obtain ⟨hkf,hkp⟩:=HKG.out W' hres.far;have hsz:=HKS.out W' hres.far.size (.slice (some ⟨g2,0,none⟩) m2 c2);have HNN:=aA hnx;have HKF:=aA hkf;have HKP:=aA hkp;have HSZ:=aA hsz;clear hnx hkf hkp hsz hres)
      | fail)
     refine ⟨HKF.out.trans (qB _ hcn _),HKP.out.trans (fun k hk=>HSZ.out k hk),?_⟩
     have hnn:=HNN.out
     rw [show (pre.map fun x=>x.1)++[x.1]=(pre++[x]).map fun x=>x.1 by simp] at hnn
     exact hnn
    case done=>
     rintro D ys W hD hSy hI hK
     obtain ⟨v',hc',hr',hv',hm',_⟩:=hI.st
     rw [hSy,hexf] at hr'
     have HI:=aA hI
     have HR':=aA hr'
     have HK:=aA hK
     have HM':=aA hm'
     clear hI hr' hK hm'
     go_wp2
     have hK:=HK.out
     refine ⟨by simp,.inl ⟨_,_,rfl,run_takeDeferred hK,?_⟩⟩
     refine ⟨v',by simp [results,Tryz.results146,go_sem],?_⟩
     have hot:∀r,(some D:Option Nat)=some r→∃o:Obj,W.heap[r]?=some o∧o.isCells=false:=fun r e=>by cases e;exact ⟨_,hK,rfl⟩
     have hl:out++(s,xx) :: l'=out++[(s,xx)]++l':=by simp
     refine ⟨v',rfl,⟨HI.out.tm.others (grownBy_putObj' W D (.deferred none)) hot,by rw [hl];exact aGj HR'.out (grownBy_putObj' W D (.deferred none)) hot,hv',mJ HI.out.far (grownBy_putObj' W D (.deferred none)) (fun r e=>by cases e;omega),HM'.out⟩⟩
    case stop=>
     rintro D c pre W hD hSy hI hK
     cases hI
end Go.Proofs.YtbddofieljiihaaGreatDoor
namespace Go.Proofs.YtbddofieljiihaaGreatDoor
open Go.RowKit Go.Shelf Go.WideMaps
set_option maxRecDepth 100000
attribute [local go_sem] Oper.semAt_some
theorem aT7 {w:World} {B B':Nat} {e:TypeId} {size:Nat} {v:Value} {n:Nat} {xs:List Value} (h:w.ownsRow B' e size v n xs) (hB:B≤B'):w.ownsRow B e size v n xs:=by
 obtain ⟨h1,⟨rfl,h2⟩ | ⟨g,cap,cur,rfl,hb,hr⟩⟩:=h
 ·exact ⟨h1,Or.inl ⟨rfl,h2⟩⟩
 ·exact ⟨h1,Or.inr ⟨g,cap,cur,rfl,Nat.le_trans hB hb,hr⟩⟩
structure aT8 (w:World) (B tb:Nat) (vn ve vl vs vm:Value) (L:List Nd) (F:List Nat) (S:List Int) (rt:Nat→Nat) (a:Nat) (v:Value) (b:Bool) (w':World) (S':List Int):Prop where
 tm:bA w' B tb vn ve vl vs vm L F S'
 far:w.grownBy w' vs.ownBlock
 keep:bS (aE L) (fun i j=>rt i=rt j) a→oW L rt S'∧∀p:Nat,S'[p]?=some (-1)↔S[p]?=some (-1)
 yes:b=true→bS (aE L) (fun i j=>rt i=rt j) a∧v.ownBlock≠none∧∃l,aO (aE L) (fun i j=>rt i=rt j) rt [a] l∧l.length≤500∧w'.ownsRow w.heap.size 106 2 v l.length (aP l)
 no:b=false→v=.slice none 0 0∧(¬bS (aE L) (fun i j=>rt i=rt j) a∨∃l,aO (aE L) (fun i j=>rt i=rt j) rt [a] l∧500 < l.length)
set_option maxHeartbeats 1000000 in
theorem aT9 (B tb:Nat) (vn ve vl vs vm:Value) (L:List Nd) (F:List Nat) (rt d:Nat→Nat) (hL:eA L) (hF:eZ F rt d) (hN:iJ L rt) (hC:dE (aE L) (fun i j=>rt i=rt j) fun _ _=>False) (S:List Int) (a:Nat) (w:World) (h:bA w B tb vn ve vl vs vm L F S) (hS:oW L rt S) (hR:∀r:Nat,S[r]?=some (-1)→eK (aE L) (fun i j=>rt i=rt j) r a) (ha:a < L.length) :
  Calls Tryz.prog 135 #[.pointer (some ⟨tb,0,none⟩),.int .i64 a] w fun e w'=>∃v b S',e=.returned (.tuple #[v,.bool b])∧aT8 w B tb vn ve vl vs vm L F S rt a v b w' S':=by
 have CS:=aA (aGg B tb vn ve vl vs vm L F rt d hL hF hN hC (jC S+1) S a w (by omega) h hS hR ha)
 have HC:=aA hC
 have HF:=aA hF
 have HN:=aA hN
 have HVS:=aA h.rs
 clear h hS hR hC hF hN
 obtain ⟨iN,hN,hN0,hN1,hN2⟩:=info_parts pL
 go_enter Tryz.func135,Tryz.ntmps135
 go_upto_region 2 with (first
  | (go_at_call 133;refine (aB CS).mono ?_;rintro e w1 ⟨n,b,S1,rfl,hres⟩)
  | go_in)
 clear CS
 cases b with
 | false=>
  obtain ⟨rfl,hno⟩:=hres.no rfl
  have HRES:=aA hres
  clear hres
  go_wp2
  go_ret2
  refine ⟨.slice none 0 0,false,S1,rfl,⟨HRES.out.tm,HRES.out.far,fun e=>absurd e hno,fun e=>(by cases e),fun _=>⟨rfl,Or.inl hno⟩⟩⟩
 | true=>
  obtain ⟨k1,k2,k3,l,k4,k5⟩:=hres.yes rfl
  obtain ⟨k,hk⟩ : ∃k,k=min 501 l.length:=⟨_,rfl⟩
  rw [←hk] at k5
  subst k5
  have HRES:=aA hres
  have HK1:=aA k1
  have HK2:=aA k2
  have HK3:=aA k3
  have HK4:=aA k4
  have HKL:=aA hk
  clear hres k1 k2 k3 k4 hk
  by_cases hbig:500 < k
  ·have hbi:(500:Int) < (k:Int):=by omega
   go_wp2
   go_ret2
   refine ⟨.slice none 0 0,false,S1,rfl,⟨HRES.out.tm,HRES.out.far,fun _=>⟨HK1.out,HK2.out⟩,fun e=>(by cases e),fun _=>⟨rfl,Or.inr ⟨l,HK4.out,by have:=HKL.out;omega⟩⟩⟩⟩
  ·have hbi:¬(500:Int) < (k:Int):=by omega
   have hkl:k=l.length:=by have:=HKL.out;omega
   subst hkl
   have hl5:l.length≤500:=by omega
   have HWR:=aA (fun (w2:World) (ho:w2.ownsRow w1.heap.size 106 2 (.slice (some ⟨w1.heap.size,0,none⟩) 0 l.length) 0 []) (hg:w1.grownBy w2 none)=>aT6 B tb vn ve vl vs vm L F S1 rt d hL HF.out HN.out HC.out w1 HRES.out.tm w1.heap.size (Nat.le_refl _) (l.length+1) a l [] _ w2 (by omega) HK4.out (HRES.out.tm.grown hg (by simp) (by cases vn.ownBlock <;> simp) (by cases ve.ownBlock <;> simp) (by cases vl.ownBlock <;> simp) (by cases vs.ownBlock <;> simp)) ho (by simp [Value.ownBlock]) hg.size (by have:=Nat.mul_le_mul hl5 hl5;simp;omega) ha)
   go_wp2_with (first
    | (at_make;refine wpList_make_own _ rfl _ _ 72 rfl w1.heap.size 106 iN (.agg #[.string ⟨#[]⟩,.int .i64 0]) 2 Tryz.underlying72 hN hN0 hN1 .i64 .i64 _ l.length rfl rfl rfl (by rw [hN2];omega) (by unfold maxLen;omega) (Nat.le_refl _) ?_;intro w2 ho hg;have HO:=aA ho;have HG:=aA hg;clear ho hg)
    | (go_at_call 146;refine (aB HWR w2 HO.out HG.out).mono ?_;rintro e w3 ⟨v3,rfl,hres3⟩;have HR3:=aA hres3;clear hres3)
    | go_in)
   go_ret2
   have hr3:=HR3.out
   have hrow:w3.ownsRow w1.heap.size 106 2 v3 l.length (aP l):=by simpa using hr3.row
   refine ⟨v3,true,S1,rfl,⟨hr3.tm,?_,fun _=>⟨HK1.out,HK2.out⟩,fun _=>⟨HK3.out,hr3.some,l,HK4.out,hl5,?_⟩,fun e=>(by cases e)⟩⟩
   ·have h1:=HRES.out.far
    exact mJ (mJ h1 HG.out (fun r e=>by cases e)) hr3.far (fun r e=>by simp [Value.ownBlock] at e;have:=h1.size;omega)
   ·exact aT7 hrow HRES.out.far.size
end Go.Proofs.YtbddofieljiihaaGreatDoor
namespace Go.Proofs.YtbddofieljiihaaGreatDoor
open Go.RowKit Go.Shelf Go.WideMaps
set_option maxRecDepth 100000
attribute [local go_sem] Oper.semAt_some
theorem bA.cleared {B tb:Nat} {vn ve vl vm:Value} {L:List Nd} {F:List Nat} {gs cs:Nat}:∀(m o:Nat) (w:World) (S:List Int),bA w B tb vn ve vl (.slice (some ⟨gs,0,none⟩) L.length cs) vm L F S→o+m=L.length→(∀i,i < o→S[i]?=some 0)→
  ∃S',bA (w.setCells gs o (List.replicate m (.int .i64 0))) B tb vn ve vl (.slice (some ⟨gs,0,none⟩) L.length cs) vm L F S'∧(∀i,i < L.length→S'[i]?=some 0)∧w.grownBy (w.setCells gs o (List.replicate m (.int .i64 0))) (some gs):=by
 intro m
 induction m with
 | zero=>
  intro o w S h ho h0
  exact ⟨S,h,fun i hi=>h0 i (by omega),World.grownBy.refl _ _⟩
 | succ m ih=>
  intro o w S h ho h0
  obtain ⟨h1,h2⟩:=h.sized o 0
  have hls:=h.ls
  obtain ⟨S',k1,k2,k3⟩:=ih (o+1) _ _ h1 (by omega) (fun i hi=>by
   by_cases e:i=o
   ·subst e;rw [List.getElem?_set_self (by omega)]
   ·rw [List.getElem?_set_ne (fun x=>e x.symm)];exact h0 i (by omega))
  exact ⟨S',k1,k2,h2.trans k3⟩
theorem aBf {w w':World} {o:Option Nat} {B:Nat} (ho:∀g,o=some g→B≤g) (hB:B≤w.heap.size) (hg:w.grownBy w' o):Below B w w':=
 ⟨hg.os,hg.tape,hg.output,hg.size,fun k hk=>hg.block k (by omega) (fun e=>by have:=ho k e.symm;omega)⟩
structure aTa (w:World) (B tb:Nat) (vn ve vl vs vm:Value) (L:List Nd) (rt:Nat→Nat) (a b:Nat) (ok:Bool) (w':World):Prop where
 size:w.heap.size≤w'.heap.size
 low:Below B w w'
 keep:∀k,k < w.heap.size→vl.ownBlock≠some k→vs.ownBlock≠some k→w'.heap[k]?=w.heap[k]?
 yes:ok=true↔jS (aE L) (Cl (aE L) fun i j=>rt i=rt j∨(i=a∧j=b))∧bS (aE L) (Cl (aE L) fun i j=>rt i=rt j∨(i=a∧j=b)) a
 st:ok=true→∃F' S' rt' d',bA w' B tb vn ve vl vs vm L F' S'∧eZ F' rt' d'∧iJ L rt'∧dE (aE L) (fun i j=>rt' i=rt' j) (fun _ _=>False)∧(∀i j,rt' i=rt' j↔Cl (aE L) (fun i j=>rt i=rt j∨(i=a∧j=b)) i j)∧oW L rt' S'∧∀r:Nat,S'[r]?≠some (-1)
set_option maxHeartbeats 1000000 in
theorem aTb (B tb:Nat) (vn ve vl vs vm:Value) (L:List Nd) (F:List Nat) (rt d:Nat→Nat) (hL:eA L) (hF:eZ F rt d) (hN:iJ L rt) (hC:dE (aE L) (fun i j=>rt i=rt j) fun _ _=>False) (S:List Int) (a b:Nat) (w:World) (h:bA w B tb vn ve vl vs vm L F S) (ha:a < L.length) (hb:b < L.length) :
  Calls Tryz.prog 120 #[.pointer (some ⟨tb,0,none⟩),.int .i64 a,.int .i64 b] w fun e w'=>∃ok:Bool,e=.returned (.bool ok)∧aTa w B tb vn ve vl vs vm L rt a b ok w':=by
 obtain ⟨gs,cs,n0,rfl,hn0,c1,cf1⟩:=h.size ha
 have hls:=h.ls
 have hcl:∀ty,(Builtin.clear_ #[31] ty #[.slice (some ⟨gs,0,none⟩) L.length cs]).run Tryz.prog w=.ok (.tuple #[]) (w.setCells gs 0 (List.replicate L.length (.int .i64 0))):=fun ty=>
  Lib.run_clear_slice w _ 3 ty (.int .i64 0) Tryz.underlying31 (fun w=>by obtain ⟨iI,hI,hI0,hI1,hI2⟩:=info_parts qM;simp [zeroValue,typeInfo,hI,hI0]) rfl rfl gs 0 _ _ (by omega) (fun j hj=>by
   obtain ⟨g',c',n',e1,e2,e3,e4⟩:=h.size hj
   simp at e1
   obtain ⟨rfl,_⟩:=e1
   rw [Nat.zero_add,e3];rfl) (fun j hj=>by
   obtain ⟨g',c',n',e1,e2,e3,e4⟩:=h.size hj
   simp at e1
   obtain ⟨rfl,_⟩:=e1
   rw [Nat.zero_add,e4])
 obtain ⟨S1,h1,h2,h3⟩:=bA.cleared L.length 0 w S h (by omega) (fun i hi=>by omega)
 have c3:=h.c3
 clear c1 cf1 hn0 hls
 generalize w.setCells gs 0 (List.replicate L.length (.int .i64 0))=w1 at *
 have CJ:=aA (aS0 B tb vn ve vl _ vm L S1 hL (lD F+1) F rt d a b w1 (by omega) h1 hF hN ha hb)
 have HH:=aA h
 have H2:=aA h2
 have H3:=aA h3
 have HC:=aA hC
 have HRB:=aA (bY h.rs gs rfl).1
 clear h h1 h2 h3 hF hN hC
 go_enter Tryz.func120,Tryz.ntmps120
 go_wp2_with (first
  | (go_at_call 132;refine (aB CJ).mono ?_)
  | go_in)
 rintro e w2 ⟨ok,F2,rt2,d2,rfl,hres⟩
 clear CJ hcl c3
 have hbl:∀w3,w2.grownBy w3 (some gs)→Below B w w3:=fun w3 hg=>by
  have hB:B≤w.heap.size:=Nat.le_trans HRB.out (Nat.le_of_lt (bY HH.out.rs gs rfl).2)
  have s1:=H3.out.size
  have s2:=hres.far.size
  exact ((aBf (fun g e=>by simp at e;subst e;exact HRB.out) hB H3.out).trans (aBf (fun g e=>(bY HH.out.rl g e).1) (by omega) hres.far)).trans (aBf (fun g e=>by simp at e;subst e;exact HRB.out) (by omega) hg)
 have hkp:∀w3,w2.grownBy w3 (some gs)→∀k,k < w.heap.size→vl.ownBlock≠some k→gs≠k→w3.heap[k]?=w.heap[k]?:=fun w3 hg k k1 k2 k3=>by
  have s1:=H3.out.size
  have s2:=hres.far.size
  rw [hg.block k (by omega) (by simpa using fun e=>k3 e.symm),hres.far.block k (by omega) (fun e=>k2 e.symm),H3.out.block k k1 (by simpa using fun e=>k3 e.symm)]
 have hsem:=hres.sem (fun i j=>rt i=rt j∨(i=a∧j=b)) (fun _ _=>False) (fun i j e=>Cl.base (Or.inl e)) (Cl.base (Or.inr ⟨rfl,rfl⟩)) (HC.out.mono fun _ _ e=>e.elim)
 cases ok with
 | false=>
  have HR:=aA (hsem.2 rfl)
  have HBL:=aA (hbl w2 (World.grownBy.refl _ _))
  have HKP:=aA (hkp w2 (World.grownBy.refl _ _))
  clear hres hsem hbl hkp
  go_wp2
  go_ret
  exact ⟨false,rfl,HBL.out.size,HBL.out,fun k k1 k2 k3=>HKP.out k k1 k2 (by simpa [Value.ownBlock] using k3),⟨fun e=>(by cases e),fun e=>absurd e.1 HR.out⟩,fun e=>(by cases e)⟩
 | true=>
  obtain ⟨j1,j2,j3⟩:=hsem.1 rfl
  obtain ⟨k1,k2⟩:=j3.done (oR rt2) j2 (fun i j e=>by
   rcases e with e | ⟨rfl,rfl⟩
   ·exact hres.mono i j e
   ·exact j1)
  have hz:∀r:Nat,S1[r]?≠some (-1):=fun r e=>by
   have hr:=(List.getElem?_eq_some_iff.1 e).1
   rw [hres.tm.ls] at hr
   rw [H2.out r hr] at e
   cases e
  have CS:=aA (aGg B tb vn ve vl _ vm L F2 rt2 d2 hL hres.forest hres.named j3 (jC S1+1) S1 a w2 (by omega) hres.tm (fun p n e=>by
   have hr:=(List.getElem?_eq_some_iff.1 e).1
   rw [hres.tm.ls] at hr
   rw [H2.out p hr] at e
   simp at e
   exact Or.inl e.symm) (fun r e=>absurd e (hz r)) ha)
  have HK1:=aA k1
  have HK2:=aA k2
  have HJ3:=aA j3
  have HZ:=aA hz
  have HBL:=aA hbl
  have HKP:=aA hkp
  have HRES:=aA hres
  clear hres hsem hbl hkp j1 j2 j3 k1 k2 hz
  go_wp2_with (first
   | (go_at_call 133;refine (aB CS).mono ?_;rintro e w3 ⟨n,bs,S3,rfl,hsz⟩;have HSZ:=aA hsz;clear hsz)
   | go_in)
  go_ret
  have hsz:=HSZ.out
  have hlow:=HBL.out w3 hsz.far
  have hie:∀i,bS (aE L) (fun i j=>rt2 i=rt2 j) i↔bS (aE L) (Cl (aE L) fun i j=>rt i=rt j∨(i=a∧j=b)) i:=fun i=>bS.iff HK1.out
  refine ⟨bs,rfl,hlow.size,hlow,fun k k1 k2 k3=>HKP.out w3 hsz.far k k1 k2 (by simpa [Value.ownBlock] using k3),?_,?_⟩
  ·cases bs with
   | true=>exact ⟨fun _=>⟨HK2.out,(hie a).1 (hsz.yes rfl).2.2.1⟩,fun _=>rfl⟩
   | false=>exact ⟨fun e=>(by cases e),fun e=>absurd ((hie a).2 e.2) (hsz.no rfl).2⟩
  ·rintro rfl
   obtain ⟨z1,z2,z3,z4⟩:=hsz.yes rfl
   exact ⟨F2,S3,rt2,d2,hsz.tm,HRES.out.forest,HRES.out.named,HJ3.out,HK1.out,z1,fun r e=>HZ.out r ((z2 r).1 e)⟩
end Go.Proofs.YtbddofieljiihaaGreatDoor
namespace Go.Proofs.YtbddofieljiihaaGreatDoor
open Go.RowKit Go.Shelf Go.WideMaps
set_option maxRecDepth 100000
theorem bA.toRaw {w:World} {B tb:Nat} {vn ve vl vs vm:Value} {L:List Nd} {F:List Nat} {S:List Int} (h:bA w B tb vn ve vl vs vm L F S) (ne:ve.ownBlock≠none) (nl:vl.ownBlock≠none) (ns:vs.ownBlock≠none):bW w B tb vn ve vl vs vm L (dU L) F S:=
 ⟨h.box,h.high,h.rn,by rw [fM];exact h.re,by rw [h.lf];exact h.rl,by rw [h.ls];exact h.rs,h.ab,h.ac,h.bc,ne,nl,ns⟩
structure fO (B tb mp:Nat) (nb:Option Nat) (M:List Tg) (a b:Nat) (ps:List Nat) (ls:List (List Nd)) (w:World):Prop where
 tm:∃vn ve vl vs F rt d S,vn.ownBlock=nb∧bW w B tb vn ve vl vs (.map (some mp)) (M.map Prod.snd) (dU (M.map Prod.snd)) F S∧fY M a b F rt d S∧(∀p,p < M.length→bS (aE (M.map Prod.snd)) (fun i j=>rt i=rt j) p)∧aL (fun p l=>aO (aE (M.map Prod.snd)) (fun i j=>rt i=rt j) rt [p] l) ps ls
 low:∀p∈ps,p < M.length
 first:fD w mp M
 big:B≤w.heap.size
 ne:mp≠tb
 mlow:B≤mp
 short:∀t∈M,t.2.1.size≤140737488355328
def nJ (nb:Option Nat) (w w':World):Prop:=∀(k:Nat) (cs:Array Value) (T:TypeId) (fr:Nat×Nat),w.heap[k]?=some (.cells cs T fr)→T≠3→T≠176→nb≠some k→w'.heap[k]?=w.heap[k]?
def aGn (w:World) (nb nb':Option Nat):Prop:=nb'=nb∨∃g,nb'=some g∧w.heap.size≤g
section
variable {B tb mp:Nat} {nb:Option Nat} {M:List Tg} {a b:Nat} {ps:List Nat} {ls:List (List Nd)} {w:World}
theorem aTc (h:fO B tb mp nb M a b ps ls w) (o:Int) (ad:Option Addr) (c:Nat) (t:List Nd) (hn:dB w ad t) (ht:aI t 1=true) (hlow:∀p,ad=some p→p.block < B) (hlen:M.length+t.length≤1000000) (ho : -1000≤o∧o≤1000) :
  Calls Tryz.prog 121 #[.pointer (some ⟨tb,0,none⟩),.int .i64 o,.slice ad t.length c] w fun e w'=>e=.returned (.int .i64 M.length)∧∃nb',fO B tb mp nb' (M++aQ o t) a b ps ls w'∧Below B w w'∧aGn w nb nb'∧nJ nb w w':=by
 obtain ⟨vn,ve,vl,vs,F,rt,d,S,hnb,htm,hv,hen,hls⟩:=h.tm
 have hl:(M.map Prod.snd).length=M.length:=by simp
 refine (aFx B tb mp vn ve vl vs (M.map Prod.snd) F S M o ad c t w htm rfl hv.whole h.first (by rw [hv.lf,hl]) (by rw [hv.ls,hl]) h.big h.ne h.mlow ht hn hlow (by rw [hl];exact hlen) ho).mono ?_
 rintro e w' ⟨vn',ve',vl',vs',rfl,h1,h2,h3,h4⟩
 have hs:(M++aQ o t).map Prod.snd=M.map Prod.snd++t:=by rw [List.map_append,xI]
 refine ⟨by rw [hl],vn'.ownBlock,⟨⟨vn',ve',vl',vs',_,_,_,_,rfl,by rw [hs];exact h1,hv.add (o:=o) ht,?_,?_⟩,fun p hp=>by have:=h.low p hp;simp;omega,h2,Nat.le_trans h.big h3.low.size,h.ne,h.mlow,?_⟩,h3.low,by rw [←hnb];exact h4,by rw [←hnb];exact h3.nod⟩
 ·intro p hp
  rw [hs]
  have hp':p < M.length+t.length:=by simpa using hp
  exact hv.endsAll (o:=o) ht hen (M.length+t.length - p) p (by omega)
 ·rw [hs]
  have key:∀{ps:List Nat} {ls:List (List Nd)},aL (fun p l=>aO (aE (M.map Prod.snd)) (fun i j=>rt i=rt j) rt [p] l) ps ls→(∀p∈ps,p < M.length)→aL (fun p l=>aO (aE (M.map Prod.snd++t)) (fun i j=>cD M (M++t.map fun n=>(o,n)) rt i=cD M (M++t.map fun n=>(o,n)) rt j) (cD M (M++t.map fun n=>(o,n)) rt) [p] l) ps ls:=by
   intro ps ls h
   induction h with
   | nil=>intro _;exact aL.nil
   | cons c _ ih=>
    intro hp
    exact aL.cons (hv.exp (o:=o) c (fun i hi=>by simp at hi;subst hi;exact hp _ (by simp))) (ih fun p hq=>hp p (by simp [hq]))
  exact key hls h.low
 ·intro x hx
  rcases List.mem_append.1 hx with hx | hx
  ·exact h.short x hx
  ·obtain ⟨n,hn',rfl⟩:=List.mem_map.1 hx
   obtain ⟨k,hk,rfl⟩:=List.getElem_of_mem hn'
   exact hn.short k hk
theorem aTd (h:fO B tb mp nb M a b ps ls w) (p:Nat) (hp:p < M.length) (hM:M.length≤1000000) :
  Calls Tryz.prog 135 #[.pointer (some ⟨tb,0,none⟩),.int .i64 p] w fun e w'=>∃v y,e=.returned (.tuple #[v,.bool y])∧Below B w w'∧w.heap.size≤w'.heap.size∧nJ nb w w'∧∃l,
   (y=true→l.length≤500∧v.ownBlock≠none∧w'.ownsRow w.heap.size 106 2 v l.length (aP l)∧fO B tb mp nb M a b (ps++[p]) (ls++[l]) w')∧
   (y=false→v=.slice none 0 0∧500 < l.length∧fO B tb mp nb M a b (ps++[p]) (ls++[l]) w'):=by
 obtain ⟨vn,ve,vl,vs,F,rt,d,S,hnb,htm,hv,hen,hls⟩:=h.tm
 have hl:(M.map Prod.snd).length=M.length:=by simp
 have hin:=htm.toIn (by rw [hv.lf,hl]) (by rw [hv.ls,hl]) (by rw [hl];exact hM) (fun n hn=>by obtain ⟨t,ht,rfl⟩:=List.mem_map.1 hn;exact h.short t ht)
 refine (aT9 B tb vn ve vl vs _ (M.map Prod.snd) F rt d hv.whole hv.forest hv.named hv.cl S p w hin hv.sz (fun r e=>absurd e (hv.none r)) (by rw [hl];exact hp)).mono ?_
 rintro e w' ⟨v,y,S',rfl,r⟩
 obtain ⟨k1,k2⟩:=r.keep (hen p hp)
 have hfar:Below B w w':=⟨r.far.os,r.far.tape,r.far.output,r.far.size,fun k hk=>r.far.block k (by have:=h.big;omega) (fun e=>by have:=(bY htm.rs k e.symm).1;omega)⟩
 have hst:nJ nb w w':=fun k cs T fr hk k1 _ _=>r.far.block k (Array.getElem?_eq_some_iff.1 hk).1 (fun e=>by
  obtain ⟨_,⟨rfl,_⟩ | ⟨g,cap,cur,rfl,_,hh,_⟩⟩:=htm.rs
  ·simp [Value.ownBlock] at e
  ·simp [Value.ownBlock] at e
   subst e
   rw [hh] at hk
   simp at hk
   exact k1 hk.2.1.symm)
 have hcon:∀l,aO (aE (M.map Prod.snd)) (fun i j=>rt i=rt j) rt [p] l→fO B tb mp nb M a b (ps++[p]) (ls++[l]) w':=fun l hx=>
  ⟨⟨vn,ve,vl,vs,F,rt,d,S',hnb,r.tm.toRaw htm.ne htm.nl htm.ns,⟨hv.whole,hv.lf,by rw [r.tm.ls,hl],hv.forest,hv.named,hv.cl,hv.iff,k1,fun q e=>hv.none q ((k2 q).1 e),hv.ha,hv.hb⟩,hen,hls.snoc hx⟩,fun q hq=>by
   rcases List.mem_append.1 hq with hq | hq
   ·exact h.low q hq
   ·simp at hq;subst hq;exact hp,h.first.grown r.far (nZ htm.rs h.first),Nat.le_trans h.big r.far.size,h.ne,h.mlow,h.short⟩
 cases y with
 | true=>
  obtain ⟨_,e2,l,e3,e4,e5⟩:=r.yes rfl
  exact ⟨v,true,rfl,hfar,r.far.size,hst,l,fun _=>⟨e4,e2,e5,hcon l e3⟩,(fun e=>by cases e)⟩
 | false=>
  obtain ⟨e1,e2⟩:=r.no rfl
  obtain ⟨l,e3,e4⟩ : ∃l,aO (aE (M.map Prod.snd)) (fun i j=>rt i=rt j) rt [p] l∧500 < l.length:=by
   rcases e2 with e2 | e2
   ·exact absurd (hen p hp) e2
   ·exact e2
  exact ⟨v,false,rfl,hfar,r.far.size,hst,l,(fun e=>by cases e),fun _=>⟨e1,e4,hcon l e3⟩⟩
end
end Go.Proofs.YtbddofieljiihaaGreatDoor
