import Derived.Test.YthjhkgohninpcaaGreatDoorRefs1M
import Derived.Test.YthjhkgohninpcaaGreatDoorSParM
import Derived.Deep.RegionLaw
import Derived.Deep.RegionHeld3
open List renaming set_cons_succ→zw,take_succ_eq_append_getElem→zu,length_append→zs,getD_eq_getElem?_getD→zr,getElem?_eq_none→zp,mem_cons→zn
open Nat renaming le_refl→zz
open Or renaming inr→zt,inl→zq
namespace Go.Proofs.YthjhkgohninpcaaGreatDoor
open _root_.Go.Proofs.Tryz renaming prog→zx,underlying53→zm
open Value renaming ownBlock→zy,string→zv
open Go.RowKit
set_option maxHeartbeats 10000000
set_option maxRecDepth 100000
variable{brk:Int}{l:List Nd}{B B' pa:Nat}{v vB vC vL vP vV vl:Value}{a w w' w0 w3:World}{st:aY}
theorem mC{t:Array Oper}{b:Oper}{a:Act}{K:Act->World->Prop}{z:Exit->Act->World->Prop}{y:Prop}(G:b.guard=none)(u x:Operand)(k e:TypeId)(M:b.op=.call {callee:=.builtin .append,args:=#[u,x],argTypes:=#[k,k]})
  (q:Value) (c j:Nat) (T:zx.underlying k=some (.slice e)) (I:(zx.info? e).map (λf=>(f.zero,f.size,f.bytes))=some (some q,c,j)) (Y:q.cells.size=c) (S:0<c) (F:j<=100) (i:Nat) (v:Value) (d:Nat) (p:List Value) (Q:a.eval u=v) (N:w.ownsRow i e c v d p) (a1:d<=10000000) (E:i<=w.heap.size) (o r:Nat) (g:List Value) (V:a.eval x=.slice (some ⟨o,0,none⟩) 1 r) (J:g.length=1*c) (L:∀s m,g[s]?=some m->w.cell? ((⟨o,0,none⟩ : Addr).add s)=some m) (C:∀m∈g,m.oneCell'=true)
  (A:∀n w',w'.ownsRow i e c n (d+1) (p++g)->w.grownBy w' v.ownBlock->K (a.put b.dst n) w'):if Region.wanted b (yielded t a.tmps)=true then Oper.wp zx b a w K z else y:=by
 have U:Region.wanted b (yielded t a.tmps)=true:=by simp [Region.wanted,G]
 rw [aJ U];obtain ⟨f,H,X,R,W⟩:=info_parts I;have D:(d+1)*j<=140737488355328:=Nat.le_trans (Nat.mul_le_mul (show d+1<=10000001 by omega) F) (by decide);obtain ⟨n,w',O,Z,a0,_⟩:=run_append_own (P:=zx) w i k b.type e f q c j T H X R W Y S v d p N ⟨o,0,none⟩ 1 r g J L C (by unfold maxLen;omega) D E;unfold Oper.wp execOp;simp only [M,resolve,invoke,builtin,Sem.run_bind,Sem.run_pure,Result.andThen_ok,List.map_toArray,List.map_cons,List.map_nil,Q,V,O];exact A n w' Z a0
theorem aE0(w:World)(c:Array Value)(d:TypeId)(b:Nat)(g:Value)(e:c.toList[b]?=some g):(w.alloc (.cells c d)).cell? ((⟨w.heap.size,0,none⟩ : Addr).add b)=some g:=by
 have j:(w.alloc (.cells c d)).heap[w.heap.size]?=some (.cells c d):=by show (w.heap.push _)[w.heap.size]?=_;simp
 simp only [Array.getElem?_toList] at e;have i:(⟨w.heap.size,0,none⟩ : Addr).add b=⟨w.heap.size,b,none⟩:=by
  unfold Addr.add;by_cases f:b=0
  ·simp [f]
  ·simp [f]
 rw [i];unfold World.cell?;rw [j];exact e
def aJg(b:Exit->Act->World->Prop):Exit->Act->World->Prop
 | .panic _,_,_=>False
 |e,a,w=>b e a w
theorem sG{d:Code}{c:Exit->Act->World->Prop}{a:Act}(b:d.wp zx (aJg c) a w):d.wp zx c a w:=
 Code.wp_mono (λe a w b=>by cases e<;>first|exact b|exact False.elim b) b
theorem qD{b:Exit->Act->World->Prop}{a:Act}(c:b .normal a w):aJg b .normal a w:=c
theorem aVc:(zx.info? 9).map (λb=>(b.zero,b.size,b.bytes))=some (some (.string ⟨#[]⟩),1,16):=by kernel_rfl
theorem aVd:(zx.info? 143).map (λb=>(b.zero,b.size,b.bytes))=some (some (.agg #[.string ⟨#[]⟩,.bool false,.int .i64 0,.int .i64 0]),4,40):=by kernel_rfl
def jN(l:List Pl):List Value:=l.flatMap λb=>[.string b.1,.bool b.2.1,.int .i64 b.2.2.1,.int .i64 b.2.2.2]
theorem aVe(l:List Pl)(b:Pl):jN (l++[b])=jN l++[.string b.1,.bool b.2.1,.int .i64 b.2.2.1,.int .i64 b.2.2.2]:=by simp [jN]
structure bT(B B':Nat)(w w':World):Prop where
 os:w'.os=w.os
 tape:w'.tape=w.tape
 output:w'.output=w.output
 size:w.heap.size<=w'.heap.size
 block:∀k,k<w.heap.size->(k<B\/∀cs T fr,w.heap[k]?=some (.cells cs T fr)->T≠143/\T≠9/\T≠98/\(T=106->k<B'))->w'.heap[k]?=w.heap[k]?
theorem bT.refl(B B':Nat)(w:World):bT B B' w w:=⟨rfl,rfl,rfl,zz _,λ_ _ _=>rfl⟩
theorem bT.trans{B B':Nat}{a b d:World}(c:bT B B' a b)(k:bT B B' b d):bT B B' a d:=
 ⟨k.os.trans c.os,k.tape.trans c.tape,k.output.trans c.output,Nat.le_trans c.size k.size,λi g f=>by
  have e:=c.block i g f;rw [k.block i (Nat.lt_of_lt_of_le g c.size) (by rw [e];exact f),e]⟩
theorem bT.of_below(b:aC w w'):bT B B' w w':=⟨b.os,b.tape,b.output,b.size,λk c _=>b.block k c⟩
theorem bT.below(b:bT B B' w w')(d:B<=w.heap.size):Below B w w':=⟨b.os,b.tape,b.output,b.size,λk c=>b.block k (by omega) (zq c)⟩
theorem bT.alloc(c:bT B B' a w)(b:Obj):bT B B' a (w.alloc b):=c.trans (.of_below ((Below.refl _ _).alloc (zz _) b))
theorem bT.drawn(c:bT B B' a w)(b:Nat):bT B B' a (w.drewN b):=c.trans (.of_below (aL ⟨b,rfl⟩))
theorem bT.grownBox{i:Nat}{d:Int}(e:bT B B' a w)(f:bG w pa vL i d vP vC vB vV)(j:B<=pa)(b:w.grownBy w' (some pa)):bT B B' a w':=by
 refine e.trans ⟨b.os,b.tape,b.output,b.size,λk g hc=>b.block k g ?_⟩;intro c;simp at c;subst c;rcases hc with hc|hc
 ·omega
 ·exact (hc _ _ _ f).2.2.1 rfl
theorem bT.grownRow{d:Nat}{c:TypeId}{r:Nat}{q:Nat}{s:List Value}(f:bT B B' a w)(o:w.ownsRow d c r v q s)(y:B<=d)(k:c=143\/c=9\/c=106/\B'<=d)(b:w.grownBy w' v.ownBlock):bT B B' a w':=by
 refine f.trans ⟨b.os,b.tape,b.output,b.size,λp n hc=>b.block p n ?_⟩;intro e;obtain ⟨_,⟨rfl,_⟩|⟨x,t,u,rfl,z,m,_⟩⟩:=o
 ·simp [zy] at e
 ·simp [zy] at e;subst e;rcases hc with hc|hc
  ·omega
  ·obtain ⟨g,i,_,j⟩:=hc _ _ _ m;rcases k with rfl|rfl|⟨rfl,A⟩
   ·exact g rfl
   ·exact i rfl
   ·have:=j rfl;omega
structure bN(B:Nat)(w:World)(pa:Nat)(L:List Tk)(st:aY)(bad:Int)(vL vP vC vB vV:Value):Prop where
 high:B<=pa
 box:bG w pa vL st.i bad vP vC vB vV
 toks:w.ownsRow B 100 3 vL L.length (kJ L)
 pz:w.ownsRow B 143 4 vP st.pz.length (jN st.pz)
 vars:w.ownsRow B 9 1 vV st.vars.length (st.vars.map zv)
section
variable {B pa:Nat}{w w':World}{L:List Tk}{st:aY}{bad:Int}{vL vP vC vB vV:Value}
theorem bN.below(b:bN B w pa L st bad vL vP vC vB vV)(k:aC w w'):bN B w' pa L st bad vL vP vC vB vV:=
 ⟨b.high,b.box.below k (zz _),bB b.toks k (zz _),bB b.pz k (zz _),bB b.vars k (zz _)⟩
theorem bN.alloc(c:bN B w pa L st bad vL vP vC vB vV)(b:Obj):bN B (w.alloc b) pa L st bad vL vP vC vB vV:=c.below ((Below.refl _ _).alloc (zz _) b)
theorem bN.drawn(c:bN B w pa L st bad vL vP vC vB vV)(b:Nat):bN B (w.drewN b) pa L st bad vL vP vC vB vV:=c.below (aL ⟨b,rfl⟩)
theorem bN.setI(b:bN B w pa L st bad vL vP vC vB vV)(c:Nat):bN B (w.setCell ⟨pa,1,none⟩ (.int .i64 c)) pa L ⟨c,st.vars,st.pz⟩ bad vL vP vC vB vV:=
 ⟨b.high,b.box.set1 c,b.box.row b.toks (by decide) _ _,b.box.row b.pz (by decide) _ _,b.box.row b.vars (by decide) _ _⟩
theorem bN.grownBox(b:bN B w pa L st bad vL vP vC vB vV){f:Int}(e:w.grownBy w' (some pa))(m:bG w' pa vL st.i f vP vC vB vV):bN B w' pa L st f vL vP vC vB vV:=by
 have d:∀{c:TypeId} {j:Nat} {v:Value} {i:Nat} {k:List Value},w.ownsRow B c j v i k->c≠98->v.ownBlock=none\/v.ownBlock≠some pa:=by
  intro c j v i k p n;obtain ⟨_,⟨rfl,_⟩|⟨s,q,r,rfl,_,o,_⟩⟩:=p
  ·exact zq rfl
  ·right;intro g;simp [zy] at g;subst g;have:=b.box;unfold bG at this;rw [o] at this;simp at this;exact n this.2
 exact ⟨b.high,m,b.toks.kept e (d b.toks (by decide)),b.pz.kept e (d b.pz (by decide)),b.vars.kept e (d b.vars (by decide))⟩
theorem bN.far(b:bN B w pa L st bad vL vP vC vB vV){k:Nat}{d:TypeId}{p:Nat}{v:Value}{n:Nat}{q:List Value}(i:w.ownsRow k d p v n q)(e:d≠98/\d≠100/\d≠143/\d≠9)(f:w.grownBy w' v.ownBlock):bN B w' pa L st bad vL vP vC vB vV:=by
 refine ⟨b.high,?_,b.toks.kept f (bW b.toks i e.2.1.symm),b.pz.kept f (bW b.pz i e.2.2.1.symm),b.vars.kept f (bW b.vars i e.2.2.2.symm)⟩;have c:=b.box;have o:=c.lt;unfold bG at c ⊢;rw [f.block pa o ?_]
 ·exact c
 ·intro j;obtain ⟨_,⟨rfl,_⟩|⟨g,r,s,rfl,_,m,_⟩⟩:=i
  ·simp [zy] at j
  ·simp [zy] at j;subst j;rw [m] at c;simp at c;exact e.1 c.2
theorem bN.moreV(c:bN B w pa L st bad vL vP vC vB vV){d:Value}{g:ByteArray}(k:w'.ownsRow B 9 1 d (st.vars.length+1) (st.vars.map zv++[.string g]))(f:w.grownBy w' vV.ownBlock):bG w' pa vL st.i bad vP vC vB vV/\bN B (w'.setCell ⟨pa,6,none⟩ d) pa L ⟨st.i,st.vars++[g],st.pz⟩ bad vL vP vC vB d:=by
 have b:bG w' pa vL st.i bad vP vC vB vV:=by
  have b:=c.box;have j:=b.lt;unfold bG at b ⊢;rw [f.block pa j ?_]
  ·exact b
  ·intro e;obtain ⟨_,⟨rfl,_⟩|⟨o,m,n,rfl,_,i,_⟩⟩:=c.vars
   ·simp [zy] at e
   ·simp [zy] at e;subst e;rw [i] at b;simp at b
 refine ⟨b,c.high,b.set6 d,b.row (c.toks.kept f (bW c.toks c.vars (by decide))) (by decide) _ _,b.row (c.pz.kept f (bW c.pz c.vars (by decide))) (by decide) _ _,b.row ?_ (by decide) _ _⟩;rw [List.map_append,zs];exact k
theorem bN.moreP(c:bN B w pa L st bad vL vP vC vB vV){e:Value}{d:Pl}(k:w'.ownsRow B 143 4 e (st.pz.length+1) (jN st.pz++[.string d.1,.bool d.2.1,.int .i64 d.2.2.1,.int .i64 d.2.2.2]))(g:w.grownBy w' vP.ownBlock):bG w' pa vL st.i bad vP vC vB vV/\bN B (w'.setCell ⟨pa,3,none⟩ e) pa L ⟨st.i,st.vars,st.pz++[d]⟩ bad vL e vC vB vV:=by
 have b:bG w' pa vL st.i bad vP vC vB vV:=by
  have b:=c.box;have j:=b.lt;unfold bG at b ⊢;rw [g.block pa j ?_]
  ·exact b
  ·intro f;obtain ⟨_,⟨rfl,_⟩|⟨o,m,n,rfl,_,i,_⟩⟩:=c.pz
   ·simp [zy] at f
   ·simp [zy] at f;subst f;rw [i] at b;simp at b
 refine ⟨b,c.high,b.set3 e,b.row (c.toks.kept g (bW c.toks c.pz (by decide))) (by decide) _ _,b.row ?_ (by decide) _ _,b.row (c.vars.kept g (bW c.vars c.pz (by decide))) (by decide) _ _⟩;rw [aVe,zs];exact k
end
theorem aVf{l:List ByteArray}(e:w.ownsRow B 9 1 v l.length (l.map zv)):∃a d,v=.slice a l.length d/\∀c (e:c<l.length),∃b,a=some ⟨b,0,none⟩/\w.cell? ⟨b,c,none⟩=some (.string l[c]):=by
 obtain ⟨i,⟨rfl,j⟩|⟨b,d,g,rfl,k,n,m,o,r,q⟩⟩:=e
 ·exact ⟨none,0,by rw [j],λc f=>by omega⟩
 ·have p:w.ownsRow B 9 1 (.slice (some ⟨b,0,none⟩) l.length d) l.length (l.map zv):=⟨i,zt ⟨b,d,g,rfl,k,n,m,o,r,q⟩⟩;refine ⟨_,_,rfl,λc f=>⟨b,rfl,?_⟩⟩;rw [p.cellAt c (by omega)];simp [f]
theorem aVg{g:List Tk}{i:Int}{c:Value}{m:ByteArray}(j:bN B w pa g st i vL vP vC vB vV)(k:w.ownsRow B' 106 2 vl l.length (aP l))(p:bT B B' w0 w)(b:Obj)
  (s:w3.ownsRow B 9 1 c (st.vars.length+1) (st.vars.map zv++[.string m])) (e:(w.alloc b).grownBy w3 vV.ownBlock):w3.cell? ⟨pa,6,none⟩=some vV/\w3.frozen? ⟨pa,6,none⟩=false/\w.heap.size<w3.heap.size/\
   bN B (w3.setCell ⟨pa,6,none⟩ c) pa g ⟨st.i,st.vars++[m],st.pz⟩ i vL vP vC vB c/\(w3.setCell ⟨pa,6,none⟩ c).ownsRow B' 106 2 vl l.length (aP l)/\bT B B' w0 (w3.setCell ⟨pa,6,none⟩ c):=by
 have f:=j.alloc b;obtain ⟨d,n⟩:=bN.moreV f s e;have t:=e.size;have o:vl.ownBlock=none\/vl.ownBlock≠vV.ownBlock:=bW (k.alloc b) f.vars (by decide);have r:=(k.alloc b).kept e o;have q:=(p.alloc b).grownRow f.vars (zz _) (zt (zq rfl)) e;exact ⟨d.c6,d.soft 6,by simp at t;omega,n,d.row r (by decide) _ _,q.grownBox d j.high (bX _ _ _)⟩
theorem aVh(d:ByteArray):∀c∈[zv d],c.oneCell'=true:=by intro c b;simp at b;subst b;rfl
theorem aVi(B B' pa:Nat)(brk:Int)(st:aY)(vL vP vC vB vV vl:Value)(f:List Tk)(l:List Nd)(w:World)(H:bN B w pa f st (-1) vL vP vC vB vV)(b9:w.ownsRow B' 106 2 vl l.length (aP l))(b0:B<=B')(f3:B'<=w.heap.size)
  (b8:(aH f st.i).kind=118) (f5:st.i<=5000000) (f6:l.length<=5000000) (h1:st.vars.length<=5000000):Calls zx 76 #[.pointer (some ⟨pa,0,none⟩),vl,.bool false,.int .i64 brk] w λa9 w'=>∃d4 e9,a9=.returned d4/\bN B w' pa f ⟨st.i+1,lA st.vars (aH f st.i).txt,st.pz⟩ (-1) vL vP vC vB e9/\
   w'.ownsRow B' 106 2 d4 (l.length+1) (aP (l++[(⟨#[]⟩,lB st.vars (aH f st.i).txt)]))/\bT B B' w w':=by
 have R:=pA B pa st.i (-1) vL vP vC vB vV f w H.box H.toks;have a6:=aA H;have a3:=aA b9;clear H b9;generalize aH f st.i=t at *;obtain ⟨h2,b,Y⟩:=t;simp only at b8;subst b8;rw [show nU ⟨118,b,Y⟩=.agg #[.int .u8 118,.string b,.int .i64 Y] from rfl] at R;go_enter Tryz.func76,Tryz.ntmps76;go_wp2_with (go_at_call 43;refine R.mono ?_;rintro a9 k ⟨rfl,z⟩;have j:=aA (a6.o.below z);have a4:=aA (bB a3.o z (zz _));have a1:aG (bT B B' w k):=aA (.of_below z);have g0:=z.size;have d8:∀d,(k.alloc d).cell? ⟨pa,1,none⟩=some (.int .i64 st.i):=(λd=>(j.o.alloc d).box.c1);have e1:∀d,(k.alloc d).frozen? ⟨pa,1,none⟩=false:=(λd=>(j.o.alloc d).box.soft 1));have W:∃i,i=(k.alloc (.cells #[.int .u8 118,.string b,.int .i64 Y] 100)).setCell ⟨pa,1,none⟩ (.int .i64 ((st.i:Int)+1)):=⟨_,rfl⟩;obtain ⟨i,m⟩:=W;rw [<-m];have f9:=j.o.box.lt;have I:bN B i pa f ⟨st.i+1,st.vars,st.pz⟩ (-1) vL vP vC vB vV:=by rw [m];exact (j.o.alloc _).setI (st.i+1)
 have C:i.ownsRow B' 106 2 vl l.length (aP l):=by rw [m];exact (j.o.alloc _).box.row (a4.o.alloc _) (by decide) _ _
 have A:bT B B' w i:=by rw [m];exact (a1.o.alloc _).grownBox (j.o.alloc _).box j.o.high (bX _ _ _)
 have V:i.cell? ⟨k.heap.size,1,none⟩=some (.string b):=by rw [m,World.cell?_setCell_other _ _ _ _ (by first|(simp;done)|(simp;omega))];exact uW k _ _ _ _ _ rfl 1 _ rfl
 have e5:k.heap.size<i.heap.size:=by rw [m];simp [World.setCell]
 generalize k.heap.size=tb at *;obtain ⟨E,F,rfl,c7⟩:=aVf I.vars;have Z:=aA I;have s:=aA C;have G:=aA A;have a7:=aA c7;have S:=I.box.c6;clear m a6 a3 j a4 a1 d8 e1 z R I C A c7;go_loopw [10,11] (λa X f1=>∃(c:Nat) (e:Int),c<=st.vars.length/\X=.int .i64 c/\a=.int .i64 e/\e=jL (st.vars.take c) b/\-1<=e/\e<c/\∃a8,f1=i.drewN a8) (λ_ X _=>st.vars.length-(intOf X).toNat);case atStart=>exact ⟨0,-1,Nat.zero_le _,rfl,rfl,rfl,by omega,by omega,0,rfl⟩
 case round=>
  obtain ⟨c,e,e3,rfl,rfl,c0,f7,f8,g⟩:=hrel;have L:=aA g;have u:=aA c0;clear c0;have d7:wr.cell? ⟨pa,6,none⟩=some (.slice E st.vars.length F):=aD (aL g) S;have c9:wr.cell? ⟨tb,1,none⟩=some (.string b):=aD (aL g) V;by_cases T:c<st.vars.length
  ·have e4:(c:Int)<(st.vars.length:Int):=by omega
   obtain ⟨e2,rfl,b6⟩:=a7.o c T;have f4:wr.cell? ⟨e2,c,none⟩=some (.string st.vars[c]):=aD (aL g) b6;clear b6 S V g;by_cases o:st.vars[c]=b
   ·have e6:(st.vars[c].toList==b.toList)=true:=by rw [o];simp
    have M:aG ((c:Int)=jL (st.vars.take (c+1)) b):=aA (by rw [zu T,aB5,aJ o,List.length_take,Nat.min_eq_left e3]);clear o u;go_wp2;go_quiet (fail);go_wp2;go_roundw;case rel=>exact ⟨c+1,c,by omega,by go_num,rfl,M.o,by omega,by omega,gY L.o ⟨_,rfl⟩⟩
    case measure=>simp [intOf];omega
   ·have e6:(st.vars[c].toList==b.toList)=false:=by
     rw [beq_eq_false_iff_ne];exact λW=>o (wB.1 W)
    have M:aG (e=jL (st.vars.take (c+1)) b):=aA (by rw [zu T,aB5,aI o];exact u.o);clear o u;go_wp2;go_quiet (fail);go_wp2;go_roundw;case rel=>exact ⟨c+1,e,by omega,by go_num,rfl,M.o,by omega,by omega,gY L.o ⟨_,rfl⟩⟩
    case measure=>simp [intOf];omega
  ·have e4:¬(c:Int)<(st.vars.length:Int):=by omega
   have x:aG (e=jL st.vars b):=aA (by rw [u.o,List.take_of_length_le (by omega)]);clear u a7;have r:aG (bN B wr pa f ⟨st.i+1,st.vars,st.pz⟩ (-1) vL vP vC vB (.slice E st.vars.length F)):=aA (Z.o.below (aL g));have p:wr.ownsRow B' 106 2 vl l.length (aP l):=bB s.o (aL g) (zz _);have N:aG (bT B B' w wr):=aA (G.o.trans (.of_below (aL g)));have c8:wr.heap.size=i.heap.size:=by obtain ⟨a8,rfl⟩:=g;rfl
   rw [<-c8] at e5;clear c8 s G Z S V g L;obtain ⟨d1,b1,b2,b3,b4⟩:=info_parts nB;by_cases q:e<0
   ·have d0:wr.drew.ownsRow B 9 1 (.slice E st.vars.length F) st.vars.length (st.vars.map zv):=r.o.vars;have a0:aG (bN B wr.drew pa f ⟨st.i+1,st.vars,st.pz⟩ (-1) vL vP vC vB (.slice E st.vars.length F)):=aA (r.o.drawn 1);have a5:aG (wr.drew.ownsRow B' 106 2 vl l.length (aP l)):=aA p;have a2:aG (bT B B' w wr.drew):=aA (N.o.drawn 1);have d9:∀d,(wr.alloc d).cell? ⟨pa,6,none⟩=some (.slice E st.vars.length F):=λd=>(r.o.alloc d).box.c6
    have e0:∀d,(wr.alloc d).cell? ⟨tb,1,none⟩=some (.string b):=λd=>aD ((Below.refl _ wr).alloc (zz _) d) c9
    have y:aG (lA st.vars b=st.vars++[b]/\lB st.vars b=st.vars.length):=aA (by rw [x.o] at q;unfold lA lB;rw [aJ q,aJ q];exact ⟨rfl,rfl⟩);have f2:B<=wr.heap.size:=by omega
    clear p x r N;go_wp2_with fail;go_region_law (refine mC ?g1 (.tmp 63) (.tmp 66) 96 9 ?g2 (.string ⟨#[]⟩) 1 16 Tryz.underlying96 aVc ?g3 ?g4 ?g5 B _ st.vars.length (st.vars.map zv) ?g6 (d0.alloc _) ?g7 ?g8 wr.heap.size 1 [.string b] ?g9 ?g10 (nC wr.drew (.string b) 9 wr.heap.size rfl) (aVh b) ?_;(case g1=>rfl);(case g2=>rfl);(case g3=>rfl);(case g4=>decide);(case g5=>decide);(case g6=>rfl);(case g7=>omega);(case g8=>simp;omega);(case g9=>rfl);(case g10=>rfl);intro h3 w3 U b7;obtain ⟨d6,e7,c6,b5,C,A⟩:=aVg a0.o a5.o a2.o _ U b7;have d5:=aA b5;have s:=aA C;have G:=aA A;obtain ⟨d2,d3,rfl⟩:=aW U;clear U b7 b5 C A);all_goals
     have h0:wr.heap.size<(w3.setCell ⟨pa,6,none⟩ (.slice d2 (st.vars.length+1) d3)).heap.size:=by simpa [World.setCell] using c6
     have J:=s.o;clear c6 d6 e7 d9 e0 c9 d7 d0 a0 a5 a2;generalize w3.setCell ⟨pa,6,none⟩ (.slice d2 (st.vars.length+1) d3)=w4 at *;clear s;go_wp2_with (first
      |(at_builtin;refine wpList_append_own _ rfl (.tmp 70) (.tmp 73) 53 rfl B' 106 d1 (.agg #[.string ⟨#[]⟩,.int .i64 0]) 2 24 zm b1 b2 b3 b4 rfl (by decide) _ _ _ rfl (J.alloc _) ⟨_,0,none⟩ 1 1 [.string ⟨#[]⟩,.int .i64 st.vars.length] rfl rfl (fS w4 _ _ _ _ rfl) (pU _ _) (by unfold maxLen;omega) (by omega) (by simp;omega) ?_)
      |go_in)
     intro e8 f0 D n _;have O:=aA ((d5.o.alloc _).far (J.alloc _) (by decide) n);have P:=aA ((G.o.alloc _).grownRow (J.alloc _) b0 (zt (zt ⟨rfl,zz _⟩)) n);have Q:=aA D;clear D n J;go_wp2;go_ret;exact ⟨_,_,rfl,by rw [y.o.1];exact O.o,by rw [y.o.2,pT];exact Q.o,P.o⟩
   ·have y:aG (lA st.vars b=st.vars/\lB st.vars b=e):=aA (by rw [x.o] at q;unfold lA lB;rw [aI q,aI q,x.o];exact ⟨rfl,rfl⟩);clear x;go_wp2_with (first
     |(at_builtin;refine wpList_append_own _ rfl (.tmp 70) (.tmp 73) 53 rfl B' 106 d1 (.agg #[.string ⟨#[]⟩,.int .i64 0]) 2 24 zm b1 b2 b3 b4 rfl (by decide) _ _ _ rfl (p.alloc _) ⟨_,0,none⟩ 1 1 [.string ⟨#[]⟩,.int .i64 e] rfl rfl ?c1 ?c2 ?c3 ?c4 ?c5 ?_)
     |go_in)
    try case c1=>exact fS _ _ _ _ _ (by simp)
    case c2=>first|exact pU _ _|exact ⟨rfl,rfl⟩
    case c3=>unfold maxLen;omega
    case c4=>omega
    case c5=>first|omega|(simp;omega)
    intro e8 f0 D n _;have O:=aA ((r.o.alloc _).far (p.alloc _) (by decide) n);have P:=aA ((N.o.alloc _).grownRow (p.alloc _) b0 (zt (zt ⟨rfl,zz _⟩)) n);have Q:=aA D;clear D n p;go_wp2;go_ret;exact ⟨_,_,rfl,by rw [y.o.1];exact O.o,by rw [y.o.2,pT];exact Q.o,P.o⟩
theorem aVj(B B' pa:Nat)(brk:Int)(u:Bool)(st:aY)(vL vP vC vB vV vl:Value)(b:List Tk)(l:List Nd)(w:World)(i:bN B w pa b st (-1) vL vP vC vB vV)(I:w.ownsRow B' 106 2 vl l.length (aP l))
  (C:(aH b st.i).kind≠110) (o:(aH b st.i).kind≠118\/u=true):Calls zx 76 #[.pointer (some ⟨pa,0,none⟩),vl,.bool u,.int .i64 brk] w λe w'=>e=.returned vl/\bN B w' pa b st (pB b brk st.i) vL vP vC vB vV/\
   w'.ownsRow B' 106 2 vl l.length (aP l)/\bT B B' w w':=by
 have x:=pA B pa st.i (-1) vL vP vC vB vV b w i.box i.toks;have F:=aA i;have E:=aA I;clear i I;generalize aH b st.i=t at *;obtain ⟨k,M,L⟩:=t;simp only at C o;rw [show nU ⟨k,M,L⟩=.agg #[.int .u8 k,.string M,.int .i64 L] from rfl] at x;have U:((k:Int) != 110)=true:=by simp;omega
 have G:aG (∀g,bN B g pa b st (-1) vL vP vC vB vV->g.ownsRow B' 106 2 vl l.length (aP l)->bT B B' w g->Calls zx 44 #[.pointer (some ⟨pa,0,none⟩),.int .i64 brk] g λe w'=>e=.returned (.tuple #[])/\bN B w' pa b st (pB b brk st.i) vL vP vC vB vV/\w'.ownsRow B' 106 2 vl l.length (aP l)/\bT B B' w w'):=by
  refine aA λg j H hK=>(aB6 B pa st.i brk vL vP vC vB vV b g j.box j.toks).mono ?_
  rintro e w' ⟨rfl,O,A⟩;refine ⟨rfl,j.grownBox A O,H.kept A ?_,hK.grownBox j.box j.high A⟩;obtain ⟨_,⟨rfl,_⟩|⟨T,R,S,rfl,_,P,_⟩⟩:=H
  ·exact zq rfl
  ·right;intro J;simp [zy] at J;subst J;have z:=j.box;unfold bG at z;rw [P] at z;simp at z
 go_enter Tryz.func76,Tryz.ntmps76;by_cases y:k=118
 ·have N:u=true:=o.elim (λi=>absurd y i) id;subst N;have f:((k:Int)==118)=true:=by simp;omega
  clear o C y;go_wp2_with (first
   |(go_at_call 43;refine x.mono ?_;rintro e D ⟨rfl,c⟩;have s:=aA (λd=>G.o (D.alloc d) ((F.o.below c).alloc d) ((bB E.o c (zz _)).alloc d) ((bT.of_below c).alloc d));clear c)
   |(go_at_call 44;refine (s.o _).mono ?_;rintro e Q ⟨rfl,n,m,f⟩;have r:=aA n;have q:=aA m;have p:=aA f;clear n m f))
  go_ret;exact ⟨rfl,r.o,q.o,p.o⟩
 ·have f:((k:Int)==118)=false:=by simp;omega
  clear o C y;go_wp2_with (first
   |(go_at_call 43;refine x.mono ?_;rintro e D ⟨rfl,c⟩;have s:=aA (λd=>G.o (D.alloc d) ((F.o.below c).alloc d) ((bB E.o c (zz _)).alloc d) ((bT.of_below c).alloc d));clear c)
   |(go_at_call 44;refine (s.o _).mono ?_;rintro e Q ⟨rfl,n,m,f⟩;have r:=aA n;have q:=aA m;have p:=aA f;clear n m f))
  go_ret;exact ⟨rfl,r.o,q.o,p.o⟩
theorem aVk(b:Nd)(c:List Nd):aP (b::c)=.string b.1::.int .i64 b.2::aP c:=rfl
theorem aE1(b:Pl)(c:List Pl):jN (b::c)=.string b.1::.bool b.2.1::.int .i64 b.2.2.1::.int .i64 b.2.2.2::jN c:=rfl
theorem aJh(l:List Nd):∀(b c:Nat),(aP l).set (b*2+1) (.int .i64 c)=aP (dR l b c):=by
 induction l with
 |nil=>intro b c;simp [aP,dR]
 |cons x r ih=>
  intro b c;cases b with
  |zero=>rfl
  |succ b=>
   have:=ih b c;rw [show (b+1)*2+1=b*2+1+1+1 by omega,aVk,zw,zw,this];rfl
theorem aVl(l:List Pl):∀(b c:Nat),(jN l).set (b*4+2) (.int .i64 c)=jN (jM l b c):=by
 induction l with
 |nil=>intro b c;simp [jN,jM]
 |cons x r ih=>
  intro b c;cases b with
  |zero=>rfl
  |succ b=>
   have:=ih b c;rw [show (b+1)*4+2=b*4+2+1+1+1+1 by omega,aE1,zw,zw,zw,zw,this];rfl
structure TL(L T:List Tk)(brk:Int):Prop where
 kind:∀i,(aH L i).kind=(aH T i).kind
 txt:∀i,(aH L i).txt=(aH T i).txt
 pos:∀i,(aH T i).kind≠63->(aH L i).pos=(aH T i).pos
 bad:∀i,i<T.length->pB L brk i=(aH T i).pos
 more:∀i,i<T.length->(aH T i).kind≠101->(aH T i).kind≠63->i+1<T.length
 few:T.length<=1000002
theorem aJi{g:ByteArray}{f e:Nat}{c:Tk}(b:eZ g f=.tok c e):c.kind≠101/\c.kind≠63:=by
 unfold eZ at b;split at b
 ·split at b
  ·cases b
  ·simp only [Nx.tok.injEq] at b;rw [<-b.1];simp only;split<;>decide
 ·split at b
  ·split at b
   ·simp only [Nx.tok.injEq] at b;rw [<-b.1];exact ⟨by simp,by simp⟩
   ·cases b
  ·split at b
   ·split at b
    ·simp only [Nx.tok.injEq] at b;rw [<-b.1];exact ⟨by simp,by simp⟩
    ·cases b
   ·split at b
    ·rename_i d;simp only [Nx.tok.injEq] at b;rw [<-b.1];simp only;unfold nV at d;simp at d;omega
    ·cases b
theorem aE2(e:ByteArray):∀c d,(∀b∈(cW e c d).1.dropLast,b.kind≠101/\b.kind≠63)/\((cW e c d).2=none->∃l b,(cW e c d).1=l++[b]/\b.kind=101)/\((cW e c d).2≠none->∀b∈(cW e c d).1,b.kind≠101/\b.kind≠63)/\(∀b∈(cW e c d).1,b.kind≠63):=by
 intro c;induction c with
 |zero=>intro d;simp [cW]
 |succ c ih=>
  intro d;rw [cW];split
  ·split
   ·exact ih _
   ·split
    ·exact ih _
    ·split
     ·rename_i b j o;have g:=aJi o;obtain ⟨k,p,q,s⟩:=ih j;refine ⟨?_,?_,?_,?_⟩
      ·intro f hu;simp only at hu;cases hr:(cW e c j).1 with
       |nil=>rw [hr] at hu;simp at hu
       |cons y r=>
        rw [hr] at hu k;rw [List.dropLast_cons_of_ne_nil (by simp)] at hu;rcases zn.1 hu with rfl|hu
        ·exact g
        ·exact k f hu
      ·intro i;obtain ⟨l,f,m,n⟩:=p i;exact ⟨b::l,f,by simp only [m,List.cons_append],n⟩
      ·intro i f hu;rcases zn.1 hu with rfl|hu
       ·exact g
       ·exact q i f hu
      ·intro f hu;rcases zn.1 hu with rfl|hu
       ·exact g.2
       ·exact s f hu
     ·simp
  ·refine ⟨by simp,λ_=>⟨[],_,rfl,rfl⟩,by simp,by simp⟩
theorem aE3(d:ByteArray):∀b c,(cW d b c).1.length<=b:=by
 intro b;induction b with
 |zero=>intro c;simp [cW]
 |succ b ih=>
  intro c;rw [cW];split
  ·split
   ·have:=ih (c+1);omega
   ·split
    ·have:=ih (gK d c);omega
    ·split
     ·rename_i g e f;have:=ih e;simp only [List.length_cons];omega
     ·simp
  ·simp
theorem aE4(e:ByteArray)(x:e.size<=1000000):TL (cW e (e.size+1) 0).1 (eP (cW e (e.size+1) 0)) (aBd (cW e (e.size+1) 0).2):=by
 obtain ⟨_,n,u,_⟩:=aE2 e (e.size+1) 0;have s:=aE3 e (e.size+1) 0;generalize cW e (e.size+1) 0=r at *;obtain ⟨c,o⟩:=r;simp only at n u s;cases o with
 |none=>
  have j:eP (c,none)=c:=by simp [eP]
  rw [j];refine ⟨λ_=>rfl,λ_=>rfl,λ_ _=>rfl,λb f=>by simp [pB,aH,f],λb f k _=>?_,by omega⟩;obtain ⟨l,y,rfl,t⟩:=n rfl;by_cases q:b=l.length
  ·subst q;exact absurd (by simpa [aH] using t) k
  ·simp at f ⊢;omega
 |some p=>
  have j:eP (c,some p)=c++[⟨63,⟨#[]⟩,p⟩]:=by simp [eP]
  rw [j];have i:∀b,(b<c.length/\aH (c++[⟨63,⟨#[]⟩,p⟩]) b=aH c b)\/(b=c.length/\aH (c++[⟨63,⟨#[]⟩,p⟩]) b=⟨63,⟨#[]⟩,p⟩/\aH c b=uR)\/(c.length<b/\aH (c++[⟨63,⟨#[]⟩,p⟩]) b=uR/\aH c b=uR):=by
   intro b;rcases Nat.lt_trichotomy b c.length with h|h|h
   ·exact zq ⟨h,by simp [aH,List.getElem?_append_left h]⟩
   ·subst h;exact zt (zq ⟨rfl,by simp [aH],by simp [aH]⟩)
   ·refine zt (zt ⟨h,?_,?_⟩)
    ·unfold aH;rw [zr,zp (by simp;omega)];rfl
    ·unfold aH;rw [zr,zp (by omega)];rfl
  refine ⟨λb=>?_,λb=>?_,λb f=>?_,λb f=>?_,λb f k m=>?_,by simp;omega⟩
  ·rcases i b with ⟨_,h⟩|⟨_,h,d⟩|⟨_,h,d⟩
   ·rw [h]
   ·rw [h,d];rfl
   ·rw [h,d]
  ·rcases i b with ⟨_,h⟩|⟨_,h,d⟩|⟨_,h,d⟩
   ·rw [h]
   ·rw [h,d];rfl
   ·rw [h,d]
  ·rcases i b with ⟨_,h⟩|⟨_,h,d⟩|⟨_,h,d⟩
   ·rw [h]
   ·rw [h] at f;exact absurd rfl f
   ·rw [h,d]
  ·rcases i b with ⟨g,h⟩|⟨g,h,d⟩|⟨g,h,d⟩
   ·rw [h];simp [pB,aH,g]
   ·rw [h];simp [pB,g,aBd]
   ·simp at f;omega
  ·rcases i b with ⟨g,h⟩|⟨g,h,d⟩|⟨g,h,d⟩
   ·simp;omega
   ·rw [h] at m;exact absurd rfl m
   ·simp at f;omega
def aE5(B B' pa:Nat)(w:World)(f g:List Tk)(j:Nat)(st:aY)(l:List Nd)(vL vC vB:Value)(k:Except Nat (aY×List Nd))(i:Ending)(w':World):Prop:=
 ∃e m n b d c,i=.returned e/\bN B w' pa f b d vL m vC vB n/\w'.ownsRow B' 106 2 e c.length (aP c)/\bT B B' w w'/\
  (st.i<=b.i/\b.i<=g.length+j/\l.length<=c.length/\c.length<=l.length+(b.i-st.i)/\st.pz.length<=b.pz.length/\b.pz.length<=st.pz.length+(b.i-st.i)/\st.vars.length<=b.vars.length/\b.vars.length<=st.vars.length+(b.i-st.i))/\
  match k with
  | .ok (s1,l1)=>d=-1/\b=s1/\c=l1
  | .error p=>d=(p:Int)
def aE6(B pa:Nat)(brk:Int)(d b:List Tk)(vL vC vB:Value)(c:Nat):Prop:=
 ∀(B':Nat) (e:Bool) (st:aY) (vP vV vl:Value) (l:List Nd) (w:World),bN B w pa d st (-1) vL vP vC vB vV->w.ownsRow B' 106 2 vl l.length (aP l)->B<=B'->B'<=w.heap.size->st.i<b.length->b.length<st.i+c->c<=2000000->
  l.length<=st.i->st.pz.length<=st.i->st.vars.length<=st.i->
  Calls zx 76 #[.pointer (some ⟨pa,0,none⟩),vl,.bool e,.int .i64 brk] w λf w'=>aE5 B B' pa w d b c st l vL vC vB (cJ b c e st l) f w'
theorem aVm{d b:List Tk}{o:Nat}(c:TL d b brk)(B':Nat)(e:Bool)(st:aY)(vP vV vl:Value)(l:List Nd)(w:World)(f:bN B w pa d st (-1) vL vP vC vB vV)(r:w.ownsRow B' 106 2 vl l.length (aP l))(s:B<=B')(t:B'<=w.heap.size)
  (u:st.i<b.length) (A:l.length<=st.i) (C:st.vars.length<=st.i) (q:(aH b st.i).kind≠110):Calls zx 76 #[.pointer (some ⟨pa,0,none⟩),vl,.bool e,.int .i64 brk] w λk w'=>aE5 B B' pa w d b (o+1) st l vL vC vB (cJ b (o+1) e st l) k w':=by
 have z:=c.few;by_cases n:(aH b st.i).kind=118/\e=false
 ·obtain ⟨p,rfl⟩:=n;have j:=aVi B B' pa brk st vL vP vC vB vV vl d l w f r s t (by rw [c.kind];exact p) (by omega) (by omega) (by omega);refine j.mono ?_;rintro k w' ⟨y,x,rfl,i,g,m⟩;rw [cJ,aJ ⟨p,rfl⟩];rw [c.txt] at i g;refine ⟨y,vP,x,_,-1,_,rfl,i,by simpa using g,m,?_,rfl,rfl,rfl⟩;simp only [lA,zs,List.length_singleton];split<;>simp<;>omega
 ·have j:=aVj B B' pa brk e st vL vP vC vB vV vl d l w f r (by rw [c.kind];exact q) (by rw [c.kind];rcases e with _|_;exact zq (λf=>n ⟨f,rfl⟩);exact zt rfl);refine j.mono ?_;rintro k w' ⟨rfl,i,g,m⟩;rw [cJ,aI n,aJ q];exact ⟨vl,vP,vV,st,_,l,rfl,i,g,m,by omega,c.bad st.i u⟩
theorem aVn{g:List Tk}{i:Int}{c:Value}{x:Pl}(j:bN B w pa g st i vL vP vC vB vV)(k:w.ownsRow B' 106 2 vl l.length (aP l))(o:bT B B' w0 w)(b:Obj)
  (r:w3.ownsRow B 143 4 c (st.pz.length+1) (jN st.pz++[.string x.1,.bool x.2.1,.int .i64 x.2.2.1,.int .i64 x.2.2.2])) (e:(w.alloc b).grownBy w3 vP.ownBlock):w3.cell? ⟨pa,3,none⟩=some vP/\w3.frozen? ⟨pa,3,none⟩=false/\w.heap.size<w3.heap.size/\
   bN B (w3.setCell ⟨pa,3,none⟩ c) pa g ⟨st.i,st.vars,st.pz++[x]⟩ i vL c vC vB vV/\(w3.setCell ⟨pa,3,none⟩ c).ownsRow B' 106 2 vl l.length (aP l)/\bT B B' w0 (w3.setCell ⟨pa,3,none⟩ c):=by
 have f:=j.alloc b;obtain ⟨d,m⟩:=bN.moreP f r e;have s:=e.size;have n:vl.ownBlock=none\/vl.ownBlock≠vP.ownBlock:=bW (k.alloc b) f.pz (by decide);have q:=(k.alloc b).kept e n;have p:=(o.alloc b).grownRow f.pz (zz _) (zq rfl) e;exact ⟨d.c3,d.soft 3,by simp at s;omega,m,d.row q (by decide) _ _,p.grownBox d j.high (bX _ _ _)⟩
theorem qF{f:TypeId}{i:Nat}{c:Nat}{j:List Value}(g:w.ownsRow B f i v c j)(n:0<c):∃b d,v=.slice (some ⟨b,0,none⟩) c d:=by
 obtain ⟨_,⟨rfl,m⟩|⟨b,e,k,rfl,_⟩⟩:=g
 ·omega
 ·exact ⟨b,e,rfl⟩
theorem aVo(l:List Pl):∀b (c:b<l.length),(jN l)[b*4+2]?=some (.int .i64 l[b].2.2.1):=by
 induction l with
 |nil=>intro b c;simp at c
 |cons x r ih=>
  intro b c;cases b with
  |zero=>rfl
  |succ b=>
   have:=ih b (by simpa using c);rw [aE1,show (b+1)*4+2=b*4+2+1+1+1+1 by omega];simpa using this
theorem aVp{q:List Tk}{r:Int}(t:bN B w pa q st r vL vP vC vB vV)(j:w.ownsRow B' 106 2 vl l.length (aP l))(x:B<=B')(z:bT B B' w0 w)(c g b:Nat)(C:c<l.length)(E:g<st.pz.length):∃d n f p,vl=.slice (some ⟨d,0,none⟩) l.length n/\vP=.slice (some ⟨f,0,none⟩) st.pz.length p/\
   w.cell? ⟨d,c*2+1,none⟩=some (.int .i64 l[c].2)/\w.frozen? ⟨d,c*2+1,none⟩=false/\
   (w.setCell ⟨d,c*2+1,none⟩ (.int .i64 b)).cell? ⟨pa,3,none⟩=some vP/\
   (w.setCell ⟨d,c*2+1,none⟩ (.int .i64 b)).cell? ⟨f,g*4+2,none⟩=some (.int .i64 st.pz[g].2.2.1)/\
   (w.setCell ⟨d,c*2+1,none⟩ (.int .i64 b)).frozen? ⟨f,g*4+2,none⟩=false/\
   bN B ((w.setCell ⟨d,c*2+1,none⟩ (.int .i64 b)).setCell ⟨f,g*4+2,none⟩ (.int .i64 b)) pa q ⟨st.i,st.vars,jM st.pz g b⟩ r vL vP vC vB vV/\
   ((w.setCell ⟨d,c*2+1,none⟩ (.int .i64 b)).setCell ⟨f,g*4+2,none⟩ (.int .i64 b)).ownsRow B' 106 2 vl (dR l c b).length (aP (dR l c b))/\
   bT B B' w0 ((w.setCell ⟨d,c*2+1,none⟩ (.int .i64 b)).setCell ⟨f,g*4+2,none⟩ (.int .i64 b)):=by
 obtain ⟨d,n,rfl⟩:=qF j (by omega);obtain ⟨f,p,rfl⟩:=qF t.pz (by omega);refine ⟨d,n,f,p,rfl,rfl,?_⟩;have u:w.grownBy (w.setCell ⟨d,c*2+1,none⟩ (.int .i64 b)) (some d):=bX _ _ _;have e:=t.far j (by decide) u;have o:=(j.stored (c*2+1) (.int .i64 b)).1;rw [aJh] at o;have I:l.length=(dR l c b).length:=by simp [dR]
 have J:st.pz.length=(jM st.pz g b).length:=by simp [jM]
 have A:=z.grownRow j x (zt (zt ⟨rfl,zz _⟩)) u;refine ⟨?_,j.frozenAt _,e.box.c3,?_,e.pz.frozenAt _,?_,?_,?_⟩
 ·rw [j.cellAt _ (by omega),(uI l c C).2]
 ·rw [e.pz.cellAt _ (by omega),aVo _ _ E]
 ·have i:(w.setCell ⟨d,c*2+1,none⟩ (.int .i64 b)).grownBy ((w.setCell ⟨d,c*2+1,none⟩ (.int .i64 b)).setCell ⟨f,g*4+2,none⟩ (.int .i64 b)) (some f):=bX _ _ _;refine ⟨e.high,?_,e.toks.kept i (bW e.toks e.pz (by decide)),?_,e.vars.kept i (bW e.vars e.pz (by decide))⟩
  ·have k:=e.box;have D:=k.lt;unfold bG at k ⊢;rw [i.block pa D ?_]
   ·exact k
   ·intro s;simp at s;subst s;obtain ⟨_,⟨m,_⟩|⟨H,F,G,m,_,y,_⟩⟩:=e.pz
    ·simp at m
    ·simp at m;obtain ⟨rfl,_⟩:=m;rw [y] at k;simp at k
  ·have:=(e.pz.stored (g*4+2) (.int .i64 b)).1;rw [aVl] at this;simpa [jM] using this
 ·have i:(w.setCell ⟨d,c*2+1,none⟩ (.int .i64 b)).grownBy ((w.setCell ⟨d,c*2+1,none⟩ (.int .i64 b)).setCell ⟨f,g*4+2,none⟩ (.int .i64 b)) (some f):=bX _ _ _;have:=o.kept i (bW o e.pz (by decide));simpa [dR] using this
 ·have i:(w.setCell ⟨d,c*2+1,none⟩ (.int .i64 b)).grownBy ((w.setCell ⟨d,c*2+1,none⟩ (.int .i64 b)).setCell ⟨f,g*4+2,none⟩ (.int .i64 b)) (some f):=bX _ _ _;exact A.grownRow e.pz (zz _) (zq rfl) i
theorem aVq(l:List Pl)(c:ByteArray)(b:Bool)(d:Int):jM (l++[(c,b,0,d)]) l.length 0=l++[(c,b,0,d)]:=by
 unfold jM;induction l with
 |nil=>rfl
 |cons x r ih=>simpa using ih
theorem aJj(l:List Nd)(b:ByteArray):dR (l++[(b,0)]) l.length 0=l++[(b,0)]:=by
 unfold dR;induction l with
 |nil=>rfl
 |cons x r ih=>simpa using ih
theorem aB7{u d:List Tk}(j:TL u d brk):∀g,(∀n st l c f,cJ d g n st l=.ok (c,f)->st.i<d.length->c.i<d.length)/\(∀st l p c f q,eA d g st l p=.ok (c,f,q)->st.i+1<d.length->c.i<d.length):=by
 intro g;induction g with
 |zero=>exact ⟨λn st l c f b=>by simp [cJ] at b,λst l p c f q b=>by simp [eA] at b⟩
 |succ g ih=>
  obtain ⟨z,s⟩:=ih;constructor
  ·intro n st l c f b k;rw [cJ] at b;split at b
   ·rename_i e;simp only [Except.ok.injEq,Prod.mk.injEq] at b;obtain ⟨rfl,rfl⟩:=b;exact j.more _ k (by rw [e.1];decide) (by rw [e.1];decide)
   ·split at b
    ·simp at b
    ·rename_i e;have e:(aH d st.i).kind=110:=by simpa using e
     have r:=j.more _ k (by rw [e];decide) (by rw [e];decide);split at b
     ·rename_i m;split at b
      ·simp at b
      ·rename_i C A D y;simp only [Except.ok.injEq,Prod.mk.injEq] at b;obtain ⟨rfl,rfl⟩:=b;have o:=j.more _ r (by rw [m];decide) (by rw [m];decide);have x:=s _ _ _ _ _ _ y o;exact x
     ·simp only [Except.ok.injEq,Prod.mk.injEq] at b;obtain ⟨rfl,rfl⟩:=b;exact r
  ·intro st l p c f q b k;rw [eA] at b;split at b
   ·simp at b
   ·rename_i C A m;have t:=z _ _ _ _ _ m k;split at b
    ·rename_i i;have o:=j.more _ t (by rw [i];decide) (by rw [i];decide);exact s _ _ _ _ _ _ b o
    ·split at b
     ·rename_i i;simp only [Except.ok.injEq,Prod.mk.injEq] at b;obtain ⟨rfl,rfl,rfl⟩:=b;exact j.more _ t (by rw [i];decide) (by rw [i];decide)
     ·simp at b
theorem aVr{c:List Tk}(b:bN B w pa c st (-1) vL vP vC vB vV)(g:w.ownsRow B' 106 2 vl l.length (aP l))(hK:bT B B' w0 w):Calls zx 44 #[.pointer (some ⟨pa,0,none⟩),.int .i64 brk] w λf w'=>f=.returned (.tuple #[])/\bN B w' pa c st (pB c brk st.i) vL vP vC vB vV/\w'.ownsRow B' 106 2 vl l.length (aP l)/\bT B B' w0 w':=by
 refine (aB6 B pa st.i brk vL vP vC vB vV c w b.box b.toks).mono ?_;rintro f w' ⟨rfl,j,e⟩;refine ⟨rfl,b.grownBox e j,g.kept e ?_,hK.grownBox b.box b.high e⟩;obtain ⟨_,⟨rfl,_⟩|⟨o,m,n,rfl,_,k,_⟩⟩:=g
 ·exact zq rfl
 ·right;intro i;simp [zy] at i;subst i;have d:=b.box;unfold bG at d;rw [k] at d;simp at d
theorem aE7{c:List Tk}{d:Int}(b:bN B w pa c st d vL vP vC vB vV)(f:w.ownsRow B' 106 2 vl l.length (aP l))(e:bT B B' w0 w):bN B (w.setCell ⟨pa,1,none⟩ (.int .i64 ((st.i:Int)+1))) pa c ⟨st.i+1,st.vars,st.pz⟩ d vL vP vC vB vV/\(w.setCell ⟨pa,1,none⟩ (.int .i64 ((st.i:Int)+1))).ownsRow B' 106 2 vl l.length (aP l)/\bT B B' w0 (w.setCell ⟨pa,1,none⟩ (.int .i64 ((st.i:Int)+1))):=
 ⟨b.setI (st.i+1),b.box.row f (by decide) _ _,e.grownBox b.box b.high (bX _ _ _)⟩
def yV(B B' pa:Nat)(w:World)(m c:List Tk)(vL vC vB:Value)(d:Nat)(b:aY)(e:List Nd)(vl:Value)(f:Nat)(j:Bool)(wr:World):Prop:=
 ∃vP vV st g l,bN B wr pa m st g vL vP vC vB vV/\wr.ownsRow B' 106 2 vl l.length (aP l)/\bT B B' w wr/\
  (b.i<=st.i/\st.i<=c.length+d/\e.length<=l.length/\l.length<=e.length+(st.i-b.i)/\b.pz.length<=st.pz.length/\st.pz.length<=b.pz.length+(st.i-b.i)/\b.vars.length<=st.vars.length/\st.vars.length<=b.vars.length+(st.i-b.i))/\f<=c.length/\
  ((g=-1/\st.i<c.length/\f+b.i<=st.i/\(j=true->st.i+1<c.length)/\∃i,i<=d/\c.length<st.i+i/\
    eA c d b e 0=if j=true then eA c i st l f else if (aH c st.i).kind=41 then .ok (⟨st.i+1,st.vars,st.pz⟩,l,f) else .error (aH c st.i).pos)\/
   ∃k:Nat,g=(k:Int)/\eA c d b e 0=.error k)
theorem yV.next{wr q:World}{j c:List Tk}(o:TL j c brk){vL vC vB:Value}{m:Nat}{d:aY}{p:List Nd}{st:aY}{l:List Nd}{u:Nat}{e:Nat}
  (O:d.i<=st.i/\st.i<=c.length+m/\p.length<=l.length/\l.length<=p.length+(st.i-d.i)/\d.pz.length<=st.pz.length/\st.pz.length<=d.pz.length+(st.i-d.i)/\d.vars.length<=st.vars.length/\st.vars.length<=d.vars.length+(st.i-d.i))
  (G:st.i+1<c.length) (Q:u+d.i<=st.i) (P:e+1<=m) (M:c.length<st.i+(e+1)) (i:eA c m d p 0=eA c (e+1) st l u) (H:bT B B' w wr)
  {E C D:Value} {b:aY} {k:Int} {g:List Nd} (F:bN B q pa j b k vL C vC vB D) (J:q.ownsRow B' 106 2 E g.length (aP g)) (I:bT B B' wr q)
  (N:st.i+1<=b.i/\b.i<=c.length+e/\l.length<=g.length/\g.length<=l.length+(b.i-(st.i+1))/\st.pz.length<=b.pz.length/\b.pz.length<=st.pz.length+(b.i-(st.i+1))/\st.vars.length<=b.vars.length/\b.vars.length<=st.vars.length+(b.i-(st.i+1)))
  (n:match cJ c e false ⟨st.i+1,st.vars,st.pz⟩ l with | .ok (A,z)=>k=-1/\b=A/\g=z | .error x=>k=(x:Int)) (t:aC q w3):yV B B' pa w j c vL vC vB m d p E (u+1) (((aH j b.i).kind:Int)==44) w3:=by
 refine ⟨C,D,b,k,g,F.below t,bB J t (zz _),(H.trans I).trans (.of_below t),by omega,by omega,?_⟩;rw [eA] at i;cases hq:cJ c e false ⟨st.i+1,st.vars,st.pz⟩ l with
 |error x=>
  rw [hq] at n i;exact zt ⟨x,n,i⟩
 |ok r=>
  obtain ⟨A,z⟩:=r;rw [hq] at n i;obtain ⟨rfl,rfl,rfl⟩:=n;have y:=(aB7 o e).1 _ _ _ _ _ hq G;refine zq ⟨rfl,y,by omega,?_,e,by omega,by omega,?_⟩
  ·intro L;have f:(aH c b.i).kind=44:=by rw [<-o.kind];simp at L;omega
   exact o.more _ y (by rw [f];decide) (by rw [f];decide)
  ·rw [i,o.kind];simp only;by_cases f:(aH c b.i).kind=44
   ·have s:(((aH c b.i).kind:Int)==44)=true:=by rw [f];rfl
    rw [s,aJ f,aJ rfl]
   ·have s:(((aH c b.i).kind:Int)==44)=false:=by rw [beq_eq_false_iff_ne];omega
    rw [s,aI f];rfl
def pC(B B' pa:Nat)(w:World)(i d:List Tk)(vL vC vB:Value)(g:Nat)(j:Bool)(b:aY)(c:List Nd)(vl:Value)(f:Nat)(wr:World):Prop:=
 ∃vP vV st e l,bN B wr pa i st e vL vP vC vB vV/\wr.ownsRow B' 106 2 vl l.length (aP l)/\bT B B' w wr/\f<=d.length/\
  (b.i<=st.i/\st.i<=d.length+(g+1)/\c.length<l.length/\l.length<=c.length+(st.i-b.i)/\b.pz.length<st.pz.length/\st.pz.length<=b.pz.length+(st.i-b.i)/\b.vars.length<=st.vars.length/\st.vars.length<=b.vars.length+(st.i-b.i))/\
  match cJ d (g+1) j b c with
  | .ok (s1,l1)=>e=-1/\s1=⟨st.i,st.vars,jM st.pz b.pz.length f⟩/\l1=dR l c.length f
  | .error p=>e=(p:Int)
section
variable {B B' pa:Nat}{w wr:World}{L T:List Tk}{vL vP vC vB vV vl:Value}{f:Nat}{atom:Bool}{st:aY}{l:List Nd}{tx:ByteArray}{tp:Nat}
theorem pC.plain(b:(aH T st.i).kind=110)(k:(aH T st.i).txt=tx)(j:(aH T st.i).pos=tp)(d:(aH T (st.i+1)).kind≠40)(m:st.i<T.length)(e:bN B wr pa L ⟨st.i+1,st.vars,st.pz++[(tx,atom,0,(tp:Int))]⟩ (-1) vL vP vC vB vV)(i:wr.ownsRow B' 106 2 vl (l++[(tx,0)]).length (aP (l++[(tx,0)])))(g:bT B B' w wr):pC B B' pa w L T vL vC vB f atom st l vl 0 wr:=by
 refine ⟨vP,vV,_,-1,_,e,i,g,Nat.zero_le _,by simp;omega,?_⟩;rw [cJ,aI (by rw [b];exact λc=>absurd c.1 (by decide)),aI (by rw [b];decide),aI d,k,j];exact ⟨rfl,by rw [aVq],by rw [aJj]⟩
theorem pC.err(e:(aH T st.i).kind=110)(u:(aH T st.i).txt=tx)(t:(aH T st.i).pos=tp)(k:(aH T (st.i+1)).kind=40){b:aY}{c:List Nd}{g i:Nat}{d:Int}
  (n:st.i+1<=b.i/\b.i<=T.length+f/\(l++[(tx,0)]).length<=c.length/\c.length<=(l++[(tx,0)]).length+(b.i-(st.i+1))/\(st.pz++[(tx,atom,0,(tp:Int))]).length<=b.pz.length/\b.pz.length<=(st.pz++[(tx,atom,0,(tp:Int))]).length+(b.i-(st.i+1))/\st.vars.length<=b.vars.length/\b.vars.length<=st.vars.length+(b.i-(st.i+1)))
  (s:g<=T.length) (p:eA T f ⟨st.i+1,st.vars,st.pz++[(tx,atom,0,(tp:Int))]⟩ (l++[(tx,0)]) 0=.error i) (o:d=(i:Int)) (m:bN B wr pa L ⟨b.i+1,b.vars,b.pz⟩ d vL vP vC vB vV) (r:wr.ownsRow B' 106 2 vl c.length (aP c)) (q:bT B B' w wr):pC B B' pa w L T vL vC vB f atom st l vl g wr:=by
 refine ⟨vP,vV,_,d,_,m,r,q,s,by simp at n ⊢;omega,?_⟩;rw [cJ,aI (by rw [e];exact λj=>absurd j.1 (by decide)),aI (by rw [e];decide),aJ k,u,t,p];exact o
theorem pC.done(e:(aH T st.i).kind=110)(r:(aH T st.i).txt=tx)(q:(aH T st.i).pos=tp)(i:(aH T (st.i+1)).kind=40){b:aY}{c:List Nd}{d:Nat}
  (k:st.i+1<=b.i/\b.i<=T.length+f/\(l++[(tx,0)]).length<=c.length/\c.length<=(l++[(tx,0)]).length+(b.i-(st.i+1))/\(st.pz++[(tx,atom,0,(tp:Int))]).length<=b.pz.length/\b.pz.length<=(st.pz++[(tx,atom,0,(tp:Int))]).length+(b.i-(st.i+1))/\st.vars.length<=b.vars.length/\b.vars.length<=st.vars.length+(b.i-(st.i+1)))
  (p:d<=T.length) (m:eA T f ⟨st.i+1,st.vars,st.pz++[(tx,atom,0,(tp:Int))]⟩ (l++[(tx,0)]) 0=.ok (⟨b.i+1,b.vars,b.pz⟩,c,d)) (j:bN B wr pa L ⟨b.i+1,b.vars,b.pz⟩ (-1) vL vP vC vB vV) (o:wr.ownsRow B' 106 2 vl c.length (aP c)) (n:bT B B' w wr):pC B B' pa w L T vL vC vB f atom st l vl d wr:=by
 refine ⟨vP,vV,_,-1,_,j,o,n,p,by simp at k ⊢;omega,?_⟩;rw [cJ,aI (by rw [e];exact λg=>absurd g.1 (by decide)),aI (by rw [e];decide),aJ i,r,q,m];exact ⟨rfl,rfl,rfl⟩
end
theorem aVs{b c:Prop}(e:c)(d:b):b/\c:=⟨d,e⟩
theorem aE8(b c:Int)(d:ByteArray)(w:World):(Instr.field 100 (.agg #[.int .u8 b,.string d,.int .i64 c]) 0).run zx w=.ok (.int .u8 b) w:=by kernel_rfl
theorem aVt(c b:Int)(d:ByteArray)(w:World):(Instr.field 100 (.agg #[.int .u8 c,.string d,.int .i64 b]) 2).run zx w=.ok (.int .i64 b) w:=by kernel_rfl
