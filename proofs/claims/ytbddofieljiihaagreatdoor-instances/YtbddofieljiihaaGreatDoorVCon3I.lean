/- What is concluded: the state of the program's loops. Two atoms that were put are made the same, for what is concluded by it. What is concluded: one literal more. What is concluded: the rest that is left when a literal is too great. What is concluded: the walk. The program's resolvent. The program's factor. -/
import Derived.Test.YtbddofieljiihaaGreatDoorUWr0I
import Derived.Handy
namespace Go.Proofs.YtbddofieljiihaaGreatDoor
open Go.RowKit Go.Shelf Go.WideMaps
set_option maxRecDepth 100000
def fX (c:List Lt) (out j:Nat):List Lt:=(c.take j).eraseIdx out
theorem aGo {c:List Lt} {out:Nat} (h:out < c.length):fX c out (out+1)=fX c out out:=by
 unfold fX
 have hl:(c.take out).length=out:=by simp;omega
 rw [List.take_succ_eq_append_getElem h,List.eraseIdx_append_of_length_le (by omega),hl,Nat.sub_self,List.eraseIdx_of_length_le (l:=c.take out) (by omega)]
 simp
theorem aGp {c:List Lt} {out j:Nat} (h:j < c.length) (hne:j≠out):fX c out (j+1)=fX c out j++[c[j]]:=by
 unfold fX
 rw [List.take_succ_eq_append_getElem h]
 have hl:(c.take j).length=j:=by simp;omega
 by_cases ho:out < j
 ·rw [List.eraseIdx_append_of_lt_length (by omega)]
 ·rw [List.eraseIdx_append_of_length_le (by omega),List.eraseIdx_of_length_le (l:=c.take j) (by omega),List.eraseIdx_of_length_le (by simp;omega)]
theorem aGq (c:List Lt) (out:Nat):fX c out c.length=c.eraseIdx out:=by unfold fX;rw [List.take_length]
theorem aTe (c:List Lt) (out:Nat):fX c out 0=[]:=by simp [fX]
def aW:Nat→List (List Lt×Nat)→List (Int×Lt)
 | _,[]=>[]
 | o,p :: ps=>((p.1.eraseIdx p.2).map fun l=>((o:Int),l))++aW (o+1) ps
theorem aGr:∀(ps:List (List Lt×Nat)) (o k:Nat) (h:k < ps.length),aW o (ps.take (k+1))=aW o (ps.take k)++((ps[k].1.eraseIdx ps[k].2).map fun l=>(((o+k:Nat):Int),l)):=by
 intro ps
 induction ps with
 | nil=>intro o k h;simp at h
 | cons p ps ih=>
  intro o k h
  cases k with
  | zero=>simp [aW]
  | succ k=>
   simp only [List.take_succ_cons,aW,List.getElem_cons_succ,List.append_assoc]
   rw [ih (o+1) k (by simpa using h)]
   congr 2
   simp only [show o+1+k=o+(k+1) by omega]
theorem aGs (R:List (Int×Lt)) (r:Int×Lt):bE (R++[r])=bE R++r.2.2.map fun n=>(r.1,n):=by simp [bE]
theorem aGt:∀(R:List (Int×Lt)) (n:Nat) (r:Int×Lt),dO n (R++[r])=dO n R++[n+(bE R).length]:=by
 intro R
 induction R with
 | nil=>intro n r;simp [dO,bE]
 | cons x R ih=>
  intro n r
  simp only [List.cons_append,dO,ih]
  rw [xN]
  simp
  omega
theorem aTf (R:List (Int×Lt)) (ls:List (List Nd)) (h:R.length=ls.length) (r:Int×Lt) (l:List Nd):cE (R++[r]) (ls++[l])=cE R ls++[(r.2.1,l)]:=by
 unfold cE
 rw [List.zipWith_append h]
 rfl
section
variable {B tb mp:Nat} {nb:Option Nat} {M:List Tg} {a b:Nat} {ps:List Nat} {ls:List (List Nd)} {w w':World}
theorem fO.below (h:fO B tb mp nb M a b ps ls w) (hb:Below w.heap.size w w'):fO B tb mp nb M a b ps ls w':=by
 obtain ⟨vn,ve,vl,vs,F,rt,d,S,hnb,htm,hr⟩:=h.tm
 exact ⟨⟨vn,ve,vl,vs,F,rt,d,S,hnb,htm.below hb,hr⟩,h.low,h.first.at (hb.block mp h.first.lt),Nat.le_trans h.big hb.size,h.ne,h.mlow,h.short⟩
theorem fO.lits (h:fO B tb mp nb M a b ps ls w) {v:Value} {n B':Nat} {xs:List Value} (ho:w.ownsRow B' 74 2 v n xs) (hg:w.grownBy w' v.ownBlock):fO B tb mp nb M a b ps ls w':=by
 obtain ⟨vn,ve,vl,vs,F,rt,d,S,hnb,htm,hr⟩:=h.tm
 exact ⟨⟨vn,ve,vl,vs,F,rt,d,S,hnb,htm.grown hg (dD ho htm.box (by decide)) (eV htm.rn ho (by decide)) (eV htm.re ho (by decide)) (eV htm.rl ho (by decide)) (eV htm.rs ho (by decide)),hr⟩,h.low,h.first.grown hg (nZ ho h.first),Nat.le_trans h.big hg.size,h.ne,h.mlow,h.short⟩
theorem fO.nbT (h:fO B tb mp nb M a b ps ls w) {k:Nat} (hk:nb=some k):∃cs,w.heap[k]?=some (.cells cs 106):=by
 obtain ⟨vn,ve,vl,vs,F,rt,d,S,hnb,htm,hr⟩:=h.tm
 rw [←hnb] at hk
 obtain ⟨_,⟨rfl,_⟩ | ⟨g,cap,cur,rfl,_,hh,_⟩⟩:=htm.rn
 ·simp [Value.ownBlock] at hk
 ·simp [Value.ownBlock] at hk
  subst hk
  exact ⟨_,hh⟩
theorem fO.pure (h:fO B tb mp nb M a b ps ls w):nL M a b ps ls:=by
 obtain ⟨vn,ve,vl,vs,F,rt,d,S,_,_,hv,hen,hls⟩:=h.tm
 exact ⟨F,rt,d,S,hv,hen,hls,h.low⟩
theorem fO.nodes (h:fO B tb mp nb M a b ps ls w) (hM:M.length≤1000000):∀l∈ls,sG l∧∀n∈l,n.1.size≤140737488355328:=by
 obtain ⟨vn,ve,vl,vs,F,rt,d,S,_,htm,hv,hen,hls⟩:=h.tm
 have key:∀{ps:List Nat} {ls:List (List Nd)},aL (fun p l=>aO (aE (M.map Prod.snd)) (fun i j=>rt i=rt j) rt [p] l) ps ls→(∀p∈ps,p < M.length)→∀l∈ls,∀n∈l,(aH n=true∧∃i,i < (M.map Prod.snd).length∧n=(⟨#[]⟩,(rt i:Int)))∨(aH n=false∧n∈M.map Prod.snd):=by
  intro ps ls h
  induction h with
  | nil=>intro _ l hl;simp at hl
  | cons c _ ih=>
   intro hp l hl
   rcases List.mem_cons.1 hl with rfl | hl
   ·exact aSq hv.whole c (fun i hi=>by simp at hi;subst hi;simpa using hp _ (by simp))
   ·exact ih (fun p hq=>hp p (by simp [hq])) l hl
 intro l hl
 refine ⟨fun n hn hvn=>?_,fun n hn=>?_⟩
 ·rcases key hls h.low l hl n hn with ⟨_,i,hi,rfl⟩ | ⟨e,_⟩
  ·have h1:=hv.rt_lt (p:=i) (by simpa using hi)
   constructor
   ·simp
   ·simp
    omega
  ·rw [hvn] at e;cases e
 ·rcases key hls h.low l hl n hn with ⟨_,i,hi,rfl⟩ | ⟨_,e⟩
  ·exact Nat.zero_le _
  ·obtain ⟨t,ht,rfl⟩:=List.mem_map.1 e
   exact h.short t ht
end
theorem aGu {B tb mp:Nat} {ox oy:Int} {x y:List Nd} {w:World} (h:jD B tb mp (aQ ox x++aQ oy y) w) (hx:aI x 1=true) (hy:aI y 1=true) (hs:∀t∈aQ ox x++aQ oy y,t.2.1.size≤140737488355328) (hl:(aQ ox x++aQ oy y).length≤1000000) :
  Calls Tryz.prog 120 #[.pointer (some ⟨tb,0,none⟩),.int .i64 ((0:Nat):Int),.int .i64 x.length] w fun e w'=>∃ok:Bool,e=.returned (.bool ok)∧Below B w w'∧nJ none w w'∧
   (ok=true→∃nb,fO B tb mp nb (aQ ox x++aQ oy y) 0 x.length [] [] w')∧(ok=false→∀rest:List (Int×Lt),(∀r∈rest,aI r.2.2 1=true)→¬uU ((aQ ox x++aQ oy y)++bE rest) 0 x.length):=by
 obtain ⟨vn,ve,vl,vs,htm⟩:=h.tm
 have hsm:(aQ ox x++aQ oy y).map Prod.snd=x++y:=by rw [List.map_append,xI,xI]
 have hml:((aQ ox x++aQ oy y).map Prod.snd).length=(aQ ox x++aQ oy y).length:=by simp
 have hxy:(aQ ox x++aQ oy y).length=x.length+y.length:=by simp
 have hx0:0 < x.length:=by
  cases x with
  | nil=>simp [aI] at hx
  | cons=>simp
 have hy0:0 < y.length:=by
  cases y with
  | nil=>simp [aI] at hy
  | cons=>simp
 have hin:=htm.toIn (by rw [kM];simp) (by simp) (by rw [hml];exact hl) (fun n hn=>by obtain ⟨t,ht,rfl⟩:=List.mem_map.1 hn;exact hs t ht)
 refine (aTb B tb vn ve vl vs _ ((aQ ox x++aQ oy y).map Prod.snd) _ (aY (aQ ox x++aQ oy y)) _ h.whole (aBd _) (aSf _) (aSe _) _ 0 x.length w hin (by rw [hml,hxy];omega) (by rw [hml,hxy];omega)).mono ?_
 rintro e w' ⟨ok,rfl,r⟩
 have hint:∀{v:Value} {n:Nat} {xs:List Value},w.ownsRow B 3 1 v n xs→∀(k:Nat) (cs:Array Value) (T:TypeId) (fr:Nat×Nat),w.heap[k]?=some (.cells cs T fr)→T≠3→v.ownBlock≠some k:=by
  intro v n xs ho k cs T fr hk hT e
  obtain ⟨_,⟨rfl,_⟩ | ⟨g,cap,cur,rfl,_,hh,_⟩⟩:=ho
  ·simp [Value.ownBlock] at e
  ·simp [Value.ownBlock] at e
   subst e
   rw [hh] at hk
   simp at hk
   exact hT hk.2.1.symm
 refine ⟨ok,rfl,r.low,fun k cs T fr hk h1 _ _=>r.keep k (Array.getElem?_eq_some_iff.1 hk).1 (hint htm.rl k cs T fr hk h1) (hint htm.rs k cs T fr hk h1),fun hok=>?_,fun hok rest hr hy'=>?_⟩
 ·obtain ⟨F',S',rt',d',t1,t2,t3,t4,t5,t6,t7⟩:=r.st hok
  have hE:(fun i j=>rt' i=rt' j)=eE (aQ ox x++aQ oy y) 0 x.length:=by
   funext i j
   exact propext (t5 i j)
  have h0:=(r.yes.1 hok).2
  have hD:iE (aE ((aQ ox x++aQ oy y).map Prod.snd)) (eE (aQ ox x++aQ oy y) 0 x.length):=Cl.isDown _ _
  have hb:=bS.same hD h0 (Cl.base (Or.inr ⟨rfl,rfl⟩))
  have hends:∀p,p < (aQ ox x++aQ oy y).length→bS (aE ((aQ ox x++aQ oy y).map Prod.snd)) (fun i j=>rt' i=rt' j) p:=by
   intro p hp
   rw [hE]
   rw [hxy] at hp
   by_cases hpx:p < x.length
   ·refine aG8 (fun _=>Cl.refl _) h.whole (i:=0) (by rw [hml,hxy];omega) h0 p (Nat.zero_le _) ?_
    rw [hsm,List.drop_zero,uB x 1 y hx]
    omega
   ·refine aG8 (fun _=>Cl.refl _) h.whole (i:=x.length) (by rw [hml,hxy];omega) hb p (by omega) ?_
    have:=uB y 1 [] hy
    rw [List.append_nil] at this
    rw [hsm,List.drop_left,this]
    omega
  refine ⟨vn.ownBlock,⟨⟨vn,ve,vl,vs,F',rt',d',S',rfl,t1.toRaw htm.ne htm.nl htm.ns,⟨h.whole,by rw [t1.lf,hml],by rw [t1.ls,hml],t2,t3,t4,t5,t6,t7,by rw [hxy];omega,by rw [hxy];omega⟩,hends,aL.nil⟩,by simp,h.first.at (r.keep mp h.first.lt (nZ htm.rl h.first) (nZ htm.rs h.first)),Nat.le_trans h.big r.size,h.ne,h.mlow,hs⟩⟩
 ·obtain ⟨c1,c2⟩:=aTr rest hr h.whole hy'
  have:=r.yes.2 ⟨c1,c2 0 (by rw [hxy];omega)⟩
  rw [hok] at this
  cases this
theorem nJ.row {nb:Option Nat} {w w':World} (hs:nJ nb w w') {B:Nat} {e:TypeId} {s n:Nat} {v:Value} {xs:List Value} (ho:w.ownsRow B e s v n xs) (h1:e≠3) (h2:e≠176) (hn:∀k,v.ownBlock=some k→nb≠some k):w'.ownsRow B e s v n xs:=by
 obtain ⟨h0,⟨rfl,h3⟩ | ⟨g,cap,cur,rfl,hb,hh,hr⟩⟩:=ho
 ·exact ⟨h0,Or.inl ⟨rfl,h3⟩⟩
 ·exact ⟨h0,Or.inr ⟨g,cap,cur,rfl,hb,by rw [hs g cur e (0,0) hh h1 h2 (hn g rfl)];exact hh,hr⟩⟩
structure mO (w0:World) (B tb mp:Nat) (M0:List Tg) (a b:Nat) (R:List (Int×Lt)) (v:Value) (nb:Option Nat) (ls:List (List Nd)) (Q:List (Lt×Value)) (wr:World):Prop where
 con:fO B tb mp nb (M0++bE R) a b (dO M0.length R) ls wr
 len:R.length=ls.length
 made:Q.map Prod.fst=cE R ls
 row:wr.ownsRow B 74 2 v Q.length (aT Q)
 atoms:∀q∈Q,tV wr B q.2 q.1.2∧q.1.2.length≤500∧∀k,q.2.ownBlock=some k→nb≠some k
 low:Below B w0 wr
section
variable {w0 wr wb w2 w3 w5:World} {B tb mp:Nat} {M0:List Tg} {a b:Nat} {R:List (Int×Lt)} {v v3 v5:Value} {nb nb':Option Nat} {ls:List (List Nd)} {Q:List (Lt×Value)} {o:Int} {x:Lt} {l:List Nd}
theorem mO.below (h:mO w0 B tb mp M0 a b R v nb ls Q wr) (hb:Below wr.heap.size wr wb):mO w0 B tb mp M0 a b R v nb ls Q wb:=
 ⟨h.con.below hb,h.len,h.made,aZ h.row hb (Nat.le_refl _),fun q hq=>⟨aZ (h.atoms q hq).1 hb (Nat.le_refl _),(h.atoms q hq).2⟩,h.low.trans (hb.mono h.con.big)⟩
theorem mO.rows (h:mO w0 B tb mp M0 a b R v nb ls Q wr) (hs:nJ nb wr w2):w2.ownsRow B 74 2 v Q.length (aT Q)∧∀q∈Q,tV w2 B q.2 q.1.2:=by
 refine ⟨hs.row h.row (by decide) (by decide) (fun k hk e=>?_),fun q hq=>hs.row (h.atoms q hq).1 (by decide) (by decide) (h.atoms q hq).2.2⟩
 obtain ⟨cs,hc⟩:=h.con.nbT e
 exact dD h.row hc (by decide) hk
theorem mO.add (h:mO w0 B tb mp M0 a b R v nb ls Q wr) (hb:Below B wr w2) (hm:aGn wr nb nb') (hs:nJ nb wr w2) :
  (w2.ownsRow B 74 2 v Q.length (aT Q)∧∀q∈Q,tV w2 B q.2 q.1.2∧q.1.2.length≤500∧∀k,q.2.ownBlock=some k→nb'≠some k)∧Below B w0 w2:=by
 obtain ⟨r1,r2⟩:=h.rows hs
 refine ⟨⟨r1,fun q hq=>⟨r2 q hq,(h.atoms q hq).2.1,fun k hk e=>?_⟩⟩,h.low.trans hb⟩
 rcases hm with m | ⟨g,m,hg⟩
 ·exact (h.atoms q hq).2.2 k hk (by rw [←m,e])
 ·rw [m] at e
  simp at e
  have:=(bY (h.atoms q hq).1 k hk).2
  omega
theorem mO.put (hlen:R.length=ls.length) (hmade:Q.map Prod.fst=cE R ls) (hr:w2.ownsRow B 74 2 v Q.length (aT Q)∧∀q∈Q,tV w2 B q.2 q.1.2∧q.1.2.length≤500∧∀k,q.2.ownBlock=some k→nb≠some k) (hlow:Below B w0 w2) (hc2:fO B tb mp nb (M0++bE R++aQ o x.2) a b (dO M0.length R) ls w2)
  (hc:fO B tb mp nb (M0++bE R++aQ o x.2) a b (dO M0.length R++[(M0++bE R).length]) (ls++[l]) w3) (hb:Below B w2 w3) (hs:nJ nb w2 w3) (h500:l.length≤500) (h3:w3.ownsRow w2.heap.size 106 2 v3 l.length (aP l))
  {X:Obj} (h5:w5.ownsRow B 74 2 v5 (Q.length+1) (aT Q++[.bool x.1,v3])) (hg:(w3.alloc X).grownBy w5 v.ownBlock) :
  mO w0 B tb mp M0 a b (R++[(o,x)]) v5 nb (ls++[l]) (Q++[((x.1,l),v3)]) w5:=by
 have hB2:=hc2.big
 have hal:Below w3.heap.size w3 (w3.alloc X):=(Below.refl _ _).alloc (Nat.le_refl _) X
 have hrow3:w3.ownsRow B 74 2 v Q.length (aT Q):=hs.row hr.1 (by decide) (by decide) (fun k hk e=>by
  obtain ⟨cs,hcs⟩:=hc2.nbT e
  exact dD hr.1 hcs (by decide) hk)
 have hrowA:=aZ hrow3 hal (Nat.le_refl _)
 have hat:∀{q:Value} {m:List Nd} {B':Nat},w3.ownsRow B' 106 2 q m.length (aP m)→w5.ownsRow B' 106 2 q m.length (aP m):=fun hq=>cX (aZ hq hal (Nat.le_refl _)) hg (eV (aZ hq hal (Nat.le_refl _)) hrowA (by decide))
 have e1:M0++bE (R++[(o,x)])=M0++bE R++aQ o x.2:=by rw [aGs,←List.append_assoc]
 have e2:dO M0.length (R++[(o,x)])=dO M0.length R++[(M0++bE R).length]:=by rw [aGt,List.length_append]
 refine ⟨by rw [e1,e2];exact (hc.below hal).lits hrowA hg,by simp [hlen],?_,?_,?_,?_⟩
 ·rw [List.map_append,hmade,aTf R ls hlen]
  rfl
 ·have e3:aT (Q++[((x.1,l),v3)])=aT Q++[.bool x.1,v3]:=by simp [aT]
  rw [e3,List.length_append]
  exact h5
 ·intro q hq
  rcases List.mem_append.1 hq with hq | hq
  ·exact ⟨hat (hs.row (hr.2 q hq).1 (by decide) (by decide) (hr.2 q hq).2.2),(hr.2 q hq).2⟩
  ·simp at hq
   subst hq
   refine ⟨fS (hat h3) hB2,h500,fun k hk e=>?_⟩
   obtain ⟨cs,hcs⟩:=hc2.nbT e
   have h6:=(Array.getElem?_eq_some_iff.1 hcs).1
   have h7:=(bY h3 k hk).1
   omega
 ·have h8:=hlow.trans hb
  have h9:=h8.trans (hal.mono hc.big)
  exact h9.grown hg (by have:=hc.big;simp;omega) (fun k e=>(bY hrowA k e).1)
end
end Go.Proofs.YtbddofieljiihaaGreatDoor
namespace Go.Proofs.YtbddofieljiihaaGreatDoor
open Go.RowKit
set_option maxRecDepth 100000
theorem aTg {c:List Lt} {out:Nat}:∀(d j:Nat),j+d≤c.length→∃s,fX c out (j+d)=fX c out j++s:=by
 intro d
 induction d with
 | zero=>intro j _;exact ⟨[],by simp⟩
 | succ d ih=>
  intro j h
  obtain ⟨s,hs⟩:=ih j (by omega)
  by_cases e:j+d=out
  ·refine ⟨s,?_⟩
   rw [←hs,show j+(d+1)=j+d+1 by omega,e]
   exact aGo (by omega)
  ·refine ⟨s++[c[j+d]'(by omega)],?_⟩
   rw [show j+(d+1)=j+d+1 by omega,aGp (by omega) e,hs,List.append_assoc]
theorem aTh:∀(p q:List (List Lt×Nat)) (o:Nat),aW o (p++q)=aW o p++aW (o+p.length) q:=by
 intro p
 induction p with
 | nil=>intro q o;simp [aW]
 | cons x p ih=>
  intro q o
  simp only [List.cons_append,aW,ih,List.append_assoc,List.length_cons]
  rw [show o+1+p.length=o+(p.length+1) by omega]
theorem uR:∀(ps:List (List Lt×Nat)) (o:Nat) (r:Int×Lt),r∈aW o ps→∃p∈ps,r.2∈p.1:=by
 intro ps
 induction ps with
 | nil=>intro o r h;simp [aW] at h
 | cons p ps ih=>
  intro o r h
  rcases List.mem_append.1 h with h | h
  ·obtain ⟨l,hl,rfl⟩:=List.mem_map.1 h
   exact ⟨p,by simp,List.mem_of_mem_eraseIdx hl⟩
  ·obtain ⟨q,hq,hr⟩:=ih _ r h
   exact ⟨q,by simp [hq],hr⟩
theorem aGv:∀(ps:List (List Lt×Nat)) (o:Nat),(∀p∈ps,p.1.length≤8)→(aW o ps).length≤8 * ps.length:=by
 intro ps
 induction ps with
 | nil=>intro o _;simp [aW]
 | cons p ps ih=>
  intro o h
  have h1:=h p (by simp)
  have h2:=ih (o+1) (fun q hq=>h q (by simp [hq]))
  have h3:=List.length_eraseIdx_le p.1 p.2
  simp only [aW,List.length_append,List.length_map,List.length_cons]
  omega
theorem aTi (c:List Lt) (out j:Nat):(fX c out j).length≤j:=by
 unfold fX
 have:=List.length_eraseIdx_le (c.take j) out
 simp at this
 omega
theorem aTj {Pr:List (List Lt×Nat)} {k:Nat} (hk:k < Pr.length) {j:Nat} (hj:j≤Pr[k].1.length):∃s,aW 0 Pr=(aW 0 (Pr.take k)++(fX Pr[k].1 Pr[k].2 j).map fun l=>((k:Int),l))++s:=by
 obtain ⟨s,hs⟩:=aTg (c:=Pr[k].1) (out:=Pr[k].2) (Pr[k].1.length - j) j (by omega)
 rw [show j+(Pr[k].1.length - j)=Pr[k].1.length by omega,aGq] at hs
 have h1:=aGr Pr 0 k hk
 rw [Nat.zero_add] at h1
 have h2:=aTh (Pr.take (k+1)) (Pr.drop (k+1)) 0
 rw [List.take_append_drop] at h2
 refine ⟨(s.map fun l=>((k:Int),l))++aW (0+(Pr.take (k+1)).length) (Pr.drop (k+1)),?_⟩
 rw [h2,h1,hs,List.map_append]
 simp only [List.append_assoc]
theorem aTk {M0:List Tg} {a b:Nat} {R s:List (Int×Lt)} {ls:List (List Nd)} (h:nL (M0++bE R) a b (dO M0.length R) ls) (hs:∀r∈s,aI r.2.2 1=true) {l:List Nd} (hl:l∈ls) (h5:500 < l.length):gR M0 a b (R++s) [] false 4:=by
 obtain ⟨ms,h1⟩:=nL.all s h hs
 have e1:M0++bE R++bE s=M0++bE (R++s):=by simp [bE]
 have e2:dO M0.length R++dO (M0++bE R).length s=dO M0.length (R++s):=by
  have key:∀(R s:List (Int×Lt)) (n:Nat),dO n R++dO (n+(bE R).length) s=dO n (R++s):=by
   intro R
   induction R with
   | nil=>intro s n;simp [dO,bE]
   | cons r R ih=>
    intro s n
    simp only [List.cons_append,dO]
    rw [←ih,xN]
    simp [Nat.add_assoc]
  rw [List.length_append]
  exact key R s M0.length
 rw [e1,e2] at h1
 have hlen:(R++s).length=(ls++ms).length:=by
  obtain ⟨_,_,_,_,_,_,h2,_⟩:=h1
  have:=h2.length
  rw [aGz] at this
  exact this
 obtain ⟨sg,hm⟩:=aH2 (R++s) (ls++ms) hlen l (List.mem_append.2 (Or.inl hl))
 exact h1.out.1 (aTu hm h5)
end Go.Proofs.YtbddofieljiihaaGreatDoor
namespace Go.Proofs.YtbddofieljiihaaGreatDoor
open Go.RowKit Go.Shelf Go.WideMaps
set_option maxRecDepth 100000
structure uS (w0:World) (B:Nat) (M0:List Tg) (a b:Nat) (rest:List (Int×Lt)) (v:Value) (yes:Bool) (er:Int) (w':World):Prop where
 out:∃out,gR M0 a b rest out yes er∧bK B w' v out∧out.length≤100
 low:Below B w0 w'
def CoQ (w0:World) (B:Nat) (M0:List Tg) (a b:Nat) (rest:List (Int×Lt)) (e:Ending) (w':World):Prop:=∃v yes er,e=.returned (.tuple #[v,.bool yes,.int .i64 er])∧uS w0 B M0 a b rest v yes er w'
theorem aGw {R:List (Int×Lt)} (h:∀r∈R,r.2.2.length≤60):(bE R).length≤60 * R.length:=by
 induction R with
 | nil=>simp [bE]
 | cons r R ih=>
  rw [xN]
  have h1:=h r (by simp)
  have h2:=ih (fun x hx=>h x (by simp [hx]))
  simp
  omega
theorem aTl {Q:List (Lt×Value)} (h:(Q.map fun q=>q.2.ownBlock).Nodup):((Q.map Prod.snd).filterMap Value.ownBlock).Nodup:=by
 rw [List.filterMap_map]
 unfold List.Nodup at h ⊢
 rw [List.pairwise_map] at h
 refine List.Pairwise.filterMap _ (fun x y hr b hb b' hb' e=>hr ?_) h
 subst e
 have e1:x.2.ownBlock=some b:=hb
 have e2:y.2.ownBlock=some b:=hb'
 rw [e1,e2]
theorem uT {c:List Lt} {m:Nat} (h:∀x∈c,x.2.length≤m):aN c≤m * c.length:=by
 induction c with
 | nil=>simp [aN]
 | cons x r ih=>
  have h1:=h x (by simp)
  have h2:=ih (fun y hy=>h y (by simp [hy]))
  have h3:aN (x :: r)=x.2.length+aN r:=by simp [aN]
  rw [h3,List.length_cons,Nat.mul_add]
  omega
structure pA (w0:World) (B tb mp:Nat) (M0:List Tg) (a b pb:Nat) (pc:Array Value) (R:List (Int×Lt)) (v:Value) (wr:World):Prop where
 st:∃nb ls Q,mO w0 B tb mp M0 a b R v nb ls Q wr
 prem:wr.heap[pb]?=some (.cells pc 167)
theorem pA.below {w0 wr w2:World} {B tb mp:Nat} {M0:List Tg} {a b pb:Nat} {pc:Array Value} {R:List (Int×Lt)} {v:Value} (h:pA w0 B tb mp M0 a b pb pc R v wr) (hb:Below wr.heap.size wr w2):pA w0 B tb mp M0 a b pb pc R v w2:=by
 obtain ⟨nb,ls,Q,hs⟩:=h.st
 exact ⟨⟨nb,ls,Q,hs.below hb⟩,by rw [hb.block pb (Array.getElem?_eq_some_iff.1 h.prem).1];exact h.prem⟩
theorem nJ.at {nb:Option Nat} {w w':World} (hs:nJ nb w w') {k:Nat} {cs:Array Value} {T:TypeId} (hk:w.heap[k]?=some (.cells cs T)) (h1:T≠3) (h2:T≠176) (h3:T≠106) (hn:∀k,nb=some k→∃cs,w.heap[k]?=some (.cells cs 106)):w'.heap[k]?=some (.cells cs T):=by
 rw [hs k cs T (0,0) hk h1 h2 (fun e=>by
  obtain ⟨cs',hc⟩:=hn k e
  rw [hk] at hc
  simp at hc
  exact h3 hc.2)]
 exact hk
set_option maxHeartbeats 8000000 in
theorem aGx (w0:World) (B tb mp:Nat) (M0:List Tg) (a b pb pn:Nat) (pc:Array Value) (ad:Nat→Option Addr) (cp:Nat→Nat) (Pr:List (List Lt×Nat)) (w:World) (h:pA w0 B tb mp M0 a b pb pc [] (.slice none 0 0) w) (hB:w0.heap.size=B)
  (hp:∀k (h:k < Pr.length),pc[k * 2]?=some (.slice (ad k) Pr[k].1.length (cp k))∧pc[k * 2+1]?=some (.int .i64 Pr[k].2)∧bP w0 (ad k) Pr[k].1∧Pr[k].2 < Pr[k].1.length∧Pr[k].1.length≤8∧∀x∈Pr[k].1,aI x.2 1=true∧x.2.length≤60) (h2:Pr.length≤2) (hM:M0.length≤120) :
  Calls Tryz.prog 122 #[.pointer (some ⟨tb,0,none⟩),.slice (some ⟨pb,0,none⟩) Pr.length pn] w fun e w'=>CoQ w0 B M0 a b (aW 0 Pr) e w':=by
 have HH:=aA h
 have HP:=aA hp
 clear h hp
 obtain ⟨iL,hI,hI0,hI1,hI2⟩:=info_parts qP
 go_enter Tryz.func122,Tryz.ntmps122
 go_wp2
 go_loopw [7,16] (fun v i wr=>∃k:Nat,k≤Pr.length∧i=.int .i64 k∧pA w0 B tb mp M0 a b pb pc (aW 0 (Pr.take k)) v wr) (fun _ i _=>Pr.length - (intOf i).toNat)
 case atStart=>exact ⟨0,Nat.zero_le _,rfl,by simpa [aW] using HH.out⟩
 case round=>
  obtain ⟨k,hk,rfl,hW⟩:=hrel
  by_cases hlt:k < Pr.length
  ·obtain ⟨p1,p2,p3,p4,p5,p6⟩:=HP.out k hlt
   have hlti:(k:Int) < (Pr.length:Int):=by omega
   have e1:wr.cell? ⟨pb,k * 2,none⟩=some (.slice (ad k) Pr[k].1.length (cp k)):=by simp [World.cell?,hW.prem,p1]
   have e2:wr.cell? ⟨pb,k * 2+1,none⟩=some (.int .i64 Pr[k].2):=by simp [World.cell?,hW.prem,p2]
   have HW:=aA hW
   have HLI:=aA p3
   have HTM:=aA p6
   have HRT:=aA (aGr Pr 0 k hlt)
   rw [Nat.zero_add] at HRT
   have HSP:=aA (fun j hj=>aTj hlt (j:=j) hj)
   generalize Pr[k].1=c at *
   generalize Pr[k].2=out at *
   clear hW p1 p2 p3 p6
   obtain ⟨adk,hadk⟩ : ∃x,ad k=x:=⟨_,rfl⟩
   rw [hadk] at e1 HLI
   obtain ⟨cpk,hcpk⟩ : ∃x,cp k=x:=⟨_,rfl⟩
   rw [hcpk] at e1
   clear hadk hcpk
   go_wp2
   clear e1 e2
   have hbA:Below wr.heap.size wr (wr.alloc (.cells #[.slice adk c.length cpk,.int .i64 out] 167)):=(Below.refl _ _).alloc (Nat.le_refl _) _
   have HW1:=aA (HW.out.below hbA)
   have hbox:(wr.alloc (.cells #[.slice adk c.length cpk,.int .i64 out] 167)).heap[wr.heap.size]?=some (.cells #[.slice adk c.length cpk,.int .i64 out] 167):=by
    show (wr.heap.push _)[wr.heap.size]?=_
    simp
   have HBOX:=aA hbox
   clear hbA hbox
   go_loopw [7,24] (fun v i wx=>∃j:Nat,j≤c.length∧i=.int .i64 j∧pA w0 B tb mp M0 a b pb pc (aW 0 (Pr.take k)++(fX c out j).map fun l=>((k:Int),l)) v wx∧wx.heap[wr.heap.size]?=some (.cells #[.slice adk c.length cpk,.int .i64 out] 167)) (fun _ i _=>c.length - (intOf i).toNat)
   case atStart=>exact ⟨0,Nat.zero_le _,rfl,by simpa [aTe] using HW1.out,HBOX.out⟩
   case round=>
    obtain ⟨j,hj,rfl,hX,hbx⟩:=hrel
    rename World=>wx
    by_cases hjl:j < c.length
    ·have hjli:(j:Int) < (c.length:Int):=by omega
     obtain ⟨nb,ls,Q,hS⟩:=hX.st
     obtain ⟨bq,o1,aa,acp,rfl,e1,f1,g1⟩:=HLI.out.cell j hjl
     have e2:=Below.at' hS.low (by omega) e1
     have f2:=Below.at' hS.low (by omega) f1
     obtain ⟨y0,y1⟩ : wx.cell? ⟨wr.heap.size,0,none⟩=some (.slice (some ⟨bq,o1,none⟩) c.length cpk)∧wx.cell? ⟨wr.heap.size,1,none⟩=some (.int .i64 out):=⟨by simp [World.cell?,hbx],by simp [World.cell?,hbx]⟩
     have hwx:wr.heap.size < wx.heap.size:=(Array.getElem?_eq_some_iff.1 hbx).1
     by_cases hjo:j=out
     ·subst hjo
      have HX:=aA (hX.below ((Below.refl wx.heap.size wx).alloc (Nat.le_refl _) (.cells #[.bool c[j].1,.slice aa c[j].2.length acp] 74)))
      have HBX2:Hid ((wx.alloc (.cells #[.bool c[j].1,.slice aa c[j].2.length acp] 74)).heap[wr.heap.size]?=some (.cells #[.slice (some ⟨bq,o1,none⟩) c.length cpk,.int .i64 j] 167)):=aA (by rw [((Below.refl wx.heap.size wx).alloc (Nat.le_refl _) _).block _ (Array.getElem?_eq_some_iff.1 hbx).1];exact hbx)
      have HSK:=aA (aGo hjl)
      clear hX hbx hS e1 f1 g1
      go_wp2
      go_roundw
      case rel=>exact ⟨j+1,by omega,by go_num,by rw [HSK.out];exact HX.out,HBX2.out⟩
      case measure=>simp [intOf];omega
     ·have hjoi:¬((j:Int)=(out:Int)):=by omega
      obtain ⟨t1,t60⟩:=HTM.out c[j] (List.getElem_mem _)
      have hR60:∀r∈aW 0 (Pr.take k)++(fX c out j).map fun l=>((k:Int),l),r.2.2.length≤60:=by
       intro r hr
       rcases List.mem_append.1 hr with hr | hr
       ·obtain ⟨q,hq,hm⟩:=uR _ _ r hr
        obtain ⟨i,hi,rfl⟩:=List.getElem_of_mem (List.mem_of_mem_take hq)
        exact ((HP.out i hi).2.2.2.2.2 _ hm).2
       ·obtain ⟨l,hl,rfl⟩:=List.mem_map.1 hr
        exact (HTM.out l (List.mem_of_mem_take (List.mem_of_mem_eraseIdx hl))).2
      have hRl:(aW 0 (Pr.take k)++(fX c out j).map fun l=>((k:Int),l)).length≤24:=by
       have h1:=aGv (Pr.take k) 0 (fun q hq=>by
        obtain ⟨i,hi,rfl⟩:=List.getElem_of_mem (List.mem_of_mem_take hq)
        exact (HP.out i hi).2.2.2.2.1)
       have h2:=aTi c out j
       simp at h1 ⊢
       omega
      have hR1:aW 0 (Pr.take k)++(fX c out (j+1)).map (fun l=>((k:Int),l))=(aW 0 (Pr.take k)++(fX c out j).map fun l=>((k:Int),l))++[((k:Int),c[j])]:=by
       rw [aGp hjl hjo,List.map_append,List.append_assoc]
       rfl
      obtain ⟨sR,hsR⟩:=HSP.out (j+1) (by omega)
      have HR1:=aA hR1
      rw [hR1] at hsR
      have HSR:=aA hsR
      have HST:Hid (∀r∈sR,aI r.2.2 1=true):=aA fun r hr=>by
       obtain ⟨q,hq,hm⟩:=uR Pr 0 r (by rw [hsR];exact List.mem_append.2 (Or.inr hr))
       obtain ⟨i,hi,rfl⟩:=List.getElem_of_mem hq
       exact ((HP.out i hi).2.2.2.2.2 _ hm).1
      have hlnR:=aGw hR60
      clear hR1 hsR hR60
      generalize aW 0 (Pr.take k)++(fX c out j).map (fun l=>((k:Int),l))=R at *
      have hln:(M0++bE R).length≤2000:=by simp;omega
      have hbl:Below wx.heap.size wx (wx.alloc (.cells #[.bool c[j].1,.slice aa c[j].2.length acp] 74)):=(Below.refl _ _).alloc (Nat.le_refl _) _
      have hS1:=hS.below hbl
      have hbl1:(wx.alloc (.cells #[.bool c[j].1,.slice aa c[j].2.length acp] 74)).heap[wx.heap.size]?=some (.cells #[.bool c[j].1,.slice aa c[j].2.length acp] 74):=by
       show (wx.heap.push _)[wx.heap.size]?=_
       simp
      have hbx1:(wx.alloc (.cells #[.bool c[j].1,.slice aa c[j].2.length acp] 74)).heap[wr.heap.size]?=some (.cells #[.slice (some ⟨bq,o1,none⟩) c.length cpk,.int .i64 out] 167):=by rw [hbl.block _ hwx];exact hbx
      have hpb1:(wx.alloc (.cells #[.bool c[j].1,.slice aa c[j].2.length acp] 74)).heap[pb]?=some (.cells pc 167):=by rw [hbl.block _ (Array.getElem?_eq_some_iff.1 hX.prem).1];exact hX.prem
      have hx0:0 < c[j].2.length:=by
       cases hc0:c[j].2 with
       | nil=>rw [hc0] at t1;simp [aI] at t1
       | cons=>simp
      have CA:=aA (aTc hS1.con (k:Int) aa acp c[j].2 ((g1.below hS.low (by omega)).below hbl (Nat.le_refl _)) t1 (fun p hp=>by have:=uQ g1 t1 p hp;omega) (by omega) (by omega))
      have HS1:=aA hS1
      have HB1:=aA (And.intro hbl1 (And.intro hbx1 hpb1))
      have hszW:(wx.alloc (.cells #[.bool c[j].1,.slice aa c[j].2.length acp] 74)).heap.size=wx.heap.size+1:=by simp
      clear hX hbx hS e1 f1 g1 hS1 hbl hbl1 hbx1 hpb1 t1
      generalize c[j]=x at *
      have hlx:(M0++bE R++aQ (k:Int) x.2).length=(M0++bE R).length+x.2.length:=by rw [List.length_append,List.length_map]
      have hlx1:(M0++bE R).length < (M0++bE R++aQ (k:Int) x.2).length:=by omega
      have hlx2:(M0++bE R++aQ (k:Int) x.2).length≤1000000:=by omega
      obtain ⟨N,hN⟩ : ∃N,(M0++bE R).length=N:=⟨_,rfl⟩
      rw [hN] at CA hlx1
      have HLX:=aA (And.intro hlx1 hlx2)
      have HNN:=aA hN
      clear hlx hlx1 hlx2 hln hlnR hN
      go_upto_region 10 with (first
       | (go_at_call 135;refine (aB CM).mono ?_;rintro e w3 ⟨v3,y3,rfl,hb3,hz3,hs3,l3,hyes,hno⟩;have HB3:=aA hb3;have HS3:=aA hs3;have HY:=aA hyes;have HN:=aA hno;clear hb3 hs3 hyes hno)
       | (go_at_call 121;refine (aB CA).mono ?_;rintro e w2 ⟨rfl,nb2,hc2,hb2,hm2,hs2⟩;have HADD:=aA (HS1.out.add hb2 hm2 hs2);have HK2:=aA (And.intro (hs2.at HB1.out.1 (by decide) (by decide) (by decide) (fun _ e=>HS1.out.con.nbT e)) (And.intro (hs2.at HB1.out.2.1 (by decide) (by decide) (by decide) (fun _ e=>HS1.out.con.nbT e)) (hs2.at HB1.out.2.2 (by decide) (by decide) (by decide) (fun _ e=>HS1.out.con.nbT e))));have hz2:=hb2.size;have HC2:=aA hc2;have CM:=aA (aTd hc2 N HLX.out.1 HLX.out.2);clear hb2 hm2 hs2 hc2)
       | go_in)
      have k3:=And.intro (HS3.out.at HK2.out.1 (by decide) (by decide) (by decide) (fun _ e=>HC2.out.nbT e)) (And.intro (HS3.out.at HK2.out.2.1 (by decide) (by decide) (by decide) (fun _ e=>HC2.out.nbT e)) (HS3.out.at HK2.out.2.2 (by decide) (by decide) (by decide) (fun _ e=>HC2.out.nbT e)))
      obtain ⟨z0,z1⟩ : w3.cell? ⟨wx.heap.size,0,none⟩=some (.bool x.1)∧w3.cell? ⟨wx.heap.size,1,none⟩=some (.slice aa x.2.length acp):=⟨by simp [World.cell?,k3.1],by simp [World.cell?,k3.1]⟩
      have HK3:=aA k3
      clear k3 CM CA
      cases y3 with
      | false=>
       obtain ⟨n1,n2,n3⟩:=HN.out rfl
       subst n1
       have hpu:=n3.pure
       have e1:M0++bE R++aQ (k:Int) x.2=M0++bE (R++[((k:Int),x)]):=by rw [aGs,←List.append_assoc]
       have e2:dO M0.length R++[N]=dO M0.length (R++[((k:Int),x)]):=by rw [aGt,←HNN.out,List.length_append]
       rw [e1,e2] at hpu
       have HMANY:Hid (gR M0 a b (aW 0 Pr) [] false 4):=aA (by rw [HSR.out];exact aTk hpu HST.out (List.mem_append.2 (Or.inr (List.mem_singleton.2 rfl))) n2)
       have HLOW:=aA (HADD.out.2.trans HB3.out)
       clear n3 hpu e1 e2
       go_wp2
       go_returns
       exact ⟨_,_,_,rfl,⟨⟨[],HMANY.out,bK.nil _ _,by simp⟩,HLOW.out⟩⟩
      | true=>
       obtain ⟨n1,n2,n3,n4⟩:=HY.out rfl
       rw [←HNN.out] at n4
       obtain ⟨a3,c3,rfl⟩:=aR n3
       have hrow3:w3.ownsRow B 74 2 u7 Q.length (aT Q):=HS3.out.row HADD.out.1.1 (by decide) (by decide) (fun k hk e=>by
        obtain ⟨cs,hcs⟩:=HC2.out.nbT e
        exact dD HADD.out.1.1 hcs (by decide) hk)
       have hQl:Q.length≤24:=by
        have h1:=congrArg List.length HS1.out.made
        have h2:=HS1.out.len
        simp [cE] at h1
        omega
       obtain ⟨va,vc,hu7⟩:=aR hrow3
       subst hu7
       have HROW3:=aA hrow3
       have hB3:B≤w3.heap.size:=n4.big
       have HN3:=aA n3
       have HN4:=aA n4
       clear hrow3 n3 n4
       generalize hql:Q.length=ql at *
       have HQL:=aA hql
       clear hql
       go_wp2_with (first
        | (at_builtin;refine wpList_append_own _ rfl (.tmp 45) (.tmp 50) 24 rfl B 74 iL (.agg #[.bool false,.slice none 0 0]) 2 32 Tryz.underlying24 hI hI0 hI1 hI2 rfl (by decide) _ _ _ rfl (HROW3.out.alloc _) ⟨_,0,none⟩ 1 1 [.bool x.1,.slice a3 l3.length c3] rfl rfl (iV w3 _ _ _ _ rfl) (qQ _ _ _ _) (by unfold maxLen;omega) (by omega) (by simp;omega) ?_;intro v5 w5 ho5 hg5 _;have HO5:=aA ho5;have HG5:=aA hg5;clear ho5 hg5)
        | go_in)
       have hz23:=HB3.out.size
       have hA3:Below w3.heap.size w3 (w3.alloc (.cells #[.bool x.1,.slice a3 l3.length c3] 74)):=(Below.refl _ _).alloc (Nat.le_refl _) _
       have hrA:(w3.alloc (.cells #[.bool x.1,.slice a3 l3.length c3] 74)).ownsRow B 74 2 (.slice va ql vc) ql (aT Q):=aZ HROW3.out hA3 (Nat.le_refl _)
       have hg5:(w3.alloc (.cells #[.bool x.1,.slice a3 l3.length c3] 74)).grownBy w5 (Value.slice va ql vc).ownBlock:=HG5.out
       have keep:∀{q:Nat} {cs:Array Value},w3.heap[q]?=some (.cells cs 167)→w5.heap[q]?=some (.cells cs 167):=by
        intro q cs hq
        have hq':(w3.alloc (.cells #[.bool x.1,.slice a3 l3.length c3] 74)).heap[q]?=some (.cells cs 167):=by rw [hA3.block q (Array.getElem?_eq_some_iff.1 hq).1];exact hq
        rw [hg5.block q (Array.getElem?_eq_some_iff.1 hq').1 (fun e=>dD hrA hq' (by decide) e.symm)]
        exact hq'
       have HL5:Hid (mO w0 B tb mp M0 a b (R++[((k:Int),x)]) v5 nb2 (ls++[l3]) (Q++[((x.1,l3),.slice a3 l3.length c3)]) w5):=aA (by
        have hlen:=HS1.out.len
        have hmade:=HS1.out.made
        have hadd:=HADD.out
        have ho5:=HO5.out
        rw [←HQL.out] at hadd ho5 hg5
        exact mO.put (x:=x) hlen hmade hadd.1 hadd.2 HC2.out HN4.out HB3.out HS3.out n1 HN3.out ho5 hg5)
       have HK5:=aA (And.intro (keep HK3.out.2.1) (keep HK3.out.2.2))
       clear hA3 hrA hg5 keep
       go_roundw
       case rel=>exact ⟨j+1,by omega,by go_num,⟨⟨_,_,_,by rw [HR1.out];exact HL5.out⟩,HK5.out.2⟩,HK5.out.1⟩
       case measure=>simp [intOf];omega
    ·have hje:j=c.length:=by omega
     subst hje
     have hji:¬((c.length:Int) < (c.length:Int)):=by omega
     have HX:Hid (pA w0 B tb mp M0 a b pb pc (aW 0 (Pr.take (k+1))) u7 wx):=aA (by rw [HRT.out,←aGq];exact hX)
     clear hX hbx
     go_wp2
     go_roundw
     case rel=>exact ⟨k+1,by omega,by go_num,HX.out⟩
     case measure=>simp [intOf];omega
  ·have hke:k=Pr.length:=by omega
   subst hke
   have hki:¬((Pr.length:Int) < (Pr.length:Int)):=by omega
   rw [List.take_length] at hW
   obtain ⟨nb,ls,Q,hS⟩:=hW.st
   have hR60:∀r∈aW 0 Pr,r.2.2.length≤60:=by
    intro r hr
    obtain ⟨q,hq,hm⟩:=uR _ _ r hr
    obtain ⟨i,hi,rfl⟩:=List.getElem_of_mem hq
    exact ((HP.out i hi).2.2.2.2.2 _ hm).2
   have hRl:=aGv Pr 0 (fun q hq=>by
    obtain ⟨i,hi,rfl⟩:=List.getElem_of_mem hq
    exact (HP.out i hi).2.2.2.2.1)
   have hlnR:=aGw hR60
   have hln:(M0++bE (aW 0 Pr)).length≤1000000:=by simp;omega
   have hnod:=hS.con.nodes hln
   have hpu:=hS.con.pure.out
   have hcl:(cE (aW 0 Pr) ls).length≤16:=by simp [cE];omega
   have hmem:∀x∈cE (aW 0 Pr) ls,x.2∈ls:=by
    intro x hx
    unfold cE at hx
    rw [List.mem_iff_getElem] at hx
    obtain ⟨i,hi,rfl⟩:=hx
    simp at hi ⊢
   have h500:∀x∈cE (aW 0 Pr) ls,x.2.length≤500:=by
    intro x hx
    rw [←hS.made] at hx
    obtain ⟨q,hq,rfl⟩:=List.mem_map.1 hx
    exact (hS.atoms q hq).2.1
   have hcnt:=uT h500
   have hsh:sL (cE (aW 0 Pr) ls):=fun x hx=>⟨by have:=h500 x hx;omega,(hnod x.2 (hmem x hx)).2⟩
   obtain ⟨va,vc,rfl,hli⟩:=aF9 hS.made hS.row (fun q hq=>(hS.atoms q hq).1) (by omega) hsh
   have CO:=aA (aEv va vc (cE (aW 0 Pr) ls) wr hli (fun x hx=>(hnod x.2 (hmem x hx)).1) (by omega) (by omega))
   have hol:(aS (cE (aW 0 Pr) ls)).length≤16:=by
    have h1:=(qO (cE (aW 0 Pr) ls)).1
    have h2:=(pM (bQ (cE (aW 0 Pr) ls))).1
    unfold aS
    omega
   have hosh:sL (aS (cE (aW 0 Pr) ls)):=hsh.ord
   have HOUT:=aA hpu
   have HLOW:=aA hS.low
   have HBIG:=aA hS.con.big
   have CN:=aA (fun (w2:World) (v2:Value) (nb2:Nat) (Q2:List (Lt×Value)) (hO:sI wr (cE (aW 0 Pr) ls) v2 nb2 Q2 w2)=>(show Calls Tryz.prog 47 #[.slice (some ⟨nb2,0,none⟩) (aS (cE (aW 0 Pr) ls)).length (aS (cE (aW 0 Pr) ls)).length] w2 fun e w'=>e=.returned (.int .i64 (aN (aS (cE (aW 0 Pr) ls))))∧Below w2.heap.size w2 w' from by
    have hl2:Q2.length=(aS (cE (aW 0 Pr) ls)).length:=by rw [←hO.made];simp
    obtain ⟨a2,c2,e2,hl⟩:=aF9 hO.made (by have:=hO.row;rw [←hl2] at this;exact this) hO.atoms (by omega) hosh
    simp at e2
    obtain ⟨rfl,_⟩:=e2
    exact aAa _ _ _ w2 hl (by omega)))
   have HMEM:=aA (fun (w2 w3:World) (v2:Value) (nb2:Nat) (Q2:List (Lt×Value)) (hO:sI wr (cE (aW 0 Pr) ls) v2 nb2 Q2 w2) (hb:Below w2.heap.size w2 w3)=>(show bK B w3 (.slice (some ⟨nb2,0,none⟩) (aS (cE (aW 0 Pr) ls)).length (aS (cE (aW 0 Pr) ls)).length) (aS (cE (aW 0 Pr) ls))∧Below B w0 w3 from by
    have hl2:Q2.length=(aS (cE (aW 0 Pr) ls)).length:=by rw [←hO.made];simp
    refine ⟨⟨Q2,hO.made,?_,fun q hq=>fS (aZ (hO.atoms q hq) hb (Nat.le_refl _)) HBIG.out,aTl hO.once⟩,(HLOW.out.trans (hO.low.mono HBIG.out)).trans (hb.mono (Nat.le_trans HBIG.out hO.low.size))⟩
    have h1:=fS (aZ hO.row hb (Nat.le_refl _)) HBIG.out
    rw [hl2]
    exact h1))
   clear hW hS hpu hnod hmem h500 hsh hli hcnt hosh hln hlnR hR60 hRl
   generalize cE (aW 0 Pr) ls=cc at *
   obtain ⟨n5,hn5⟩ : ∃n,aN (aS cc)=n:=⟨_,rfl⟩
   rw [hn5] at CN HOUT
   by_cases h5:500 < n5
   ·have h5i:(500:Int) < (n5:Int):=by omega
    have HO5:=aA (HOUT.out.1 h5)
    go_wp2_with (first
     | (go_at_call 46;refine (aB CO).mono ?_;rintro e w2 ⟨v2,nb2,Q2,rfl,hO⟩;have hv2:=hO.val;subst hv2;have HO:=aA hO;have CN2:=aA (CN.out w2 _ nb2 Q2 hO);clear hO)
     | (go_at_call 47;refine (aB CN2).mono ?_;rintro e w3 ⟨rfl,hb3⟩;have HM3:=aA (HMEM.out w2 w3 _ nb2 Q2 HO.out hb3);clear hb3)
     | go_in)
    go_returns
    exact ⟨_,_,_,rfl,⟨⟨[],HO5.out,bK.nil _ _,by simp⟩,HM3.out.2⟩⟩
   ·have h5i:¬((500:Int) < (n5:Int)):=by omega
    have HO5:=aA (HOUT.out.2 (by omega))
    go_wp2_with (first
     | (go_at_call 46;refine (aB CO).mono ?_;rintro e w2 ⟨v2,nb2,Q2,rfl,hO⟩;have hv2:=hO.val;subst hv2;have HO:=aA hO;have CN2:=aA (CN.out w2 _ nb2 Q2 hO);clear hO)
     | (go_at_call 47;refine (aB CN2).mono ?_;rintro e w3 ⟨rfl,hb3⟩;have HM3:=aA (HMEM.out w2 w3 _ nb2 Q2 HO.out hb3);clear hb3)
     | go_in)
    go_returns
    exact ⟨_,_,_,rfl,⟨⟨_,HO5.out,HM3.out.1,by omega⟩,HM3.out.2⟩⟩
theorem jD.below {B tb mp:Nat} {M:List Tg} {w w':World} (h:jD B tb mp M w) (hb:Below w.heap.size w w'):jD B tb mp M w':=by
 obtain ⟨vn,ve,vl,vs,htm⟩:=h.tm
 exact ⟨⟨vn,ve,vl,vs,htm.below hb⟩,h.first.at (hb.block mp h.first.lt),h.whole,Nat.le_trans h.big hb.size,h.ne,h.mlow⟩
theorem uS.lift {w w2 w':World} {M0:List Tg} {a b:Nat} {rest:List (Int×Lt)} {v:Value} {yes:Bool} {er:Int} (h:uS w2 w2.heap.size M0 a b rest v yes er w') (hb:Below w.heap.size w w2):uS w w.heap.size M0 a b rest v yes er w':=by
 obtain ⟨out,h1,⟨Q,q1,q2,q3,q4⟩,h3⟩:=h.out
 exact ⟨⟨out,h1,⟨Q,q1,fS q2 hb.size,fun q hq=>fS (q3 q hq) hb.size,q4⟩,h3⟩,hb.trans (h.low.mono hb.size)⟩
set_option maxHeartbeats 8000000 in
theorem aGy (a1 a2:Option Addr) (c1 c2:Nat) (c d:List Lt) (i j:Nat) (w:World) (h1:bP w a1 c) (h2:bP w a2 d) (hc:∀x∈c,aI x.2 1=true∧x.2.length≤60) (hd:∀x∈d,aI x.2 1=true∧x.2.length≤60) (hi:i < c.length) (hj:j < d.length) (hc8:c.length≤8) (hd8:d.length≤8) :
  Calls Tryz.prog 96 #[.slice a1 c.length c1,.int .i64 i,.slice a2 d.length c2,.int .i64 j] w fun e w'=>CoQ w w.heap.size (aQ 0 c[i].2++aQ 1 d[j].2) 0 c[i].2.length (aW 0 [(c,i),(d,j)]) e w':=by
 obtain ⟨b1,o1,aa,ac,rfl,e1,e2,g1⟩:=h1.cell i hi
 obtain ⟨b2,o2,ba,bc,rfl,f1,f2,g2⟩:=h2.cell j hj
 obtain ⟨t1,s1⟩:=hc c[i] (List.getElem_mem _)
 obtain ⟨t2,s2⟩:=hd d[j] (List.getElem_mem _)
 have hcn:=uT (m:=60) (fun x hx=>(hc x hx).2)
 have hdn:=uT (m:=60) (fun x hx=>(hd x hx).2)
 have CN1:=aA (wO _ c1 c w h1 hc8)
 have CN2:=aA (fun (wx:World) (hb:Below w.heap.size w wx)=>wO _ c2 d wx (h2.below hb (Nat.le_refl _)) hd8)
 have CW:=aA (fun (wx:World)=>aGf (aN c+aN d) (by omega) wx)
 have H1:=aA h1
 have H2:=aA h2
 have HC:=aA hc
 have HD:=aA hd
 have G1:=aA g1
 have G2:=aA g2
 have hci:(i:Int) < (c.length:Int):=by omega
 have hdj:(j:Int) < (d.length:Int):=by omega
 have hx0:c[i].2.length≤60:=s1
 clear h1 h2 hc hd g1 g2 e1 f1
 go_enter Tryz.func96,Tryz.ntmps96
 go_upto_region 2 with (first
  | (go_at_call 119;refine (aB CW _).mono ?_;rintro e w3 ⟨tb,mp,vn,ve,vl,vs,rfl,hN⟩;have HN:=aA hN;clear hN)
  | (go_at_call 47;refine (aB CN2 w1 HB1.out).mono ?_;rintro e w2 ⟨rfl,hb2⟩;have HB2:=aA (HB1.out.trans (hb2.mono HB1.out.size));clear hb2)
  | (go_at_call 47;refine (aB CN1).mono ?_;rintro e w1 ⟨rfl,hb1⟩;have HB1:=aA hb1;clear hb1)
  | go_in)
 have HB3:=aA (HB2.out.trans (HN.out.low.mono HB2.out.size))
 have HA0:=aA (jD.new HN.out)
 have hz2:=HB2.out.size
 have hz3:=HN.out.low.size
 have CA1:=aA (fun (wx:World) (hA:jD w2.heap.size tb mp [] wx) (hb:Below w.heap.size w wx)=>xK hA 0 aa ac c[i].2 (G1.out.below hb (Nat.le_refl _)) t1 (fun p hp=>by have:=uQ G1.out t1 p hp;omega) (by simp;omega) (by omega))
 have CA2:=aA (fun (wx:World) (hA:jD w2.heap.size tb mp ([]++aQ 0 c[i].2) wx) (hb:Below w.heap.size w wx)=>xK hA 1 ba bc d[j].2 (G2.out.below hb (Nat.le_refl _)) t2 (fun p hp=>by have:=uQ G2.out t2 p hp;omega) (by simp;omega) (by omega))
 have CU:=aA (fun (wx:World) (hA:jD w2.heap.size tb mp (aQ 0 c[i].2++aQ 1 d[j].2) wx)=>aGu hA t1 t2 (fun t ht=>by
  rcases List.mem_append.1 ht with ht | ht
  ·obtain ⟨n,hn,rfl⟩:=List.mem_map.1 ht
   obtain ⟨k,hk,rfl⟩:=List.getElem_of_mem hn
   exact G1.out.short k hk
  ·obtain ⟨n,hn,rfl⟩:=List.mem_map.1 ht
   obtain ⟨k,hk,rfl⟩:=List.getElem_of_mem hn
   exact G2.out.short k hk) (by simp;omega))
 have e3:=Below.at' HB3.out (Nat.le_refl _) e2
 have f3:=Below.at' HB3.out (Nat.le_refl _) f2
 rw [show (([]:List Tg).length:Int)=((0:Nat):Int) from rfl] at CA1
 rw [show (([]++aQ 0 c[i].2:List Tg).length:Int)=((c[i].2.length:Nat):Int) by simp] at CA2
 clear CN1 CN2 CW
 go_region_held3 (fun w'=>w'.cell? ⟨b1,o1+i * 2+1,none⟩=some (.slice aa c[i].2.length ac)∧w'.cell? ⟨b2,o2+j * 2+1,none⟩=some (.slice ba d[j].2.length bc)) (first | exact ⟨Below.at' HBU.out (Nat.le_refl _) e2,Below.at' HBU.out (Nat.le_refl _) f2⟩ | exact ⟨Below.at' HB5.out (Nat.le_refl _) e2,Below.at' HB5.out (Nat.le_refl _) f2⟩ | exact ⟨Below.at' HB4.out (Nat.le_refl _) e2,Below.at' HB4.out (Nat.le_refl _) f2⟩ | go_keep) (first
  | (go_at_call 120;refine (aB CU w5 HA5.out).mono ?_;rintro e w6 ⟨ok,rfl,hb6,hs6,hy6,hn6⟩;have HBU:=aA (HB5.out.trans (hb6.mono hz2));have HL6:=aA (HL5.out.trans hb6);have HY:=aA hy6;have HNO:=aA hn6;have HSU:=aA hs6;clear hb6 hs6 hy6 hn6)
  | (go_at_call 121;refine (aB CA2 w4 HA4.out HB4.out).mono ?_;rintro e w5 ⟨rfl,hA5,hb5⟩;have HA5:=aA hA5;have HB5:=aA (HB4.out.trans (hb5.mono hz2));have HL5:=aA (HL4.out.trans hb5);clear hA5 hb5)
  | (go_at_call 121;refine (aB CA1 w3.drew (HA0.out.below (aJ ⟨1,rfl⟩)) (HB3.out.trans ((aJ (w1:=w3.drew) ⟨1,rfl⟩).mono (by omega)))).mono ?_;rintro e w4 ⟨rfl,hA4,hb4⟩;have HA4:=aA hA4;have HL4:=aA ((HN.out.low.trans ((aJ (w1:=w3.drew) ⟨1,rfl⟩).mono hz3)).trans hb4);have HB4:=aA ((HB3.out.trans ((aJ (w1:=w3.drew) ⟨1,rfl⟩).mono (by omega))).trans (hb4.mono hz2));clear hA4 hb4))
 have hrest:∀r∈aW 0 [(c,i),(d,j)],aI r.2.2 1=true:=by
  intro r hr
  obtain ⟨q,hq,hm⟩:=uR _ _ r hr
  simp at hq
  rcases hq with rfl | rfl
  ·exact (HC.out _ hm).1
  ·exact (HD.out _ hm).1
 cases ok with
 | false=>
  have HO:Hid (gR (aQ 0 c[i].2++aQ 1 d[j].2) 0 c[i].2.length (aW 0 [(c,i),(d,j)]) [] false 0):=aA (Or.inl ⟨HNO.out rfl _ hrest,rfl,rfl,rfl⟩)
  clear hrest
  go_wp2
  go_returns
  exact ⟨_,_,_,rfl,⟨⟨[],HO.out,bK.nil _ _,by simp⟩,HBU.out⟩⟩
 | true=>
  obtain ⟨nb,hcon⟩:=HY.out rfl
  have hA6:Below w6.heap.size w6 (w6.alloc (.cells #[.slice (some ⟨b1,o1,none⟩) c.length c1,.int .i64 i,.slice (some ⟨b2,o2,none⟩) d.length c2,.int .i64 j] 167)):=(Below.refl _ _).alloc (Nat.le_refl _) _
  have hz6:=HL6.out.size
  have hst:pA w2 w2.heap.size tb mp (aQ 0 c[i].2++aQ 1 d[j].2) 0 c[i].2.length w6.heap.size #[.slice (some ⟨b1,o1,none⟩) c.length c1,.int .i64 i,.slice (some ⟨b2,o2,none⟩) d.length c2,.int .i64 j] [] (.slice none 0 0) (w6.alloc (.cells #[.slice (some ⟨b1,o1,none⟩) c.length c1,.int .i64 i,.slice (some ⟨b2,o2,none⟩) d.length c2,.int .i64 j] 167)):=
   ⟨⟨nb,[],[],⟨by simpa [bE,dO] using hcon.below hA6,rfl,rfl,World.ownsRow_nil _ _ _ _,fun q hq=>by simp at hq,HL6.out.trans (hA6.mono hz6)⟩⟩,by show (w6.heap.push _)[w6.heap.size]?=_;simp⟩
  have CC:=aA (aGx w2 w2.heap.size tb mp (aQ 0 c[i].2++aQ 1 d[j].2) 0 c[i].2.length w6.heap.size 2 _ (fun k=>if k=0 then some ⟨b1,o1,none⟩ else some ⟨b2,o2,none⟩) (fun k=>if k=0 then c1 else c2) [(c,i),(d,j)] _ hst rfl (fun k hk=>by
   match k,hk with
   | 0,_=>exact ⟨rfl,rfl,H1.out.below HB2.out (Nat.le_refl _),hi,hc8,HC.out⟩
   | 1,_=>exact ⟨rfl,rfl,H2.out.below HB2.out (Nat.le_refl _),hj,hd8,HD.out⟩) (by simp) (by simp;omega))
  clear hrest hcon hst hA6
  go_wp2_with (first
   | (go_at_call 122;refine (aB CC).mono ?_;rintro e w8 ⟨v8,y8,r8,rfl,h8⟩;have H8:=aA (h8.lift HB2.out);clear h8)
   | go_in)
  go_returns
  exact ⟨_,_,_,rfl,H8.out⟩
set_option maxHeartbeats 8000000 in
theorem aTm (a1:Option Addr) (c1:Nat) (c:List Lt) (i j:Nat) (w:World) (h1:bP w a1 c) (hc:∀x∈c,aI x.2 1=true∧x.2.length≤60) (hi:i < c.length) (hj:j < c.length) (hc8:c.length≤8) :
  Calls Tryz.prog 97 #[.slice a1 c.length c1,.int .i64 i,.int .i64 j] w fun e w'=>CoQ w w.heap.size (aQ 0 c[i].2++aQ 0 c[j].2) 0 c[i].2.length (aW 0 [(c,j)]) e w':=by
 obtain ⟨b1,o1,aa,ac,rfl,e1,e2,g1⟩:=h1.cell i hi
 obtain ⟨b2,o2,ba,bc,hb2,f1,f2,g2⟩:=h1.cell j hj
 simp at hb2
 obtain ⟨rfl,rfl⟩:=hb2
 obtain ⟨t1,s1⟩:=hc c[i] (List.getElem_mem _)
 obtain ⟨t2,s2⟩:=hc c[j] (List.getElem_mem _)
 have hcn:=uT (m:=60) (fun x hx=>(hc x hx).2)
 have CN1:=aA (wO _ c1 c w h1 hc8)
 have CW:=aA (fun (wx:World)=>aGf (aN c) (by omega) wx)
 have H1:=aA h1
 have HC:=aA hc
 have G1:=aA g1
 have G2:=aA g2
 have hci:(i:Int) < (c.length:Int):=by omega
 have hdj:(j:Int) < (c.length:Int):=by omega
 have hx0:c[i].2.length≤60:=s1
 clear h1 hc g1 g2 e1 f1
 go_enter Tryz.func97,Tryz.ntmps97
 go_upto_region 2 with (first
  | (go_at_call 119;refine (aB CW _).mono ?_;rintro e w3 ⟨tb,mp,vn,ve,vl,vs,rfl,hN⟩;have HN:=aA hN;clear hN)
  | (go_at_call 47;refine (aB CN1).mono ?_;rintro e w2 ⟨rfl,hb1⟩;have HB2:=aA hb1;clear hb1)
  | go_in)
 have HB3:=aA (HB2.out.trans (HN.out.low.mono HB2.out.size))
 have HA0:=aA (jD.new HN.out)
 have hz2:=HB2.out.size
 have hz3:=HN.out.low.size
 have CA1:=aA (fun (wx:World) (hA:jD w2.heap.size tb mp [] wx) (hb:Below w.heap.size w wx)=>xK hA 0 aa ac c[i].2 (G1.out.below hb (Nat.le_refl _)) t1 (fun p hp=>by have:=uQ G1.out t1 p hp;omega) (by simp;omega) (by omega))
 have CA2:=aA (fun (wx:World) (hA:jD w2.heap.size tb mp ([]++aQ 0 c[i].2) wx) (hb:Below w.heap.size w wx)=>xK hA 0 ba bc c[j].2 (G2.out.below hb (Nat.le_refl _)) t2 (fun p hp=>by have:=uQ G2.out t2 p hp;omega) (by simp;omega) (by omega))
 have CU:=aA (fun (wx:World) (hA:jD w2.heap.size tb mp (aQ 0 c[i].2++aQ 0 c[j].2) wx)=>aGu hA t1 t2 (fun t ht=>by
  rcases List.mem_append.1 ht with ht | ht
  ·obtain ⟨n,hn,rfl⟩:=List.mem_map.1 ht
   obtain ⟨k,hk,rfl⟩:=List.getElem_of_mem hn
   exact G1.out.short k hk
  ·obtain ⟨n,hn,rfl⟩:=List.mem_map.1 ht
   obtain ⟨k,hk,rfl⟩:=List.getElem_of_mem hn
   exact G2.out.short k hk) (by simp;omega))
 have e3:=Below.at' HB3.out (Nat.le_refl _) e2
 have f3:=Below.at' HB3.out (Nat.le_refl _) f2
 rw [show (([]:List Tg).length:Int)=((0:Nat):Int) from rfl] at CA1
 rw [show (([]++aQ 0 c[i].2:List Tg).length:Int)=((c[i].2.length:Nat):Int) by simp] at CA2
 clear CN1 CW
 go_region_held3 (fun w'=>w'.cell? ⟨b1,o1+i * 2+1,none⟩=some (.slice aa c[i].2.length ac)∧w'.cell? ⟨b1,o1+j * 2+1,none⟩=some (.slice ba c[j].2.length bc)) (first | exact ⟨Below.at' HBU.out (Nat.le_refl _) e2,Below.at' HBU.out (Nat.le_refl _) f2⟩ | exact ⟨Below.at' HB5.out (Nat.le_refl _) e2,Below.at' HB5.out (Nat.le_refl _) f2⟩ | exact ⟨Below.at' HB4.out (Nat.le_refl _) e2,Below.at' HB4.out (Nat.le_refl _) f2⟩ | go_keep) (first
  | (go_at_call 120;refine (aB CU w5 HA5.out).mono ?_;rintro e w6 ⟨ok,rfl,hb6,hs6,hy6,hn6⟩;have HBU:=aA (HB5.out.trans (hb6.mono hz2));have HL6:=aA (HL5.out.trans hb6);have HY:=aA hy6;have HNO:=aA hn6;have HSU:=aA hs6;clear hb6 hs6 hy6 hn6)
  | (go_at_call 121;refine (aB CA2 w4 HA4.out HB4.out).mono ?_;rintro e w5 ⟨rfl,hA5,hb5⟩;have HA5:=aA hA5;have HB5:=aA (HB4.out.trans (hb5.mono hz2));have HL5:=aA (HL4.out.trans hb5);clear hA5 hb5)
  | (go_at_call 121;refine (aB CA1 w3.drew (HA0.out.below (aJ ⟨1,rfl⟩)) (HB3.out.trans ((aJ (w1:=w3.drew) ⟨1,rfl⟩).mono (by omega)))).mono ?_;rintro e w4 ⟨rfl,hA4,hb4⟩;have HA4:=aA hA4;have HL4:=aA ((HN.out.low.trans ((aJ (w1:=w3.drew) ⟨1,rfl⟩).mono hz3)).trans hb4);have HB4:=aA ((HB3.out.trans ((aJ (w1:=w3.drew) ⟨1,rfl⟩).mono (by omega))).trans (hb4.mono hz2));clear hA4 hb4))
 have hrest:∀r∈aW 0 [(c,j)],aI r.2.2 1=true:=by
  intro r hr
  obtain ⟨q,hq,hm⟩:=uR _ _ r hr
  simp at hq
  subst hq
  exact (HC.out _ hm).1
 cases ok with
 | false=>
  have HO:Hid (gR (aQ 0 c[i].2++aQ 0 c[j].2) 0 c[i].2.length (aW 0 [(c,j)]) [] false 0):=aA (Or.inl ⟨HNO.out rfl _ hrest,rfl,rfl,rfl⟩)
  clear hrest
  go_wp2
  go_returns
  exact ⟨_,_,_,rfl,⟨⟨[],HO.out,bK.nil _ _,by simp⟩,HBU.out⟩⟩
 | true=>
  obtain ⟨nb,hcon⟩:=HY.out rfl
  have hA6:Below w6.heap.size w6 (w6.alloc (.cells #[.slice (some ⟨b1,o1,none⟩) c.length c1,.int .i64 j] 167)):=(Below.refl _ _).alloc (Nat.le_refl _) _
  have hz6:=HL6.out.size
  have hst:pA w2 w2.heap.size tb mp (aQ 0 c[i].2++aQ 0 c[j].2) 0 c[i].2.length w6.heap.size #[.slice (some ⟨b1,o1,none⟩) c.length c1,.int .i64 j] [] (.slice none 0 0) (w6.alloc (.cells #[.slice (some ⟨b1,o1,none⟩) c.length c1,.int .i64 j] 167)):=
   ⟨⟨nb,[],[],⟨by simpa [bE,dO] using hcon.below hA6,rfl,rfl,World.ownsRow_nil _ _ _ _,fun q hq=>by simp at hq,HL6.out.trans (hA6.mono hz6)⟩⟩,by show (w6.heap.push _)[w6.heap.size]?=_;simp⟩
  have CC:=aA (aGx w2 w2.heap.size tb mp (aQ 0 c[i].2++aQ 0 c[j].2) 0 c[i].2.length w6.heap.size 1 _ (fun _=>some ⟨b1,o1,none⟩) (fun _=>c1) [(c,j)] _ hst rfl (fun k hk=>by
   match k,hk with
   | 0,_=>exact ⟨rfl,rfl,H1.out.below HB2.out (Nat.le_refl _),hj,hc8,HC.out⟩) (by simp) (by simp;omega))
  clear hrest hcon hst hA6
  go_wp2_with (first
   | (go_at_call 122;refine (aB CC).mono ?_;rintro e w8 ⟨v8,y8,r8,rfl,h8⟩;have H8:=aA (h8.lift HB2.out);clear h8)
   | go_in)
  go_returns
  exact ⟨_,_,_,rfl,H8.out⟩
end Go.Proofs.YtbddofieljiihaaGreatDoor
