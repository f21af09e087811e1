/- One element is put behind a row, within a statement that draws its order. The document's parser: what it holds in memory, and what stays as it was while it reads. The document's parser: a term that is a variable; one that is none. The document's parser: a token that begins no term. Pure: the number of a name's parts, written into the rows; the tokens and the broken one behind. The document's parser: a term that begins with a name. The document's parser: behind a name's parts their number is written; pure: a term ends ahead of a token. Pure: the tokens' texts are short, and so are the names of what is read; what the document's parser holds of clauses in memory. Pure: what the parser puts behind nodes hangs not on them. The document's parser: its clauses in memory, and what stays while one is read. The document's parser: a clause. Pure: what the document's parser reads is small; what Read answers. What a Read leaves in memory. -/
import Derived.Test.YthicbnejchpmgaaGreatDoorSSpecD
import Derived.Deep.RegionLaw
import Derived.Deep.RegionHeld3
import Derived.Deep.DeepCutAuto
import Derived.Shelf.Abstract
namespace Go.Proofs.YthicbnejchpmgaaGreatDoor
open Go.RowKit
set_option maxRecDepth 100000
theorem mL {ops:Array Oper} {o:Oper} {a:Act} {w:World} {K:Act→World→Prop} {Q:Exit→Act→World→Prop} {E:Prop} (hgd:o.guard=none) (s x:Operand) (t e:TypeId) (hop:o.op=.call {callee:=.builtin .append,args:=#[s,x],argTypes:=#[t,t]})
  (z:Value) (size bytes:Nat) (ht:Tryz.prog.underlying t=some (.slice e)) (hinfo:(Tryz.prog.info? e).map (fun i=>(i.zero,i.size,i.bytes))=some (some z,size,bytes)) (hz1:z.cells.size=size) (hsz:0 < size) (hby:bytes≤100) (base:Nat) (v:Value) (n:Nat) (xs:List Value) (hs:a.eval s=v) (hown:w.ownsRow base e size v n xs) (hn:n≤10000000) (hbase:base≤w.heap.size) (g c:Nat) (news:List Value) (hx:a.eval x=.slice (some ⟨g,0,none⟩) 1 c) (hk:news.length=1 * size) (hnews:∀j u,news[j]?=some u→w.cell? ((⟨g,0,none⟩ : Addr).add j)=some u) (h1:∀u∈news,u.oneCell'=true)
  (h:∀v' w',w'.ownsRow base e size v' (n+1) (xs++news)→w.grownBy w' v.ownBlock→K (a.put o.dst v') w') :
  if Region.wanted o (yielded ops a.tmps)=true then Oper.wp Tryz.prog o a w K Q else E:=by
 have hw:Region.wanted o (yielded ops a.tmps)=true:=by simp [Region.wanted,hgd]
 rw [if_pos hw]
 obtain ⟨i,hi,hz,hsi,hy⟩:=info_parts hinfo
 have hb:(n+1) * bytes≤140737488355328:=Nat.le_trans (Nat.mul_le_mul (show n+1≤10000001 by omega) hby) (by decide)
 obtain ⟨v',w',hr,r1,r2,_⟩:=run_append_own (P:=Tryz.prog) w base t o.type e i z size bytes ht hi hz hsi hy hz1 hsz v n xs hown ⟨g,0,none⟩ 1 c news hk hnews h1 (by unfold maxLen;omega) hb hbase
 unfold Oper.wp execOp
 simp only [hop,resolve,invoke,builtin,Sem.run_bind,Sem.run_pure,Result.andThen_ok,List.map_toArray,List.map_cons,List.map_nil,hs,hx,hr]
 exact h v' w' r1 r2
theorem aF4 (w:World) (cs:Array Value) (T:TypeId) (j:Nat) (u:Value) (h:cs.toList[j]?=some u):(w.alloc (.cells cs T)).cell? ((⟨w.heap.size,0,none⟩ : Addr).add j)=some u:=by
 have h1:(w.alloc (.cells cs T)).heap[w.heap.size]?=some (.cells cs T):=by show (w.heap.push _)[w.heap.size]?=_;simp
 simp only [Array.getElem?_toList] at h
 have e:(⟨w.heap.size,0,none⟩ : Addr).add j=⟨w.heap.size,j,none⟩:=by
  unfold Addr.add
  by_cases hj:j=0
  ·simp [hj]
  ·simp [hj]
 rw [e]
 unfold World.cell?
 rw [h1]
 exact h
def aF5 (Q:Exit→Act→World→Prop):Exit→Act→World→Prop
 | .panic _,_,_=>False
 | e,a,w=>Q e a w
theorem rM {c:Code} {Q:Exit→Act→World→Prop} {a:Act} {w:World} (h:c.wp Tryz.prog (aF5 Q) a w):c.wp Tryz.prog Q a w:=
 Code.wp_mono (fun e a w h=>by cases e <;> first | exact h | exact False.elim h) h
theorem oZ {Q:Exit→Act→World→Prop} {a:Act} {w:World} (h:Q .normal a w):aF5 Q .normal a w:=h
theorem aPa (x:Nd) (r:List Nd):aQ (x :: r)=.string x.1 :: .int .i64 x.2 :: aQ r:=rfl
theorem aPb (l:List Nd):∀(k n:Nat),(aQ l).set (k * 2+1) (.int .i64 n)=aQ (dG l k n):=by
 induction l with
 | nil=>intro k n;simp [aQ,dG]
 | cons x r ih=>
  intro k n
  cases k with
  | zero=>rfl
  | succ k=>
   have:=ih k n
   rw [show (k+1) * 2+1=k * 2+1+1+1 by omega,aPa,List.set_cons_succ,List.set_cons_succ,this]
   rfl
structure TL (L T:List Tk) (brk:Int):Prop where
 kind:∀i,(aE L i).kind=(aE T i).kind
 txt:∀i,(aE L i).txt=(aE T i).txt
 pos:∀i,(aE T i).kind≠63→(aE L i).pos=(aE T i).pos
 bad:∀i,i < T.length→wZ L brk i=(aE T i).pos
 more:∀i,i < T.length→(aE T i).kind≠101→(aE T i).kind≠63→i+1 < T.length
 few:T.length≤1000002
theorem aF6 {s:ByteArray} {k e:Nat} {t:Tk} (h:eE s k=.tok t e):t.kind≠101∧t.kind≠63:=by
 unfold eE at h
 split at h
 ·split at h
  ·cases h
  ·simp only [Nx.tok.injEq] at h
   rw [←h.1]
   simp only
   split <;> decide
 ·split at h
  ·split at h
   ·simp only [Nx.tok.injEq] at h
    rw [←h.1]
    exact ⟨by simp,by simp⟩
   ·cases h
  ·split at h
   ·split at h
    ·simp only [Nx.tok.injEq] at h
     rw [←h.1]
     exact ⟨by simp,by simp⟩
    ·cases h
   ·split at h
    ·rename_i hm
     simp only [Nx.tok.injEq] at h
     rw [←h.1]
     simp only
     unfold oB at hm
     simp at hm
     omega
    ·cases h
theorem aF7 (s:ByteArray):∀f k,(∀t∈(cB s f k).1.dropLast,t.kind≠101∧t.kind≠63)∧((cB s f k).2=none→∃l t,(cB s f k).1=l++[t]∧t.kind=101)∧((cB s f k).2≠none→∀t∈(cB s f k).1,t.kind≠101∧t.kind≠63)∧(∀t∈(cB s f k).1,t.kind≠63):=by
 intro f
 induction f with
 | zero=>intro k;simp [cB]
 | succ f ih=>
  intro k
  rw [cB]
  split
  ·split
   ·exact ih _
   ·split
    ·exact ih _
    ·split
     ·rename_i t e ht
      have hk:=aF6 ht
      obtain ⟨i1,i2,i3,i4⟩:=ih e
      refine ⟨?_,?_,?_,?_⟩
      ·intro u hu
       simp only at hu
       cases hr:(cB s f e).1 with
       | nil=>rw [hr] at hu;simp at hu
       | cons y r=>
        rw [hr] at hu i1
        rw [List.dropLast_cons_of_ne_nil (by simp)] at hu
        rcases List.mem_cons.1 hu with rfl | hu
        ·exact hk
        ·exact i1 u hu
      ·intro hn
       obtain ⟨l,u,h1,h2⟩:=i2 hn
       exact ⟨t :: l,u,by simp only [h1,List.cons_append],h2⟩
      ·intro hn u hu
       rcases List.mem_cons.1 hu with rfl | hu
       ·exact hk
       ·exact i3 hn u hu
      ·intro u hu
       rcases List.mem_cons.1 hu with rfl | hu
       ·exact hk.2
       ·exact i4 u hu
     ·simp
  ·refine ⟨by simp,fun _=>⟨[],_,rfl,rfl⟩,by simp,by simp⟩
theorem aF8 (s:ByteArray):∀f k,(cB s f k).1.length≤f:=by
 intro f
 induction f with
 | zero=>intro k;simp [cB]
 | succ f ih=>
  intro k
  rw [cB]
  split
  ·split
   ·have:=ih (k+1);omega
   ·split
    ·have:=ih (fQ s k);omega
    ·split
     ·rename_i t e ht
      have:=ih e
      simp only [List.length_cons]
      omega
     ·simp
  ·simp
theorem aF9 (s:ByteArray) (hs:s.size≤1000000):TL (cB s (s.size+1) 0).1 (eF (cB s (s.size+1) 0)) (aF1 (cB s (s.size+1) 0).2):=by
 obtain ⟨_,k2,k3,_⟩:=aF7 s (s.size+1) 0
 have hlen:=aF8 s (s.size+1) 0
 generalize cB s (s.size+1) 0=r at *
 obtain ⟨L,b⟩:=r
 simp only at k2 k3 hlen
 cases b with
 | none=>
  have hT:eF (L,none)=L:=by simp [eF]
  rw [hT]
  refine ⟨fun _=>rfl,fun _=>rfl,fun _ _=>rfl,fun i hi=>by simp [wZ,aE,hi],fun i hi h1 _=>?_,by omega⟩
  obtain ⟨l,t,rfl,ht⟩:=k2 rfl
  by_cases he:i=l.length
  ·subst he
   exact absurd (by simpa [aE] using ht) h1
  ·simp at hi ⊢
   omega
 | some p=>
  have hT:eF (L,some p)=L++[⟨63,⟨#[]⟩,p⟩]:=by simp [eF]
  rw [hT]
  have key:∀i,(i < L.length∧aE (L++[⟨63,⟨#[]⟩,p⟩]) i=aE L i)∨(i=L.length∧aE (L++[⟨63,⟨#[]⟩,p⟩]) i=⟨63,⟨#[]⟩,p⟩∧aE L i=sX)∨(L.length < i∧aE (L++[⟨63,⟨#[]⟩,p⟩]) i=sX∧aE L i=sX):=by
   intro i
   rcases Nat.lt_trichotomy i L.length with h | h | h
   ·exact Or.inl ⟨h,by simp [aE,List.getElem?_append_left h]⟩
   ·subst h
    exact Or.inr (Or.inl ⟨rfl,by simp [aE],by simp [aE]⟩)
   ·refine Or.inr (Or.inr ⟨h,?_,?_⟩)
    ·unfold aE
     rw [List.getD_eq_getElem?_getD,List.getElem?_eq_none (by simp;omega)];rfl
    ·unfold aE
     rw [List.getD_eq_getElem?_getD,List.getElem?_eq_none (by omega)];rfl
  refine ⟨fun i=>?_,fun i=>?_,fun i hi=>?_,fun i hi=>?_,fun i hi h1 h2=>?_,by simp;omega⟩
  ·rcases key i with ⟨_,h⟩ | ⟨_,h,h'⟩ | ⟨_,h,h'⟩
   ·rw [h]
   ·rw [h,h'];rfl
   ·rw [h,h']
  ·rcases key i with ⟨_,h⟩ | ⟨_,h,h'⟩ | ⟨_,h,h'⟩
   ·rw [h]
   ·rw [h,h'];rfl
   ·rw [h,h']
  ·rcases key i with ⟨_,h⟩ | ⟨_,h,h'⟩ | ⟨_,h,h'⟩
   ·rw [h]
   ·rw [h] at hi;exact absurd rfl hi
   ·rw [h,h']
  ·rcases key i with ⟨hl,h⟩ | ⟨hl,h,h'⟩ | ⟨hl,h,h'⟩
   ·rw [h];simp [wZ,aE,hl]
   ·rw [h];simp [wZ,hl,aF1]
   ·simp at hi;omega
  ·rcases key i with ⟨hl,h⟩ | ⟨hl,h,h'⟩ | ⟨hl,h,h'⟩
   ·simp;omega
   ·rw [h] at h2;exact absurd rfl h2
   ·simp at hi;omega
theorem sZ {w:World} {B:Nat} {e:TypeId} {size:Nat} {v:Value} {n:Nat} {xs:List Value} (h:w.ownsRow B e size v n xs) (hn:0 < n):∃g c,v=.slice (some ⟨g,0,none⟩) n c:=by
 obtain ⟨_,⟨rfl,h2⟩ | ⟨g,cap,cur,rfl,_⟩⟩:=h
 ·omega
 ·exact ⟨g,cap,rfl⟩
theorem aPc (l:List Nd) (s:ByteArray):dG (l++[(s,0)]) l.length 0=l++[(s,0)]:=by
 unfold dG
 induction l with
 | nil=>rfl
 | cons x r ih=>simpa using ih
theorem aPd {L T:List Tk} {brk:Int} (ht:TL L T brk):∀f,(∀atom st l st' l',cD T f atom st l=.ok (st',l')→st.i < T.length→st'.i < T.length)∧(∀st l n st' l' n',dW T f st l n=.ok (st',l',n')→st.i+1 < T.length→st'.i < T.length):=by
 intro f
 induction f with
 | zero=>exact ⟨fun atom st l st' l' h=>by simp [cD] at h,fun st l n st' l' n' h=>by simp [dW] at h⟩
 | succ f ih=>
  obtain ⟨ih1,ih2⟩:=ih
  constructor
  ·intro atom st l st' l' h hi
   rw [cD] at h
   split at h
   ·rename_i hc
    simp only [Except.ok.injEq,Prod.mk.injEq] at h
    obtain ⟨rfl,rfl⟩:=h
    exact ht.more _ hi (by rw [hc.1];decide) (by rw [hc.1];decide)
   ·split at h
    ·simp at h
    ·rename_i hc
     have hc:(aE T st.i).kind=110:=by simpa using hc
     have h1:=ht.more _ hi (by rw [hc];decide) (by rw [hc];decide)
     split at h
     ·rename_i hp
      split at h
      ·simp at h
      ·rename_i st1 l1 n1 hq
       simp only [Except.ok.injEq,Prod.mk.injEq] at h
       obtain ⟨rfl,rfl⟩:=h
       have h2:=ht.more _ h1 (by rw [hp];decide) (by rw [hp];decide)
       have h3:=ih2 _ _ _ _ _ _ hq h2
       exact h3
     ·simp only [Except.ok.injEq,Prod.mk.injEq] at h
      obtain ⟨rfl,rfl⟩:=h
      exact h1
  ·intro st l n st' l' n' h hi
   rw [dW] at h
   split at h
   ·simp at h
   ·rename_i st1 l1 hp
    have q:=ih1 _ _ _ _ _ hp hi
    split at h
    ·rename_i hk
     have h2:=ht.more _ q (by rw [hk];decide) (by rw [hk];decide)
     exact ih2 _ _ _ _ _ _ h h2
    ·split at h
     ·rename_i hk
      simp only [Except.ok.injEq,Prod.mk.injEq] at h
      obtain ⟨rfl,rfl,rfl⟩:=h
      exact ht.more _ q (by rw [hk];decide) (by rw [hk];decide)
     ·simp at h
section
variable {B B' pa:Nat} {w wr:World} {L T:List Tk} {vL vP vC vB vV vl:Value} {f:Nat} {atom:Bool} {st:aV} {l:List Nd} {tx:ByteArray} {tp:Nat}
end
theorem tA:(⟨#[]⟩ : ByteArray).size=0:=rfl
theorem aFa (s:ByteArray) (a b:Nat):(s.extract a b).size≤b - a:=by
 rw [ByteArray.size_extract]
 omega
theorem aPe (s:ByteArray):∀f name p n e,fD s f name p=some (n,e)→n.size+p≤name.size+e∧e≤s.size:=by
 intro f
 induction f with
 | zero=>intro name p n e h;simp [fD] at h
 | succ f ih=>
  intro name p n e h
  rw [fD] at h
  split at h
  ·split at h
   ·split at h
    ·simp at h
     obtain ⟨rfl,rfl⟩:=h
     omega
    ·simp at h
   ·split at h
    ·split at h
     ·have q:=ih _ _ _ _ h
      have:=aFa s (p+1) (p+2)
      rw [ByteArray.size_append] at q
      omega
     ·simp at h
    ·split at h
     ·simp at h
     ·have q:=ih _ _ _ _ h
      have:=aFa s p (p+bD s p)
      rw [ByteArray.size_append] at q
      omega
  ·simp at h
theorem aPf {s:ByteArray} {k e:Nat} {t:Tk} (h:eE s k=.tok t e):t.txt.size≤s.size:=by
 unfold eE at h
 split at h
 ·split at h
  ·cases h
  ·simp only [Nx.tok.injEq] at h
   rw [←h.1]
   simp only
   rw [ByteArray.size_extract]
   omega
 ·split at h
  ·split at h
   ·rename_i n e' hq
    simp only [Nx.tok.injEq] at h
    rw [←h.1]
    have q:=aPe _ _ _ _ _ _ hq
    rw [tA] at q
    show n.size≤s.size
    omega
   ·cases h
  ·split at h
   ·split at h
    ·simp only [Nx.tok.injEq] at h
     rw [←h.1]
     exact Nat.zero_le _
    ·cases h
   ·split at h
    ·simp only [Nx.tok.injEq] at h
     rw [←h.1]
     exact Nat.zero_le _
    ·cases h
theorem aPg (s:ByteArray):∀f k,∀t∈(cB s f k).1,t.txt.size≤s.size:=by
 intro f
 induction f with
 | zero=>intro k;simp [cB]
 | succ f ih=>
  intro k
  rw [cB]
  split
  ·split
   ·exact ih _
   ·split
    ·exact ih _
    ·split
     ·rename_i t e ht
      intro u hu
      rcases List.mem_cons.1 hu with rfl | hu
      ·exact aPf ht
      ·exact ih _ u hu
     ·simp
  ·intro t ht
   simp at ht
   rw [ht]
   exact Nat.zero_le _
structure uH (L T:List Tk):Prop where
 small:∀i,(aE T i).txt.size≤1000000
 low:∀i,i < L.length→(aE T i).kind≠63∧i < T.length
 rest:∀i,¬i < L.length→(aE T i).kind=63
theorem aAj (s:ByteArray) (hs:s.size≤1000000):uH (cB s (s.size+1) 0).1 (eF (cB s (s.size+1) 0)):=by
 obtain ⟨_,_,_,k4⟩:=aF7 s (s.size+1) 0
 have hsm:=aPg s (s.size+1) 0
 generalize cB s (s.size+1) 0=r at *
 obtain ⟨L,b⟩:=r
 simp only at k4 hsm
 have key:∀i,(i < L.length∧aE (eF (L,b)) i∈L∧i < (eF (L,b)).length)∨(¬i < L.length∧(aE (eF (L,b)) i).kind=63∧(aE (eF (L,b)) i).txt=⟨#[]⟩):=by
  intro i
  by_cases h:i < L.length
  ·refine Or.inl ⟨h,?_,by simp [eF];omega⟩
   have:aE (eF (L,b)) i=L[i]:=by simp [aE,eF,List.getElem?_append_left h,h]
   rw [this]
   exact List.getElem_mem _
  ·refine Or.inr ⟨h,?_⟩
   cases b with
   | none=>
    have:aE (eF (L,none)) i=sX:=by simp only [aE,eF,List.append_nil];rw [List.getD_eq_getElem?_getD,List.getElem?_eq_none (by omega)];rfl
    rw [this];exact ⟨rfl,rfl⟩
   | some p=>
    by_cases he:i=L.length
    ·subst he
     have:aE (eF (L,some p)) L.length=⟨63,⟨#[]⟩,p⟩:=by simp [aE,eF]
     rw [this];exact ⟨rfl,rfl⟩
    ·have:aE (eF (L,some p)) i=sX:=by simp only [aE,eF];rw [List.getD_eq_getElem?_getD,List.getElem?_eq_none (by simp;omega)];rfl
     rw [this];exact ⟨rfl,rfl⟩
 refine ⟨fun i=>?_,fun i hi=>?_,fun i hi=>?_⟩
 ·rcases key i with ⟨_,h,_⟩ | ⟨_,_,h⟩
  ·have:=hsm _ h;omega
  ·rw [h,tA];omega
 ·rcases key i with ⟨_,h,h'⟩ | ⟨h,_⟩
  ·exact ⟨k4 _ h,h'⟩
  ·exact absurd hi h
 ·rcases key i with ⟨h,_⟩ | ⟨_,h,_⟩
  ·exact absurd h hi
  ·exact h
def dI (l:List Nd):Prop:=∀x∈l,x.1.size≤1000000
theorem uI {l:List Nd} {x:Nd} (h:dI l) (hx:x.1.size≤1000000):dI (l++[x]):=by
 intro y hy
 rcases List.mem_append.1 hy with hy | hy
 ·exact h y hy
 ·simp at hy;subst hy;exact hx
theorem aPh {l:List Nd} (h:dI l) (k n:Nat):dI (dG l k n):=by
 intro y hy
 unfold dG at hy
 rw [List.mem_iff_getElem?] at hy
 obtain ⟨j,hj⟩:=hy
 rw [List.getElem?_modify] at hj
 cases hq:l[j]? with
 | none=>rw [hq] at hj;simp at hj
 | some z=>
  rw [hq] at hj
  have hz:=h z (List.mem_of_getElem? hq)
  simp at hj
  subst hj
  split <;> exact hz
theorem aPi {L T:List Tk} (hx:uH L T):∀f,(∀atom st l st' l',cD T f atom st l=.ok (st',l')→dI l→dI l')∧(∀st l n st' l' n',dW T f st l n=.ok (st',l',n')→dI l→dI l'):=by
 intro f
 induction f with
 | zero=>exact ⟨fun atom st l st' l' h=>by simp [cD] at h,fun st l n st' l' n' h=>by simp [dW] at h⟩
 | succ f ih=>
  obtain ⟨ih1,ih2⟩:=ih
  constructor
  ·intro atom st l st' l' h hl
   rw [cD] at h
   split at h
   ·simp only [Except.ok.injEq,Prod.mk.injEq] at h
    obtain ⟨rfl,rfl⟩:=h
    exact uI hl (by rw [tA];omega)
   ·split at h
    ·simp at h
    ·have hl1:=uI (x:=((aE T st.i).txt,0)) hl (hx.small _)
     split at h
     ·split at h
      ·simp at h
      ·rename_i st1 l1 n1 hq
       simp only [Except.ok.injEq,Prod.mk.injEq] at h
       obtain ⟨rfl,rfl⟩:=h
       exact aPh (ih2 _ _ _ _ _ _ hq hl1) _ _
     ·simp only [Except.ok.injEq,Prod.mk.injEq] at h
      obtain ⟨rfl,rfl⟩:=h
      exact hl1
  ·intro st l n st' l' n' h hl
   rw [dW] at h
   split at h
   ·simp at h
   ·rename_i st1 l1 hp
    have q:=ih1 _ _ _ _ _ hp hl
    split at h
    ·exact ih2 _ _ _ _ _ _ h q
    ·split at h
     ·simp only [Except.ok.injEq,Prod.mk.injEq] at h
      obtain ⟨rfl,rfl,rfl⟩:=h
      exact q
     ·simp at h
theorem aPj (l r:List Nd) (k n:Nat) (h:k < l.length):dG (l++r) k n=dG l k n++r:=by
 induction l generalizing k with
 | nil=>simp at h
 | cons x t ih=>
  cases k with
  | zero=>rfl
  | succ k=>
   have:=ih k (by simpa using h)
   unfold dG at this ⊢
   simpa using this
theorem aPk (l r:List Nd) (k n:Nat):dG (l++r) (l.length+k) n=l++dG r k n:=by
 induction l with
 | nil=>simp
 | cons x t ih=>
  unfold dG at ih ⊢
  simp only [List.length_cons,List.cons_append]
  rw [show t.length+1+k=t.length+k+1 by omega]
  simpa using ih
theorem tB (l:List Nd) (k n:Nat):(dG l k n).length=l.length:=by simp [dG]
theorem aPl (l:List Nd) (k n m:Nat):dG (dG l k n) k m=dG l k m:=by
 induction l generalizing k with
 | nil=>simp [dG]
 | cons x t ih=>
  cases k with
  | zero=>rfl
  | succ k=>
   have:=ih k
   unfold dG at this ⊢
   simpa using this
theorem aFb (T:List Tk):∀f,(∀atom st l,cD T f atom st l=match cD T f atom st [] with | .error p=>.error p | .ok (s,r)=>.ok (s,l++r))∧(∀st l n,dW T f st l n=match dW T f st [] n with | .error p=>.error p | .ok (s,r,k)=>.ok (s,l++r,k)):=by
 intro f
 induction f with
 | zero=>exact ⟨fun atom st l=>by simp [cD],fun st l n=>by simp [dW]⟩
 | succ f ih=>
  obtain ⟨ih1,ih2⟩:=ih
  constructor
  ·intro atom st l
   rw [cD,cD]
   split
   ·simp
   ·split
    ·simp
    ·split
     ·rw [ih2 _ (l++[((aE T st.i).txt,0)]) 0,ih2 _ ([]++[((aE T st.i).txt,0)]) 0]
      cases dW T f ⟨st.i+1,st.vars,st.places++[((aE T st.i).txt,atom,0,((aE T st.i).pos:Int))]⟩ [] 0 with
      | error p=>rfl
      | ok r=>
       obtain ⟨s1,r1,n1⟩:=r
       simp only [List.nil_append,List.length_nil]
       have:=aPk l ([((aE T st.i).txt,0)]++r1) 0 n1
       rw [List.append_assoc,show l.length=l.length+0 from rfl,this]
     ·simp
  ·intro st l n
   rw [dW,dW,ih1 false _ l]
   cases hq:cD T f false ⟨st.i+1,st.vars,st.places⟩ [] with
   | error p=>rfl
   | ok r=>
    obtain ⟨s1,r1⟩:=r
    simp only
    split
    ·rw [ih2 s1 (l++r1) (n+1),ih2 s1 r1 (n+1)]
     cases dW T f s1 [] (n+1) with
     | error p=>rfl
     | ok r=>simp
    ·split
     ·rfl
     ·rfl
def lL (l:List Pl):List Value:=l.map fun p=>.int .i64 p.2.2.2
theorem aPm (l:List Pl) (p:Pl):lL (l++[p])=lL l++[.int .i64 p.2.2.2]:=by simp [lL]
theorem aPn (l:List Pl) (k n:Nat):lL (oC l k n)=lL l:=by
 induction l generalizing k with
 | nil=>simp [oC]
 | cons x t ih=>
  cases k with
  | zero=>rfl
  | succ k=>
   have:=ih k
   unfold oC lL at this ⊢
   simpa using this
theorem aPo (l:List Pl) (k n:Nat):(oC l k n).length=l.length:=by simp [oC]
def oD (w:World) (B:Nat) (p:List (Lt×Value)×Value):Prop:=w.ownsRow B 66 2 p.2 p.1.length (aU p.1)∧∀q∈p.1,w.ownsRow B 28 2 q.2 q.1.2.length (aQ q.1.2)
section
variable {B:Nat} {w w':World} {vC vB:Value} {CV:List (List (Lt×Value)×Value)} {bg:List Nat}
end
section
variable {B pa:Nat} {w0 wr w':World} {L:List Tk} {vL vC vB vP vV vc:Value} {st:aV} {bad:Int} {P:List (Lt×Value)}
end
theorem aAk {w:World} {B:Nat} {v:Value} {P:List (Lt×Value)} (h:w.ownsRow B 66 2 v P.length (aU P)) (ha:∀q∈P,w.ownsRow B 28 2 q.2 q.1.2.length (aQ q.1.2)) (hs:∀q∈P,dI q.1.2) (hc:aP (P.map Prod.fst)≤1000000) (hn:P.length≤2000000) :
  ∃a cap,v=.slice a P.length cap∧bS w a (P.map Prod.fst):=by
 obtain ⟨a,cap,rfl,hk⟩:=sL h
 refine ⟨a,cap,rfl,⟨by simp;omega,fun k hkl=>?_⟩⟩
 have hkl':k < P.length:=by simpa using hkl
 obtain ⟨g,rfl,h1,h2⟩:=hk k hkl'
 have hm:P[k]∈P:=List.getElem_mem _
 have hcm:=yS (P.map Prod.fst) P[k].1 (List.mem_map.2 ⟨_,hm,rfl⟩)
 obtain ⟨aa,ac,hv,hN⟩:=nX (ha _ hm) (by omega) (fun j hj=>by have:=hs _ hm _ (List.getElem_mem hj);omega)
 refine ⟨g,0,aa,ac,rfl,?_,?_,?_⟩
 ·simpa using h1
 ·rw [Nat.zero_add,h2,hv];simp
 ·simpa using hN
theorem aPp:(Tryz.prog.info? 52).map (fun i=>(i.zero,i.size,i.bytes))=some (some (.slice none 0 0),1,24):=by kernel_rfl
theorem aPq {ops:Array Oper} {o:Oper} {a:Act} {w:World} {K:Act→World→Prop} {Q:Exit→Act→World→Prop} {E:Prop} (hgd:o.guard=none) (f:Nat) (ops':Array Operand) (ts:Array TypeId)
  (ho:o.op=.call {callee:=.value (.func f),args:=ops',argTypes:=ts}) (he:∀args w,(callFunc f args).run Tryz.prog w=.ok (.enter f args) w) (vals:Array Value) (hv:ops'.toList.map a.eval=vals.toList) {R:Ending→World→Prop} (hc:Calls Tryz.prog f vals w R)
  (h:∀e w',R e w'→∃v,e=.returned v∧K (a.put o.dst v) w') :
  if Region.wanted o (yielded ops a.tmps)=true then Oper.wp Tryz.prog o a w K Q else E:=by
 have hw:Region.wanted o (yielded ops a.tmps)=true:=by simp [Region.wanted,hgd]
 rw [if_pos hw]
 have hr:(execOp a.eval o).run Tryz.prog w=.ok (.enter f vals) w:=by
  have hv:ops'.map a.eval=vals:=by apply Array.ext';rw [Array.toList_map];exact hv
  subst hv
  simp [execOp,ho,resolve,invoke,he,Act.eval,Deferred.ofValue]
 unfold Oper.wp
 rw [hr,Oper.upon_enter]
 exact hc.mono fun e w' hR=>by
  obtain ⟨v,rfl,hk⟩:=h e w' hR
  exact hk
def iS (T:List Tk) (st:aV):aV:=⟨if (aE T st.i).kind=126 then st.i+1 else st.i,st.vars,st.places⟩
theorem aAl {T:List Tk} {g p:Nat} {st:aV} {c:List Lt} (h:cD T (T.length+1) true (iS T st) []=.error p):gL T (g+1) st c=.error p:=by
 unfold iS at h
 rw [gL,h]
theorem aAm {T:List Tk} {g:Nat} {st s':aV} {a:List Nd} {c:List Lt} (h:cD T (T.length+1) true (iS T st) []=.ok (s',a)) (hk:(aE T s'.i).kind=124):gL T (g+1) st c=gL T g ⟨s'.i+1,s'.vars,s'.places⟩ (c++[(decide ((aE T st.i).kind=126),a)]):=by
 unfold iS at h
 rw [gL,h]
 simp only
 rw [if_pos hk]
theorem aAn {T:List Tk} {g:Nat} {st s':aV} {a:List Nd} {c:List Lt} (h:cD T (T.length+1) true (iS T st) []=.ok (s',a)) (hk:(aE T s'.i).kind≠124):gL T (g+1) st c=.ok (s',c++[(decide ((aE T st.i).kind=126),a)]):=by
 unfold iS at h
 rw [gL,h]
 simp only
 rw [if_neg hk]
theorem aAo (T:List Tk) (st:aV):st.i≤(iS T st).i∧(iS T st).i≤st.i+1∧(iS T st).vars=st.vars∧(iS T st).places=st.places:=by
 unfold iS
 simp only
 split <;> simp
theorem aPr {L T:List Tk} {brk:Int} (ht:TL L T brk) {st:aV} (h:st.i < T.length):(iS T st).i < T.length:=by
 unfold iS
 simp only
 split
 ·rename_i hk;exact ht.more _ h (by rw [hk];decide) (by rw [hk];decide)
 ·exact h
section
variable {B pa:Nat} {w0 wr:World} {L T:List Tk} {brk:Int} {vL vC vB vP vV vc:Value} {s0 st:aV} {k g:Nat} {P:List (Lt×Value)} {s2:aV} {bad2:Int} {vl:Value} {l2:List Nd}
end
theorem aFc:dI []:=fun x hx=>by simp at hx
theorem aPs {L T:List Tk} {brk:Int} (ht:TL L T brk) (hx:uH L T):∀f st c st' c',gL T f st c=.ok (st',c')→st.i < T.length→(∀x∈c,dI x.2)→
  (∀x∈c',dI x.2)∧st.i < st'.i∧st'.i < T.length∧aP c'≤aP c+(st'.i - st.i)∧c'.length≤c.length+(st'.i - st.i)∧st.places.length≤st'.places.length∧st'.places.length≤st.places.length+(st'.i - st.i):=by
 intro f
 induction f with
 | zero=>intro st c st' c' h;simp [gL] at h
 | succ f ih=>
  intro st c st' c' h hi hs
  cases hq:cD T (T.length+1) true (iS T st) [] with
  | error p=>rw [aAl hq] at h;simp at h
  | ok r=>
   obtain ⟨s2,l2⟩:=r
   obtain ⟨q1,q2,q3,q4⟩:=aAo T st
   have hon:=(sY T (T.length+1)).1 _ _ _ _ _ hq
   have hin:=(aPd ht (T.length+1)).1 _ _ _ _ _ hq (aPr ht hi)
   have hsh:=(aPi hx (T.length+1)).1 _ _ _ _ _ hq aFc
   rw [q3,q4] at hon
   simp only [List.length_nil] at hon
   have hs2:∀x∈c++[(decide ((aE T st.i).kind=126),l2)],dI x.2:=by
    intro x hx
    rcases List.mem_append.1 hx with hx | hx
    ·exact hs x hx
    ·simp at hx;subst hx;exact hsh
   by_cases hk:(aE T s2.i).kind=124
   ·rw [aAm hq hk] at h
    have h1:=ht.more _ hin (by rw [hk];decide) (by rw [hk];decide)
    have r:=ih _ _ _ _ h h1 hs2
    rw [oO] at r
    simp only [List.length_append,List.length_singleton] at r
    refine ⟨r.1,?_⟩
    obtain ⟨_,r2,r3,r4,r5,r6,r7⟩:=r
    omega
   ·rw [aAn hq hk] at h
    simp only [Except.ok.injEq,Prod.mk.injEq] at h
    obtain ⟨rfl,rfl⟩:=h
    refine ⟨hs2,?_⟩
    rw [oO]
    simp only [List.length_append,List.length_singleton]
    omega
theorem aFd {L T:List Tk} {brk:Int} (ht:TL L T brk) (hx:uH L T) {st st':aV} {c:List Lt} (h:mK T st=.ok (st',c)) (hi:st.i < T.length) :
  (∀x∈c,dI x.2)∧st.i < st'.i∧st'.i < T.length∧aP c≤T.length∧c.length≤T.length∧st.places.length≤st'.places.length∧st'.places.length≤st.places.length+(st'.i - st.i):=by
 unfold mK at h
 cases hq:mJ T st with
 | error p=>rw [hq] at h;simp at h
 | ok r=>
  obtain ⟨s1,c1⟩:=r
  rw [hq] at h
  simp only at h
  split at h
  ·rename_i hk
   simp only [Except.ok.injEq,Prod.mk.injEq] at h
   obtain ⟨rfl,rfl⟩:=h
   unfold mJ at hq
   split at hq
   ·rename_i h102
    have h1:=ht.more _ hi (by rw [h102];decide) (by rw [h102];decide)
    simp only [Except.ok.injEq,Prod.mk.injEq] at hq
    obtain ⟨rfl,rfl⟩:=hq
    have h2:=ht.more _ h1 (by rw [hk];decide) (by rw [hk];decide)
    refine ⟨fun x hx=>by simp at hx,by simp;omega,h2,by simp [aP],by simp,by simp,by simp⟩
   ·obtain ⟨r1,r2,r3,r4,r5,r6,r7⟩:=aPs ht hx _ _ _ _ _ hq hi (fun x hx=>by simp at hx)
    have h2:=ht.more _ r3 (by rw [hk];decide) (by rw [hk];decide)
    simp only [List.length_nil,aP,List.map_nil,List.sum_nil] at r2 r4 r5 r6 r7
    refine ⟨r1,by simp only;omega,h2,?_,by omega,r6,by simp only;omega⟩
    unfold aP
    omega
  ·simp at h
theorem aPt (l:List Nd):∀seen,dI l→dI (bW l seen).1:=by
 have key:∀(l:List Nd) (acc:List Nd×List Int),dI l→dI acc.1→dI (l.foldl bY acc).1:=by
  intro l
  induction l with
  | nil=>intro acc _ h;exact h
  | cons x r ih=>
   intro acc hl ha
   refine ih _ (fun y hy=>hl y (List.mem_cons_of_mem _ hy)) ?_
   have hxs:=hl x (List.mem_cons_self ..)
   unfold bY
   split
   ·split
    ·exact uI ha (by first | exact hxs | (rw [tA];omega))
    ·exact uI ha (by first | exact hxs | (rw [tA];omega))
   ·exact uI ha hxs
 exact fun seen h=>key l ([],seen) h aFc
theorem aPu (c:List Lt) (h:∀x∈c,dI x.2):∀x∈(cX c).1,dI x.2:=by
 have key:∀(c:List Lt) (acc:List Lt×List Int),(∀x∈c,dI x.2)→(∀x∈acc.1,dI x.2)→∀x∈(c.foldl dM acc).1,dI x.2:=by
  intro c
  induction c with
  | nil=>intro acc _ h;exact h
  | cons y r ih=>
   intro acc hc ha
   refine ih _ (fun z hz=>hc z (List.mem_cons_of_mem _ hz)) ?_
   intro x hx
   unfold dM at hx
   simp only at hx
   rcases List.mem_append.1 hx with hx | hx
   ·exact ha x hx
   ·simp at hx
    subst hx
    exact aPt _ _ (hc y (List.mem_cons_self ..))
 exact key c ([],[]) h (fun x hx=>by simp at hx)
theorem aPv (c:List Lt):aP (cX c).1=aP c:=by
 have key:∀(c:List Lt) (acc:List Lt×List Int),aP (c.foldl dM acc).1=aP acc.1+aP c:=by
  intro c
  induction c with
  | nil=>intro acc;simp [aP]
  | cons y r ih=>
   intro acc
   rw [List.foldl_cons,ih]
   unfold dM
   simp only
   rw [oO]
   simp only [aP,List.map_cons,List.sum_cons]
   have:=(oN y.2 acc.2).1
   omega
 have:=key c ([],[])
 simpa [cX,aP] using this
theorem aPw (c:List Lt) (h:∀x∈c,dI x.2):(∀x∈aT c,dI x.2)∧aP (aT c)≤aP c∧(aT c).length≤c.length:=by
 obtain ⟨d1,d2,d3⟩:=sK c
 refine ⟨aPu _ fun x hx=>h x (d3 x hx),?_,?_⟩
 ·unfold aT
  rw [aPv]
  exact d2
 ·unfold aT
  rw [(qZ _).1]
  exact d1
def pA (cs:List (Nat×List Lt)) (i:Nat) (h:i < cs.length):Prop:=40≤i∨dV (aT cs[i].2)=false
def xA (cs:List (Nat×List Lt)) (out:List (List Lt)) (at' er:Int):Prop:=
 (∃i h,pA cs i h∧(∀j hj,j < i→¬pA cs j hj)∧out=[]∧at'=cs[i].1∧er=4)∨((∀i h,¬pA cs i h)∧out=cs.map (fun p=>aT p.2)∧at'=0∧er=0)
def pB (s:ByteArray) (out:List (List Lt)) (at' er:Int):Prop:=
 (3000 < s.size∧out=[]∧at'=0∧er=1)∨(s.size≤3000∧
  match uF s with
  | .error p=>out=[]∧at'=p∧er=2
  | .ok (st,cs)=>∃r,uJ st.places r∧((0≤r∧out=[]∧at'=r∧er=3)∨(r < 0∧xA cs out at' er)))
def xB (B:Nat) (w:World) (v:Value) (CV:List (List (Lt×Value)×Value)):Prop:=
 w.ownsRow B 52 1 v CV.length (CV.map Prod.snd)∧∀p∈CV,oD w B p∧(∀q∈p.1,dI q.1.2)∧aP (p.1.map Prod.fst)≤1000000∧p.1.length≤1000000
theorem xB.nil (B:Nat) (w:World):xB B w (.slice none 0 0) []:=⟨World.ownsRow_nil _ _ _ _,fun p hp=>by simp at hp⟩
structure jH (B:Nat) (w:World) (v:Value) (QV:List (List (Lt×Value)×Value)):Prop where
 mem:xB B w v QV
 once:(QV.map fun p=>p.2.ownBlock).Nodup
 atoms:(QV.flatMap fun p=>p.1.filterMap fun q=>q.2.ownBlock).Nodup
theorem jH.nil (B:Nat) (w:World):jH B w (.slice none 0 0) []:=⟨xB.nil _ _,by simp,by simp⟩
end Go.Proofs.YthicbnejchpmgaaGreatDoor
