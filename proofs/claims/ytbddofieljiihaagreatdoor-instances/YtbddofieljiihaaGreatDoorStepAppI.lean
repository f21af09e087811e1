/- One element is put behind a row, within a statement that draws its order. The document's parser: what it holds in memory, and what stays as it was while it reads. The document's parser: a term that is a variable; one that is none. The document's parser: a token that begins no term. Pure: the number of a name's parts, written into the rows; the tokens and the broken one behind. The document's parser: a term that begins with a name. The document's parser: behind a name's parts their number is written; pure: a term ends ahead of a token. Pure: the tokens' texts are short, and so are the names of what is read; what the document's parser holds of clauses in memory. Pure: what the parser puts behind nodes hangs not on them. The document's parser: its clauses in memory, and what stays while one is read. The document's parser: a clause. Pure: what the document's parser reads is small; what Read answers. The document's parser: a term that begins with a name, and the contract of term at every fuel. What a Read leaves in memory. The document's Read. Texts that are known: what is read of them. -/
import Derived.Test.YtbddofieljiihaaGreatDoorRPrim0I
import Derived.Deep.RegionLaw
import Derived.Deep.RegionHeld3
import Derived.Deep.DeepCutAuto
import Derived.Shelf.Abstract
namespace Go.Proofs.YtbddofieljiihaaGreatDoor
open Go.RowKit
set_option maxRecDepth 100000
theorem mI {ops:Array Oper} {o:Oper} {a:Act} {w:World} {K:Act→World→Prop} {Q:Exit→Act→World→Prop} {E:Prop} (hgd:o.guard=none) (s x:Operand) (t e:TypeId) (hop:o.op=.call {callee:=.builtin .append,args:=#[s,x],argTypes:=#[t,t]})
  (z:Value) (size bytes:Nat) (ht:Tryz.prog.underlying t=some (.slice e)) (hinfo:(Tryz.prog.info? e).map (fun i=>(i.zero,i.size,i.bytes))=some (some z,size,bytes)) (hz1:z.cells.size=size) (hsz:0 < size) (hby:bytes≤100) (base:Nat) (v:Value) (n:Nat) (xs:List Value) (hs:a.eval s=v) (hown:w.ownsRow base e size v n xs) (hn:n≤10000000) (hbase:base≤w.heap.size) (g c:Nat) (news:List Value) (hx:a.eval x=.slice (some ⟨g,0,none⟩) 1 c) (hk:news.length=1 * size) (hnews:∀j u,news[j]?=some u→w.cell? ((⟨g,0,none⟩ : Addr).add j)=some u) (h1:∀u∈news,u.oneCell'=true)
  (h:∀v' w',w'.ownsRow base e size v' (n+1) (xs++news)→w.grownBy w' v.ownBlock→K (a.put o.dst v') w') :
  if Region.wanted o (yielded ops a.tmps)=true then Oper.wp Tryz.prog o a w K Q else E:=by
 have hw:Region.wanted o (yielded ops a.tmps)=true:=by simp [Region.wanted,hgd]
 rw [if_pos hw]
 obtain ⟨i,hi,hz,hsi,hy⟩:=info_parts hinfo
 have hb:(n+1) * bytes≤140737488355328:=Nat.le_trans (Nat.mul_le_mul (show n+1≤10000001 by omega) hby) (by decide)
 obtain ⟨v',w',hr,r1,r2,_⟩:=run_append_own (P:=Tryz.prog) w base t o.type e i z size bytes ht hi hz hsi hy hz1 hsz v n xs hown ⟨g,0,none⟩ 1 c news hk hnews h1 (by unfold maxLen;omega) hb hbase
 unfold Oper.wp execOp
 simp only [hop,resolve,invoke,builtin,Sem.run_bind,Sem.run_pure,Result.andThen_ok,List.map_toArray,List.map_cons,List.map_nil,hs,hx,hr]
 exact h v' w' r1 r2
theorem aFi (w:World) (cs:Array Value) (T:TypeId) (j:Nat) (u:Value) (h:cs.toList[j]?=some u):(w.alloc (.cells cs T)).cell? ((⟨w.heap.size,0,none⟩ : Addr).add j)=some u:=by
 have h1:(w.alloc (.cells cs T)).heap[w.heap.size]?=some (.cells cs T):=by show (w.heap.push _)[w.heap.size]?=_;simp
 simp only [Array.getElem?_toList] at h
 have e:(⟨w.heap.size,0,none⟩ : Addr).add j=⟨w.heap.size,j,none⟩:=by
  unfold Addr.add
  by_cases hj:j=0
  ·simp [hj]
  ·simp [hj]
 rw [e]
 unfold World.cell?
 rw [h1]
 exact h
def aFj (Q:Exit→Act→World→Prop):Exit→Act→World→Prop
 | .panic _,_,_=>False
 | e,a,w=>Q e a w
theorem rF {c:Code} {Q:Exit→Act→World→Prop} {a:Act} {w:World} (h:c.wp Tryz.prog (aFj Q) a w):c.wp Tryz.prog Q a w:=
 Code.wp_mono (fun e a w h=>by cases e <;> first | exact h | exact False.elim h) h
theorem oU {Q:Exit→Act→World→Prop} {a:Act} {w:World} (h:Q .normal a w):aFj Q .normal a w:=h
theorem aQu (x:Nd) (r:List Nd):aP (x :: r)=.string x.1 :: .int .i64 x.2 :: aP r:=rfl
theorem aQv (l:List Nd):∀(k n:Nat),(aP l).set (k * 2+1) (.int .i64 n)=aP (dF l k n):=by
 induction l with
 | nil=>intro k n;simp [aP,dF]
 | cons x r ih=>
  intro k n
  cases k with
  | zero=>rfl
  | succ k=>
   have:=ih k n
   rw [show (k+1) * 2+1=k * 2+1+1+1 by omega,aQu,List.set_cons_succ,List.set_cons_succ,this]
   rfl
structure TL (L T:List Tk) (brk:Int):Prop where
 kind:∀i,(aD L i).kind=(aD T i).kind
 txt:∀i,(aD L i).txt=(aD T i).txt
 pos:∀i,(aD T i).kind≠63→(aD L i).pos=(aD T i).pos
 bad:∀i,i < T.length→wS L brk i=(aD T i).pos
 more:∀i,i < T.length→(aD T i).kind≠101→(aD T i).kind≠63→i+1 < T.length
 few:T.length≤1000002
theorem aFk {s:ByteArray} {k e:Nat} {t:Tk} (h:dZ s k=.tok t e):t.kind≠101∧t.kind≠63:=by
 unfold dZ at h
 split at h
 ·split at h
  ·cases h
  ·simp only [Nx.tok.injEq] at h
   rw [←h.1]
   simp only
   split <;> decide
 ·split at h
  ·split at h
   ·simp only [Nx.tok.injEq] at h
    rw [←h.1]
    exact ⟨by simp,by simp⟩
   ·cases h
  ·split at h
   ·split at h
    ·simp only [Nx.tok.injEq] at h
     rw [←h.1]
     exact ⟨by simp,by simp⟩
    ·cases h
   ·split at h
    ·rename_i hm
     simp only [Nx.tok.injEq] at h
     rw [←h.1]
     simp only
     unfold nF at hm
     simp at hm
     omega
    ·cases h
theorem aFl (s:ByteArray):∀f k,(∀t∈(bU s f k).1.dropLast,t.kind≠101∧t.kind≠63)∧((bU s f k).2=none→∃l t,(bU s f k).1=l++[t]∧t.kind=101)∧((bU s f k).2≠none→∀t∈(bU s f k).1,t.kind≠101∧t.kind≠63)∧(∀t∈(bU s f k).1,t.kind≠63):=by
 intro f
 induction f with
 | zero=>intro k;simp [bU]
 | succ f ih=>
  intro k
  rw [bU]
  split
  ·split
   ·exact ih _
   ·split
    ·exact ih _
    ·split
     ·rename_i t e ht
      have hk:=aFk ht
      obtain ⟨i1,i2,i3,i4⟩:=ih e
      refine ⟨?_,?_,?_,?_⟩
      ·intro u hu
       simp only at hu
       cases hr:(bU s f e).1 with
       | nil=>rw [hr] at hu;simp at hu
       | cons y r=>
        rw [hr] at hu i1
        rw [List.dropLast_cons_of_ne_nil (by simp)] at hu
        rcases List.mem_cons.1 hu with rfl | hu
        ·exact hk
        ·exact i1 u hu
      ·intro hn
       obtain ⟨l,u,h1,h2⟩:=i2 hn
       exact ⟨t :: l,u,by simp only [h1,List.cons_append],h2⟩
      ·intro hn u hu
       rcases List.mem_cons.1 hu with rfl | hu
       ·exact hk
       ·exact i3 hn u hu
      ·intro u hu
       rcases List.mem_cons.1 hu with rfl | hu
       ·exact hk.2
       ·exact i4 u hu
     ·simp
  ·refine ⟨by simp,fun _=>⟨[],_,rfl,rfl⟩,by simp,by simp⟩
theorem aFm (s:ByteArray):∀f k,(bU s f k).1.length≤f:=by
 intro f
 induction f with
 | zero=>intro k;simp [bU]
 | succ f ih=>
  intro k
  rw [bU]
  split
  ·split
   ·have:=ih (k+1);omega
   ·split
    ·have:=ih (fN s k);omega
    ·split
     ·rename_i t e ht
      have:=ih e
      simp only [List.length_cons]
      omega
     ·simp
  ·simp
theorem aFn (s:ByteArray) (hs:s.size≤1000000):TL (bU s (s.size+1) 0).1 (dM (bU s (s.size+1) 0)) (aF5 (bU s (s.size+1) 0).2):=by
 obtain ⟨_,k2,k3,_⟩:=aFl s (s.size+1) 0
 have hlen:=aFm s (s.size+1) 0
 generalize bU s (s.size+1) 0=r at *
 obtain ⟨L,b⟩:=r
 simp only at k2 k3 hlen
 cases b with
 | none=>
  have hT:dM (L,none)=L:=by simp [dM]
  rw [hT]
  refine ⟨fun _=>rfl,fun _=>rfl,fun _ _=>rfl,fun i hi=>by simp [wS,aD,hi],fun i hi h1 _=>?_,by omega⟩
  obtain ⟨l,t,rfl,ht⟩:=k2 rfl
  by_cases he:i=l.length
  ·subst he
   exact absurd (by simpa [aD] using ht) h1
  ·simp at hi ⊢
   omega
 | some p=>
  have hT:dM (L,some p)=L++[⟨63,⟨#[]⟩,p⟩]:=by simp [dM]
  rw [hT]
  have key:∀i,(i < L.length∧aD (L++[⟨63,⟨#[]⟩,p⟩]) i=aD L i)∨(i=L.length∧aD (L++[⟨63,⟨#[]⟩,p⟩]) i=⟨63,⟨#[]⟩,p⟩∧aD L i=rD)∨(L.length < i∧aD (L++[⟨63,⟨#[]⟩,p⟩]) i=rD∧aD L i=rD):=by
   intro i
   rcases Nat.lt_trichotomy i L.length with h | h | h
   ·exact Or.inl ⟨h,by simp [aD,List.getElem?_append_left h]⟩
   ·subst h
    exact Or.inr (Or.inl ⟨rfl,by simp [aD],by simp [aD]⟩)
   ·refine Or.inr (Or.inr ⟨h,?_,?_⟩)
    ·unfold aD
     rw [List.getD_eq_getElem?_getD,List.getElem?_eq_none (by simp;omega)];rfl
    ·unfold aD
     rw [List.getD_eq_getElem?_getD,List.getElem?_eq_none (by omega)];rfl
  refine ⟨fun i=>?_,fun i=>?_,fun i hi=>?_,fun i hi=>?_,fun i hi h1 h2=>?_,by simp;omega⟩
  ·rcases key i with ⟨_,h⟩ | ⟨_,h,h'⟩ | ⟨_,h,h'⟩
   ·rw [h]
   ·rw [h,h'];rfl
   ·rw [h,h']
  ·rcases key i with ⟨_,h⟩ | ⟨_,h,h'⟩ | ⟨_,h,h'⟩
   ·rw [h]
   ·rw [h,h'];rfl
   ·rw [h,h']
  ·rcases key i with ⟨_,h⟩ | ⟨_,h,h'⟩ | ⟨_,h,h'⟩
   ·rw [h]
   ·rw [h] at hi;exact absurd rfl hi
   ·rw [h,h']
  ·rcases key i with ⟨hl,h⟩ | ⟨hl,h,h'⟩ | ⟨hl,h,h'⟩
   ·rw [h];simp [wS,aD,hl]
   ·rw [h];simp [wS,hl,aF5]
   ·simp at hi;omega
  ·rcases key i with ⟨hl,h⟩ | ⟨hl,h,h'⟩ | ⟨hl,h,h'⟩
   ·simp;omega
   ·rw [h] at h2;exact absurd rfl h2
   ·simp at hi;omega
theorem sM {w:World} {B:Nat} {e:TypeId} {size:Nat} {v:Value} {n:Nat} {xs:List Value} (h:w.ownsRow B e size v n xs) (hn:0 < n):∃g c,v=.slice (some ⟨g,0,none⟩) n c:=by
 obtain ⟨_,⟨rfl,h2⟩ | ⟨g,cap,cur,rfl,_⟩⟩:=h
 ·omega
 ·exact ⟨g,cap,rfl⟩
theorem aQw (l:List Nd) (s:ByteArray):dF (l++[(s,0)]) l.length 0=l++[(s,0)]:=by
 unfold dF
 induction l with
 | nil=>rfl
 | cons x r ih=>simpa using ih
theorem aQx {L T:List Tk} {brk:Int} (ht:TL L T brk):∀f,(∀atom st l st' l',bZ T f atom st l=.ok (st',l')→st.i < T.length→st'.i < T.length)∧(∀st l n st' l' n',dN T f st l n=.ok (st',l',n')→st.i+1 < T.length→st'.i < T.length):=by
 intro f
 induction f with
 | zero=>exact ⟨fun atom st l st' l' h=>by simp [bZ] at h,fun st l n st' l' n' h=>by simp [dN] at h⟩
 | succ f ih=>
  obtain ⟨ih1,ih2⟩:=ih
  constructor
  ·intro atom st l st' l' h hi
   rw [bZ] at h
   split at h
   ·rename_i hc
    simp only [Except.ok.injEq,Prod.mk.injEq] at h
    obtain ⟨rfl,rfl⟩:=h
    exact ht.more _ hi (by rw [hc.1];decide) (by rw [hc.1];decide)
   ·split at h
    ·simp at h
    ·rename_i hc
     have hc:(aD T st.i).kind=110:=by simpa using hc
     have h1:=ht.more _ hi (by rw [hc];decide) (by rw [hc];decide)
     split at h
     ·rename_i hp
      split at h
      ·simp at h
      ·rename_i st1 l1 n1 hq
       simp only [Except.ok.injEq,Prod.mk.injEq] at h
       obtain ⟨rfl,rfl⟩:=h
       have h2:=ht.more _ h1 (by rw [hp];decide) (by rw [hp];decide)
       have h3:=ih2 _ _ _ _ _ _ hq h2
       exact h3
     ·simp only [Except.ok.injEq,Prod.mk.injEq] at h
      obtain ⟨rfl,rfl⟩:=h
      exact h1
  ·intro st l n st' l' n' h hi
   rw [dN] at h
   split at h
   ·simp at h
   ·rename_i st1 l1 hp
    have q:=ih1 _ _ _ _ _ hp hi
    split at h
    ·rename_i hk
     have h2:=ht.more _ q (by rw [hk];decide) (by rw [hk];decide)
     exact ih2 _ _ _ _ _ _ h h2
    ·split at h
     ·rename_i hk
      simp only [Except.ok.injEq,Prod.mk.injEq] at h
      obtain ⟨rfl,rfl,rfl⟩:=h
      exact ht.more _ q (by rw [hk];decide) (by rw [hk];decide)
     ·simp at h
theorem sN:(⟨#[]⟩ : ByteArray).size=0:=rfl
theorem aFo (s:ByteArray) (a b:Nat):(s.extract a b).size≤b - a:=by
 rw [ByteArray.size_extract]
 omega
theorem aQy (s:ByteArray):∀f name p n e,eI s f name p=some (n,e)→n.size+p≤name.size+e∧e≤s.size:=by
 intro f
 induction f with
 | zero=>intro name p n e h;simp [eI] at h
 | succ f ih=>
  intro name p n e h
  rw [eI] at h
  split at h
  ·split at h
   ·split at h
    ·simp at h
     obtain ⟨rfl,rfl⟩:=h
     omega
    ·simp at h
   ·split at h
    ·split at h
     ·have q:=ih _ _ _ _ h
      have:=aFo s (p+1) (p+2)
      rw [ByteArray.size_append] at q
      omega
     ·simp at h
    ·split at h
     ·simp at h
     ·have q:=ih _ _ _ _ h
      have:=aFo s p (p+bD s p)
      rw [ByteArray.size_append] at q
      omega
  ·simp at h
theorem aQz {s:ByteArray} {k e:Nat} {t:Tk} (h:dZ s k=.tok t e):t.txt.size≤s.size:=by
 unfold dZ at h
 split at h
 ·split at h
  ·cases h
  ·simp only [Nx.tok.injEq] at h
   rw [←h.1]
   simp only
   rw [ByteArray.size_extract]
   omega
 ·split at h
  ·split at h
   ·rename_i n e' hq
    simp only [Nx.tok.injEq] at h
    rw [←h.1]
    have q:=aQy _ _ _ _ _ _ hq
    rw [sN] at q
    show n.size≤s.size
    omega
   ·cases h
  ·split at h
   ·split at h
    ·simp only [Nx.tok.injEq] at h
     rw [←h.1]
     exact Nat.zero_le _
    ·cases h
   ·split at h
    ·simp only [Nx.tok.injEq] at h
     rw [←h.1]
     exact Nat.zero_le _
    ·cases h
theorem aR0 (s:ByteArray):∀f k,∀t∈(bU s f k).1,t.txt.size≤s.size:=by
 intro f
 induction f with
 | zero=>intro k;simp [bU]
 | succ f ih=>
  intro k
  rw [bU]
  split
  ·split
   ·exact ih _
   ·split
    ·exact ih _
    ·split
     ·rename_i t e ht
      intro u hu
      rcases List.mem_cons.1 hu with rfl | hu
      ·exact aQz ht
      ·exact ih _ u hu
     ·simp
  ·intro t ht
   simp at ht
   rw [ht]
   exact Nat.zero_le _
structure uG (L T:List Tk):Prop where
 small:∀i,(aD T i).txt.size≤1000000
 low:∀i,i < L.length→(aD T i).kind≠63∧i < T.length
 rest:∀i,¬i < L.length→(aD T i).kind=63
theorem aAt (s:ByteArray) (hs:s.size≤1000000):uG (bU s (s.size+1) 0).1 (dM (bU s (s.size+1) 0)):=by
 obtain ⟨_,_,_,k4⟩:=aFl s (s.size+1) 0
 have hsm:=aR0 s (s.size+1) 0
 generalize bU s (s.size+1) 0=r at *
 obtain ⟨L,b⟩:=r
 simp only at k4 hsm
 have key:∀i,(i < L.length∧aD (dM (L,b)) i∈L∧i < (dM (L,b)).length)∨(¬i < L.length∧(aD (dM (L,b)) i).kind=63∧(aD (dM (L,b)) i).txt=⟨#[]⟩):=by
  intro i
  by_cases h:i < L.length
  ·refine Or.inl ⟨h,?_,by simp [dM];omega⟩
   have:aD (dM (L,b)) i=L[i]:=by simp [aD,dM,List.getElem?_append_left h,h]
   rw [this]
   exact List.getElem_mem _
  ·refine Or.inr ⟨h,?_⟩
   cases b with
   | none=>
    have:aD (dM (L,none)) i=rD:=by simp only [aD,dM,List.append_nil];rw [List.getD_eq_getElem?_getD,List.getElem?_eq_none (by omega)];rfl
    rw [this];exact ⟨rfl,rfl⟩
   | some p=>
    by_cases he:i=L.length
    ·subst he
     have:aD (dM (L,some p)) L.length=⟨63,⟨#[]⟩,p⟩:=by simp [aD,dM]
     rw [this];exact ⟨rfl,rfl⟩
    ·have:aD (dM (L,some p)) i=rD:=by simp only [aD,dM];rw [List.getD_eq_getElem?_getD,List.getElem?_eq_none (by simp;omega)];rfl
     rw [this];exact ⟨rfl,rfl⟩
 refine ⟨fun i=>?_,fun i hi=>?_,fun i hi=>?_⟩
 ·rcases key i with ⟨_,h,_⟩ | ⟨_,_,h⟩
  ·have:=hsm _ h;omega
  ·rw [h,sN];omega
 ·rcases key i with ⟨_,h,h'⟩ | ⟨h,_⟩
  ·exact ⟨k4 _ h,h'⟩
  ·exact absurd hi h
 ·rcases key i with ⟨h,_⟩ | ⟨_,h,_⟩
  ·exact absurd h hi
  ·exact h
def dI (l:List Nd):Prop:=∀x∈l,x.1.size≤1000000
theorem uH {l:List Nd} {x:Nd} (h:dI l) (hx:x.1.size≤1000000):dI (l++[x]):=by
 intro y hy
 rcases List.mem_append.1 hy with hy | hy
 ·exact h y hy
 ·simp at hy;subst hy;exact hx
theorem aR1 {l:List Nd} (h:dI l) (k n:Nat):dI (dF l k n):=by
 intro y hy
 unfold dF at hy
 rw [List.mem_iff_getElem?] at hy
 obtain ⟨j,hj⟩:=hy
 rw [List.getElem?_modify] at hj
 cases hq:l[j]? with
 | none=>rw [hq] at hj;simp at hj
 | some z=>
  rw [hq] at hj
  have hz:=h z (List.mem_of_getElem? hq)
  simp at hj
  subst hj
  split <;> exact hz
theorem aR2 {L T:List Tk} (hx:uG L T):∀f,(∀atom st l st' l',bZ T f atom st l=.ok (st',l')→dI l→dI l')∧(∀st l n st' l' n',dN T f st l n=.ok (st',l',n')→dI l→dI l'):=by
 intro f
 induction f with
 | zero=>exact ⟨fun atom st l st' l' h=>by simp [bZ] at h,fun st l n st' l' n' h=>by simp [dN] at h⟩
 | succ f ih=>
  obtain ⟨ih1,ih2⟩:=ih
  constructor
  ·intro atom st l st' l' h hl
   rw [bZ] at h
   split at h
   ·simp only [Except.ok.injEq,Prod.mk.injEq] at h
    obtain ⟨rfl,rfl⟩:=h
    exact uH hl (by rw [sN];omega)
   ·split at h
    ·simp at h
    ·have hl1:=uH (x:=((aD T st.i).txt,0)) hl (hx.small _)
     split at h
     ·split at h
      ·simp at h
      ·rename_i st1 l1 n1 hq
       simp only [Except.ok.injEq,Prod.mk.injEq] at h
       obtain ⟨rfl,rfl⟩:=h
       exact aR1 (ih2 _ _ _ _ _ _ hq hl1) _ _
     ·simp only [Except.ok.injEq,Prod.mk.injEq] at h
      obtain ⟨rfl,rfl⟩:=h
      exact hl1
  ·intro st l n st' l' n' h hl
   rw [dN] at h
   split at h
   ·simp at h
   ·rename_i st1 l1 hp
    have q:=ih1 _ _ _ _ _ hp hl
    split at h
    ·exact ih2 _ _ _ _ _ _ h q
    ·split at h
     ·simp only [Except.ok.injEq,Prod.mk.injEq] at h
      obtain ⟨rfl,rfl,rfl⟩:=h
      exact q
     ·simp at h
theorem aR3 (l r:List Nd) (k n:Nat) (h:k < l.length):dF (l++r) k n=dF l k n++r:=by
 induction l generalizing k with
 | nil=>simp at h
 | cons x t ih=>
  cases k with
  | zero=>rfl
  | succ k=>
   have:=ih k (by simpa using h)
   unfold dF at this ⊢
   simpa using this
theorem aR4 (l r:List Nd) (k n:Nat):dF (l++r) (l.length+k) n=l++dF r k n:=by
 induction l with
 | nil=>simp
 | cons x t ih=>
  unfold dF at ih ⊢
  simp only [List.length_cons,List.cons_append]
  rw [show t.length+1+k=t.length+k+1 by omega]
  simpa using ih
theorem sO (l:List Nd) (k n:Nat):(dF l k n).length=l.length:=by simp [dF]
theorem aR5 (l:List Nd) (k n m:Nat):dF (dF l k n) k m=dF l k m:=by
 induction l generalizing k with
 | nil=>simp [dF]
 | cons x t ih=>
  cases k with
  | zero=>rfl
  | succ k=>
   have:=ih k
   unfold dF at this ⊢
   simpa using this
theorem aFp (T:List Tk):∀f,(∀atom st l,bZ T f atom st l=match bZ T f atom st [] with | .error p=>.error p | .ok (s,r)=>.ok (s,l++r))∧(∀st l n,dN T f st l n=match dN T f st [] n with | .error p=>.error p | .ok (s,r,k)=>.ok (s,l++r,k)):=by
 intro f
 induction f with
 | zero=>exact ⟨fun atom st l=>by simp [bZ],fun st l n=>by simp [dN]⟩
 | succ f ih=>
  obtain ⟨ih1,ih2⟩:=ih
  constructor
  ·intro atom st l
   rw [bZ,bZ]
   split
   ·simp
   ·split
    ·simp
    ·split
     ·rw [ih2 _ (l++[((aD T st.i).txt,0)]) 0,ih2 _ ([]++[((aD T st.i).txt,0)]) 0]
      cases dN T f ⟨st.i+1,st.vars,st.places++[((aD T st.i).txt,atom,0,((aD T st.i).pos:Int))]⟩ [] 0 with
      | error p=>rfl
      | ok r=>
       obtain ⟨s1,r1,n1⟩:=r
       simp only [List.nil_append,List.length_nil]
       have:=aR4 l ([((aD T st.i).txt,0)]++r1) 0 n1
       rw [List.append_assoc,show l.length=l.length+0 from rfl,this]
     ·simp
  ·intro st l n
   rw [dN,dN,ih1 false _ l]
   cases hq:bZ T f false ⟨st.i+1,st.vars,st.places⟩ [] with
   | error p=>rfl
   | ok r=>
    obtain ⟨s1,r1⟩:=r
    simp only
    split
    ·rw [ih2 s1 (l++r1) (n+1),ih2 s1 r1 (n+1)]
     cases dN T f s1 [] (n+1) with
     | error p=>rfl
     | ok r=>simp
    ·split
     ·rfl
     ·rfl
def lH (l:List Pl):List Value:=l.map fun p=>.int .i64 p.2.2.2
theorem aR6 (l:List Pl) (p:Pl):lH (l++[p])=lH l++[.int .i64 p.2.2.2]:=by simp [lH]
theorem aR7 (l:List Pl) (k n:Nat):lH (nV l k n)=lH l:=by
 induction l generalizing k with
 | nil=>simp [nV]
 | cons x t ih=>
  cases k with
  | zero=>rfl
  | succ k=>
   have:=ih k
   unfold nV lH at this ⊢
   simpa using this
theorem aR8 (l:List Pl) (k n:Nat):(nV l k n).length=l.length:=by simp [nV]
def nW (w:World) (B:Nat) (p:List (Lt×Value)×Value):Prop:=w.ownsRow B 74 2 p.2 p.1.length (aT p.1)∧∀q∈p.1,w.ownsRow B 106 2 q.2 q.1.2.length (aP q.1.2)
theorem aAu {w:World} {B:Nat} {v:Value} {P:List (Lt×Value)} (h:w.ownsRow B 74 2 v P.length (aT P)) (ha:∀q∈P,w.ownsRow B 106 2 q.2 q.1.2.length (aP q.1.2)) (hs:∀q∈P,dI q.1.2) (hc:aN (P.map Prod.fst)≤1000000) (hn:P.length≤2000000) :
  ∃a cap,v=.slice a P.length cap∧bP w a (P.map Prod.fst):=by
 obtain ⟨a,cap,rfl,hk⟩:=rT h
 refine ⟨a,cap,rfl,⟨by simp;omega,fun k hkl=>?_⟩⟩
 have hkl':k < P.length:=by simpa using hkl
 obtain ⟨g,rfl,h1,h2⟩:=hk k hkl'
 have hm:P[k]∈P:=List.getElem_mem _
 have hcm:=vJ (P.map Prod.fst) P[k].1 (List.mem_map.2 ⟨_,hm,rfl⟩)
 obtain ⟨aa,ac,hv,hN⟩:=tD (ha _ hm) (by omega) (fun j hj=>by have:=hs _ hm _ (List.getElem_mem hj);omega)
 refine ⟨g,0,aa,ac,rfl,?_,?_,?_⟩
 ·simpa using h1
 ·rw [Nat.zero_add,h2,hv];simp
 ·simpa using hN
theorem aR9:(Tryz.prog.info? 24).map (fun i=>(i.zero,i.size,i.bytes))=some (some (.slice none 0 0),1,24):=by kernel_rfl
theorem aRa {ops:Array Oper} {o:Oper} {a:Act} {w:World} {K:Act→World→Prop} {Q:Exit→Act→World→Prop} {E:Prop} (hgd:o.guard=none) (f:Nat) (ops':Array Operand) (ts:Array TypeId)
  (ho:o.op=.call {callee:=.value (.func f),args:=ops',argTypes:=ts}) (he:∀args w,(callFunc f args).run Tryz.prog w=.ok (.enter f args) w) (vals:Array Value) (hv:ops'.toList.map a.eval=vals.toList) {R:Ending→World→Prop} (hc:Calls Tryz.prog f vals w R)
  (h:∀e w',R e w'→∃v,e=.returned v∧K (a.put o.dst v) w') :
  if Region.wanted o (yielded ops a.tmps)=true then Oper.wp Tryz.prog o a w K Q else E:=by
 have hw:Region.wanted o (yielded ops a.tmps)=true:=by simp [Region.wanted,hgd]
 rw [if_pos hw]
 have hr:(execOp a.eval o).run Tryz.prog w=.ok (.enter f vals) w:=by
  have hv:ops'.map a.eval=vals:=by apply Array.ext';rw [Array.toList_map];exact hv
  subst hv
  simp [execOp,ho,resolve,invoke,he,Act.eval,Deferred.ofValue]
 unfold Oper.wp
 rw [hr,Oper.upon_enter]
 exact hc.mono fun e w' hR=>by
  obtain ⟨v,rfl,hk⟩:=h e w' hR
  exact hk
def iH (T:List Tk) (st:aV):aV:=⟨if (aD T st.i).kind=126 then st.i+1 else st.i,st.vars,st.places⟩
theorem aAv {T:List Tk} {g p:Nat} {st:aV} {c:List Lt} (h:bZ T (T.length+1) true (iH T st) []=.error p):fG T (g+1) st c=.error p:=by
 unfold iH at h
 rw [fG,h]
theorem aAw {T:List Tk} {g:Nat} {st s':aV} {a:List Nd} {c:List Lt} (h:bZ T (T.length+1) true (iH T st) []=.ok (s',a)) (hk:(aD T s'.i).kind=124):fG T (g+1) st c=fG T g ⟨s'.i+1,s'.vars,s'.places⟩ (c++[(decide ((aD T st.i).kind=126),a)]):=by
 unfold iH at h
 rw [fG,h]
 simp only
 rw [if_pos hk]
theorem aAx {T:List Tk} {g:Nat} {st s':aV} {a:List Nd} {c:List Lt} (h:bZ T (T.length+1) true (iH T st) []=.ok (s',a)) (hk:(aD T s'.i).kind≠124):fG T (g+1) st c=.ok (s',c++[(decide ((aD T st.i).kind=126),a)]):=by
 unfold iH at h
 rw [fG,h]
 simp only
 rw [if_neg hk]
theorem aAy (T:List Tk) (st:aV):st.i≤(iH T st).i∧(iH T st).i≤st.i+1∧(iH T st).vars=st.vars∧(iH T st).places=st.places:=by
 unfold iH
 simp only
 split <;> simp
theorem aRb {L T:List Tk} {brk:Int} (ht:TL L T brk) {st:aV} (h:st.i < T.length):(iH T st).i < T.length:=by
 unfold iH
 simp only
 split
 ·rename_i hk;exact ht.more _ h (by rw [hk];decide) (by rw [hk];decide)
 ·exact h
theorem aFq:dI []:=fun x hx=>by simp at hx
theorem aRc {L T:List Tk} {brk:Int} (ht:TL L T brk) (hx:uG L T):∀f st c st' c',fG T f st c=.ok (st',c')→st.i < T.length→(∀x∈c,dI x.2)→
  (∀x∈c',dI x.2)∧st.i < st'.i∧st'.i < T.length∧aN c'≤aN c+(st'.i - st.i)∧c'.length≤c.length+(st'.i - st.i)∧st.places.length≤st'.places.length∧st'.places.length≤st.places.length+(st'.i - st.i):=by
 intro f
 induction f with
 | zero=>intro st c st' c' h;simp [fG] at h
 | succ f ih=>
  intro st c st' c' h hi hs
  cases hq:bZ T (T.length+1) true (iH T st) [] with
  | error p=>rw [aAv hq] at h;simp at h
  | ok r=>
   obtain ⟨s2,l2⟩:=r
   obtain ⟨q1,q2,q3,q4⟩:=aAy T st
   have hon:=(sK T (T.length+1)).1 _ _ _ _ _ hq
   have hin:=(aQx ht (T.length+1)).1 _ _ _ _ _ hq (aRb ht hi)
   have hsh:=(aR2 hx (T.length+1)).1 _ _ _ _ _ hq aFq
   rw [q3,q4] at hon
   simp only [List.length_nil] at hon
   have hs2:∀x∈c++[(decide ((aD T st.i).kind=126),l2)],dI x.2:=by
    intro x hx
    rcases List.mem_append.1 hx with hx | hx
    ·exact hs x hx
    ·simp at hx;subst hx;exact hsh
   by_cases hk:(aD T s2.i).kind=124
   ·rw [aAw hq hk] at h
    have h1:=ht.more _ hin (by rw [hk];decide) (by rw [hk];decide)
    have r:=ih _ _ _ _ h h1 hs2
    rw [oI] at r
    simp only [List.length_append,List.length_singleton] at r
    refine ⟨r.1,?_⟩
    obtain ⟨_,r2,r3,r4,r5,r6,r7⟩:=r
    omega
   ·rw [aAx hq hk] at h
    simp only [Except.ok.injEq,Prod.mk.injEq] at h
    obtain ⟨rfl,rfl⟩:=h
    refine ⟨hs2,?_⟩
    rw [oI]
    simp only [List.length_append,List.length_singleton]
    omega
theorem aFr {L T:List Tk} {brk:Int} (ht:TL L T brk) (hx:uG L T) {st st':aV} {c:List Lt} (h:kH T st=.ok (st',c)) (hi:st.i < T.length) :
  (∀x∈c,dI x.2)∧st.i < st'.i∧st'.i < T.length∧aN c≤T.length∧c.length≤T.length∧st.places.length≤st'.places.length∧st'.places.length≤st.places.length+(st'.i - st.i):=by
 unfold kH at h
 cases hq:kG T st with
 | error p=>rw [hq] at h;simp at h
 | ok r=>
  obtain ⟨s1,c1⟩:=r
  rw [hq] at h
  simp only at h
  split at h
  ·rename_i hk
   simp only [Except.ok.injEq,Prod.mk.injEq] at h
   obtain ⟨rfl,rfl⟩:=h
   unfold kG at hq
   split at hq
   ·rename_i h102
    have h1:=ht.more _ hi (by rw [h102];decide) (by rw [h102];decide)
    simp only [Except.ok.injEq,Prod.mk.injEq] at hq
    obtain ⟨rfl,rfl⟩:=hq
    have h2:=ht.more _ h1 (by rw [hk];decide) (by rw [hk];decide)
    refine ⟨fun x hx=>by simp at hx,by simp;omega,h2,by simp [aN],by simp,by simp,by simp⟩
   ·obtain ⟨r1,r2,r3,r4,r5,r6,r7⟩:=aRc ht hx _ _ _ _ _ hq hi (fun x hx=>by simp at hx)
    have h2:=ht.more _ r3 (by rw [hk];decide) (by rw [hk];decide)
    simp only [List.length_nil,aN,List.map_nil,List.sum_nil] at r2 r4 r5 r6 r7
    refine ⟨r1,by simp only;omega,h2,?_,by omega,r6,by simp only;omega⟩
    unfold aN
    omega
  ·simp at h
theorem aRd (l:List Nd):∀seen,dI l→dI (dC l seen).1:=by
 have key:∀(l:List Nd) (acc:List Nd×List Int),dI l→dI acc.1→dI (l.foldl bV acc).1:=by
  intro l
  induction l with
  | nil=>intro acc _ h;exact h
  | cons x r ih=>
   intro acc hl ha
   refine ih _ (fun y hy=>hl y (List.mem_cons_of_mem _ hy)) ?_
   have hxs:=hl x (List.mem_cons_self ..)
   unfold bV
   split
   ·split
    ·exact uH ha (by first | exact hxs | (rw [sN];omega))
    ·exact uH ha (by first | exact hxs | (rw [sN];omega))
   ·exact uH ha hxs
 exact fun seen h=>key l ([],seen) h aFq
theorem aRe (c:List Lt) (h:∀x∈c,dI x.2):∀x∈(cH c).1,dI x.2:=by
 have key:∀(c:List Lt) (acc:List Lt×List Int),(∀x∈c,dI x.2)→(∀x∈acc.1,dI x.2)→∀x∈(c.foldl cS acc).1,dI x.2:=by
  intro c
  induction c with
  | nil=>intro acc _ h;exact h
  | cons y r ih=>
   intro acc hc ha
   refine ih _ (fun z hz=>hc z (List.mem_cons_of_mem _ hz)) ?_
   intro x hx
   unfold cS at hx
   simp only at hx
   rcases List.mem_append.1 hx with hx | hx
   ·exact ha x hx
   ·simp at hx
    subst hx
    exact aRd _ _ (hc y (List.mem_cons_self ..))
 exact key c ([],[]) h (fun x hx=>by simp at hx)
theorem aRf (c:List Lt):aN (cH c).1=aN c:=by
 have key:∀(c:List Lt) (acc:List Lt×List Int),aN (c.foldl cS acc).1=aN acc.1+aN c:=by
  intro c
  induction c with
  | nil=>intro acc;simp [aN]
  | cons y r ih=>
   intro acc
   rw [List.foldl_cons,ih]
   unfold cS
   simp only
   rw [oI]
   simp only [aN,List.map_cons,List.sum_cons]
   have:=(tE y.2 acc.2).1
   omega
 have:=key c ([],[])
 simpa [cH,aN] using this
theorem aRg (c:List Lt) (h:∀x∈c,dI x.2):(∀x∈aS c,dI x.2)∧aN (aS c)≤aN c∧(aS c).length≤c.length:=by
 obtain ⟨d1,d2,d3⟩:=qO c
 refine ⟨aRe _ fun x hx=>h x (d3 x hx),?_,?_⟩
 ·unfold aS
  rw [aRf]
  exact d2
 ·unfold aS
  rw [(pM _).1]
  exact d1
def nX (cs:List (Nat×List Lt)) (i:Nat) (h:i < cs.length):Prop:=40≤i∨dQ (aS cs[i].2)=false
def wY (cs:List (Nat×List Lt)) (out:List (List Lt)) (at' er:Int):Prop:=
 (∃i h,nX cs i h∧(∀j hj,j < i→¬nX cs j hj)∧out=[]∧at'=cs[i].1∧er=4)∨((∀i h,¬nX cs i h)∧out=cs.map (fun p=>aS p.2)∧at'=0∧er=0)
def nY (s:ByteArray) (out:List (List Lt)) (at' er:Int):Prop:=
 (3000 < s.size∧out=[]∧at'=0∧er=1)∨(s.size≤3000∧
  match sJ s with
  | .error p=>out=[]∧at'=p∧er=2
  | .ok (st,cs)=>∃r,tZ st.places r∧((0≤r∧out=[]∧at'=r∧er=3)∨(r < 0∧wY cs out at' er)))
def wZ (B:Nat) (w:World) (v:Value) (CV:List (List (Lt×Value)×Value)):Prop:=
 w.ownsRow B 24 1 v CV.length (CV.map Prod.snd)∧∀p∈CV,nW w B p∧(∀q∈p.1,dI q.1.2)∧aN (p.1.map Prod.fst)≤1000000∧p.1.length≤1000000
theorem wZ.nil (B:Nat) (w:World):wZ B w (.slice none 0 0) []:=⟨World.ownsRow_nil _ _ _ _,fun p hp=>by simp at hp⟩
structure jB (B:Nat) (w:World) (v:Value) (QV:List (List (Lt×Value)×Value)):Prop where
 mem:wZ B w v QV
 once:(QV.map fun p=>p.2.ownBlock).Nodup
 atoms:(QV.flatMap fun p=>p.1.filterMap fun q=>q.2.ownBlock).Nodup
theorem jB.nil (B:Nat) (w:World):jB B w (.slice none 0 0) []:=⟨wZ.nil _ _,by simp,by simp⟩
end Go.Proofs.YtbddofieljiihaaGreatDoor
namespace Go.Proofs.YtbddofieljiihaaGreatDoor
open Go.RowKit Go.WideMaps
set_option maxRecDepth 100000
theorem tZ.none {l:List Pl} {r:Int} (h:tZ l r) (hb:∀i h,¬nG l i h):r=-1:=by
 rcases h with ⟨rfl,_⟩ | ⟨i,hi,h,_⟩
 ·rfl
 ·exact absurd h (hb i hi)
theorem aFs {s:ByteArray} {out:List (List Lt)} {at' er:Int} (h:nY s out at' er) (hs:s.size≤3000) {st:aV} {cs:List (Nat×List Lt)} (hp:sJ s=.ok (st,cs)) (hb:∀i h,¬nG st.places i h) (hc:∀i h,¬nX cs i h):out=cs.map (fun p=>aS p.2)∧at'=0∧er=0:=by
 rcases h with ⟨h1,_⟩ | ⟨_,h⟩
 ·omega
 ·rw [hp] at h
  obtain ⟨r,h1,h2⟩:=h
  have:=h1.none hb
  subst this
  rcases h2 with ⟨h0,_⟩ | ⟨_,h3⟩
  ·omega
  ·rcases h3 with ⟨i,hi,hbad,_⟩ | ⟨_,rfl,rfl,rfl⟩
   ·exact absurd hbad (hc i hi)
   ·exact ⟨rfl,rfl,rfl⟩
def pN:Nd:=(⟨#[112]⟩,0)
def cP:List Lt:=[(false,[pN])]
def cNp:List Lt:=[(true,[pN])]
end Go.Proofs.YtbddofieljiihaaGreatDoor
