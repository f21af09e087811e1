import Derived.Test.YtcldkjcpofjmhaaGreatDoorRefs1M
import Derived.Test.YtcldkjcpofjmhaaGreatDoorText0M
import Derived.Deep.RegionLaw
import Derived.Deep.RegionHeld3
import Derived.Deep.DeepCutAuto
open List renaming getD_eq_getElem?_getD→zz,getElem?_eq_none→zx,getElem?_append_left→zv,mem_cons→zu,getElem_mem→zt,mem_append→zs,length_nil→zr,length_singleton→zq,mem_cons_of_mem→zp,set_cons_succ→zo,length_append→zn,mem_cons_self→zm,cons_append→zl,length_cons→zk
namespace Go.Proofs.YtcldkjcpofjmhaaGreatDoor
open Region renaming wanted→zw
open _root_.Go.Proofs.Tryz renaming prog→zy
set_option maxRecDepth 100000
open Go.RowKit
theorem mZ{ops:Array Oper}{o:Oper}{a:Act}{w:World}{K:Act->World->Prop}{Q:Exit->Act->World->Prop}{E:Prop}(hgd:o.guard=none)(s x:Operand)(t e:TypeId)(hop:o.op=.call {callee:=.builtin .append,args:=#[s,x],argTypes:=#[t,t]})
  (z:Value) (size bytes:Nat) (ht:zy.underlying t=some (.slice e)) (hinfo:(zy.info? e).map (λi=>(i.zero,i.size,i.bytes))=some (some z,size,bytes)) (hz1:z.cells.size=size) (hsz:0<size) (hby:bytes<=100) (base:Nat) (v:Value) (n:Nat) (xs:List Value) (hs:a.eval s=v) (hown:w.ownsRow base e size v n xs) (hn:n<=10000000) (hbase:base<=w.heap.size) (g c:Nat) (news:List Value) (hx:a.eval x=.slice (some ⟨g,0,none⟩) 1 c) (hk:news.length=1*size) (hnews:∀j u,news[j]?=some u->w.cell? ((⟨g,0,none⟩ : Addr).add j)=some u) (h1:∀u∈news,u.oneCell'=true)
  (h:∀v' w',w'.ownsRow base e size v' (n+1) (xs++news)->w.grownBy w' v.ownBlock->K (a.put o.dst v') w') :
  if zw o (yielded ops a.tmps)=true then Oper.wp zy o a w K Q else E:=by
 have hw:zw o (yielded ops a.tmps)=true:=by simp [zw,hgd]
 rw [if_pos hw];obtain ⟨i,hi,hz,hsi,hy⟩:=info_parts hinfo;have hb:(n+1)*bytes<=140737488355328:=Nat.le_trans (Nat.mul_le_mul (show n+1<=10000001 by omega) hby) (by decide);obtain ⟨v',w',hr,r1,r2,_⟩:=run_append_own (P:=zy) w base t o.type e i z size bytes ht hi hz hsi hy hz1 hsz v n xs hown ⟨g,0,none⟩ 1 c news hk hnews h1 (by unfold maxLen;omega) hb hbase;unfold Oper.wp execOp;simp only [hop,resolve,invoke,builtin,Sem.run_bind,Sem.run_pure,Result.andThen_ok,List.map_toArray,List.map_cons,List.map_nil,hs,hx,hr];exact h v' w' r1 r2
theorem aHw(w:World)(cs:Array Value)(T:TypeId)(j:Nat)(u:Value)(h:cs.toList[j]?=some u):(w.alloc (.cells cs T)).cell? ((⟨w.heap.size,0,none⟩ : Addr).add j)=some u:=by
 have h1:(w.alloc (.cells cs T)).heap[w.heap.size]?=some (.cells cs T):=by show (w.heap.push _)[w.heap.size]?=_;simp
 simp only [Array.getElem?_toList] at h;have e:(⟨w.heap.size,0,none⟩ : Addr).add j=⟨w.heap.size,j,none⟩:=by
  unfold Addr.add;by_cases hj:j=0
  ·simp [hj]
  ·simp [hj]
 rw [e];unfold World.cell?;rw [h1];exact h
def aHx(Q:Exit->Act->World->Prop):Exit->Act->World->Prop
 | .panic _,_,_=>False
 | e,a,w=>Q e a w
theorem tE{c:Code}{Q:Exit->Act->World->Prop}{a:Act}{w:World}(h:c.wp zy (aHx Q) a w):c.wp zy Q a w:=
 Code.wp_mono (λe a w h=>by cases e <;> first | exact h | exact False.elim h) h
theorem qJ{Q:Exit->Act->World->Prop}{a:Act}{w:World}(h:Q .normal a w):aHx Q .normal a w:=h
theorem aS6(x:Nd)(r:List Nd):aH (x :: r)=.string x.1 :: .int .i64 x.2 :: aH r:=rfl
theorem aS7(l:List Nd):∀(k n:Nat),(aH l).set (k*2+1) (.int .i64 n)=aH (dP l k n):=by
 induction l with
 | nil=>intro k n;simp [aH,dP]
 | cons x r ih=>
  intro k n;cases k with
  | zero=>rfl
  | succ k=>
   have:=ih k n;rw [show (k+1)*2+1=k*2+1+1+1 by omega,aS6,zo,zo,this];rfl
structure TL(L T:List Tk)(brk:Int):Prop where
 kind:∀i,(aE L i).kind=(aE T i).kind
 txt:∀i,(aE L i).txt=(aE T i).txt
 pos:∀i,(aE T i).kind≠63->(aE L i).pos=(aE T i).pos
 bad:∀i,i<T.length->zN L brk i=(aE T i).pos
 more:∀i,i<T.length->(aE T i).kind≠101->(aE T i).kind≠63->i+1<T.length
 few:T.length<=1000002
theorem aHy{s:ByteArray}{k e:Nat}{t:Tk}(h:eP s k=.tok t e):t.kind≠101/\t.kind≠63:=by
 unfold eP at h;split at h
 ·split at h
  ·cases h
  ·simp only [Nx.tok.injEq] at h;rw [<-h.1];simp only;split <;> decide
 ·split at h
  ·split at h
   ·simp only [Nx.tok.injEq] at h;rw [<-h.1];exact ⟨by simp,by simp⟩
   ·cases h
  ·split at h
   ·split at h
    ·simp only [Nx.tok.injEq] at h;rw [<-h.1];exact ⟨by simp,by simp⟩
    ·cases h
   ·split at h
    ·rename_i hm;simp only [Nx.tok.injEq] at h;rw [<-h.1];simp only;unfold pD at hm;simp at hm;omega
    ·cases h
theorem aHz(s:ByteArray):∀f k,(∀t∈(cQ s f k).1.dropLast,t.kind≠101/\t.kind≠63)/\((cQ s f k).2=none->∃l t,(cQ s f k).1=l++[t]/\t.kind=101)/\((cQ s f k).2≠none->∀t∈(cQ s f k).1,t.kind≠101/\t.kind≠63)/\(∀t∈(cQ s f k).1,t.kind≠63):=by
 intro f;induction f with
 | zero=>intro k;simp [cQ]
 | succ f ih=>
  intro k;rw [cQ];split
  ·split
   ·exact ih _
   ·split
    ·exact ih _
    ·split
     ·rename_i t e ht;have hk:=aHy ht;obtain ⟨i1,i2,i3,i4⟩:=ih e;refine ⟨?_,?_,?_,?_⟩
      ·intro u hu;simp only at hu;cases hr:(cQ s f e).1 with
       | nil=>rw [hr] at hu;simp at hu
       | cons y r=>
        rw [hr] at hu i1;rw [List.dropLast_cons_of_ne_nil (by simp)] at hu;rcases zu.1 hu with rfl | hu
        ·exact hk
        ·exact i1 u hu
      ·intro hn;obtain ⟨l,u,h1,h2⟩:=i2 hn;exact ⟨t :: l,u,by simp only [h1,zl],h2⟩
      ·intro hn u hu;rcases zu.1 hu with rfl | hu
       ·exact hk
       ·exact i3 hn u hu
      ·intro u hu;rcases zu.1 hu with rfl | hu
       ·exact hk.2
       ·exact i4 u hu
     ·simp
  ·refine ⟨by simp,λ_=>⟨[],_,rfl,rfl⟩,by simp,by simp⟩
theorem aI0(s:ByteArray):∀f k,(cQ s f k).1.length<=f:=by
 intro f;induction f with
 | zero=>intro k;simp [cQ]
 | succ f ih=>
  intro k;rw [cQ];split
  ·split
   ·have:=ih (k+1);omega
   ·split
    ·have:=ih (gQ s k);omega
    ·split
     ·rename_i t e ht;have:=ih e;simp only [zk];omega
     ·simp
  ·simp
theorem aI1(s:ByteArray)(hs:s.size<=1000000):TL (cQ s (s.size+1) 0).1 (eQ (cQ s (s.size+1) 0)) (aIg (cQ s (s.size+1) 0).2):=by
 obtain ⟨_,k2,k3,_⟩:=aHz s (s.size+1) 0;have hlen:=aI0 s (s.size+1) 0;generalize cQ s (s.size+1) 0=r at *;obtain ⟨L,b⟩:=r;simp only at k2 k3 hlen;cases b with
 | none=>
  have hT:eQ (L,none)=L:=by simp [eQ]
  rw [hT];refine ⟨λ_=>rfl,λ_=>rfl,λ_ _=>rfl,λi hi=>by simp [zN,aE,hi],λi hi h1 _=>?_,by omega⟩;obtain ⟨l,t,rfl,ht⟩:=k2 rfl;by_cases he:i=l.length
  ·subst he;exact absurd (by simpa [aE] using ht) h1
  ·simp at hi ⊢;omega
 | some p=>
  have hT:eQ (L,some p)=L++[⟨63,⟨#[]⟩,p⟩]:=by simp [eQ]
  rw [hT];have key:∀i,(i<L.length/\aE (L++[⟨63,⟨#[]⟩,p⟩]) i=aE L i)\/(i=L.length/\aE (L++[⟨63,⟨#[]⟩,p⟩]) i=⟨63,⟨#[]⟩,p⟩/\aE L i=uW)\/(L.length<i/\aE (L++[⟨63,⟨#[]⟩,p⟩]) i=uW/\aE L i=uW):=by
   intro i;rcases Nat.lt_trichotomy i L.length with h | h | h
   ·exact Or.inl ⟨h,by simp [aE,zv h]⟩
   ·subst h;exact Or.inr (Or.inl ⟨rfl,by simp [aE],by simp [aE]⟩)
   ·refine Or.inr (Or.inr ⟨h,?_,?_⟩)
    ·unfold aE;rw [zz,zx (by simp;omega)];rfl
    ·unfold aE;rw [zz,zx (by omega)];rfl
  refine ⟨λi=>?_,λi=>?_,λi hi=>?_,λi hi=>?_,λi hi h1 h2=>?_,by simp;omega⟩
  ·rcases key i with ⟨_,h⟩ | ⟨_,h,h'⟩ | ⟨_,h,h'⟩
   ·rw [h]
   ·rw [h,h'];rfl
   ·rw [h,h']
  ·rcases key i with ⟨_,h⟩ | ⟨_,h,h'⟩ | ⟨_,h,h'⟩
   ·rw [h]
   ·rw [h,h'];rfl
   ·rw [h,h']
  ·rcases key i with ⟨_,h⟩ | ⟨_,h,h'⟩ | ⟨_,h,h'⟩
   ·rw [h]
   ·rw [h] at hi;exact absurd rfl hi
   ·rw [h,h']
  ·rcases key i with ⟨hl,h⟩ | ⟨hl,h,h'⟩ | ⟨hl,h,h'⟩
   ·rw [h];simp [zN,aE,hl]
   ·rw [h];simp [zN,hl,aIg]
   ·simp at hi;omega
  ·rcases key i with ⟨hl,h⟩ | ⟨hl,h,h'⟩ | ⟨hl,h,h'⟩
   ·simp;omega
   ·rw [h] at h2;exact absurd rfl h2
   ·simp at hi;omega
theorem rZ{w:World}{B:Nat}{e:TypeId}{size:Nat}{v:Value}{n:Nat}{xs:List Value}(h:w.ownsRow B e size v n xs)(hn:0<n):∃g c,v=.slice (some ⟨g,0,none⟩) n c:=by
 obtain ⟨_,⟨rfl,h2⟩ | ⟨g,cap,cur,rfl,_⟩⟩:=h
 ·omega
 ·exact ⟨g,cap,rfl⟩
theorem aS8(l:List Nd)(s:ByteArray):dP (l++[(s,0)]) l.length 0=l++[(s,0)]:=by
 unfold dP;induction l with
 | nil=>rfl
 | cons x r ih=>simpa using ih
theorem aS9{L T:List Tk}{brk:Int}(ht:TL L T brk):∀f,(∀atom st l st' l',cU T f atom st l=.ok (st',l')->st.i<T.length->st'.i<T.length)/\(∀st l n st' l' n',eI T f st l n=.ok (st',l',n')->st.i+1<T.length->st'.i<T.length):=by
 intro f;induction f with
 | zero=>exact ⟨λatom st l st' l' h=>by simp [cU] at h,λst l n st' l' n' h=>by simp [eI] at h⟩
 | succ f ih=>
  obtain ⟨ih1,ih2⟩:=ih;constructor
  ·intro atom st l st' l' h hi;rw [cU] at h;split at h
   ·rename_i hc;simp only [Except.ok.injEq,Prod.mk.injEq] at h;obtain ⟨rfl,rfl⟩:=h;exact ht.more _ hi (by rw [hc.1];decide) (by rw [hc.1];decide)
   ·split at h
    ·simp at h
    ·rename_i hc;have hc:(aE T st.i).kind=110:=by simpa using hc
     have h1:=ht.more _ hi (by rw [hc];decide) (by rw [hc];decide);split at h
     ·rename_i hp;split at h
      ·simp at h
      ·rename_i st1 l1 n1 hq;simp only [Except.ok.injEq,Prod.mk.injEq] at h;obtain ⟨rfl,rfl⟩:=h;have h2:=ht.more _ h1 (by rw [hp];decide) (by rw [hp];decide);have h3:=ih2 _ _ _ _ _ _ hq h2;exact h3
     ·simp only [Except.ok.injEq,Prod.mk.injEq] at h;obtain ⟨rfl,rfl⟩:=h;exact h1
  ·intro st l n st' l' n' h hi;rw [eI] at h;split at h
   ·simp at h
   ·rename_i st1 l1 hp;have q:=ih1 _ _ _ _ _ hp hi;split at h
    ·rename_i hk;have h2:=ht.more _ q (by rw [hk];decide) (by rw [hk];decide);exact ih2 _ _ _ _ _ _ h h2
    ·split at h
     ·rename_i hk;simp only [Except.ok.injEq,Prod.mk.injEq] at h;obtain ⟨rfl,rfl,rfl⟩:=h;exact ht.more _ q (by rw [hk];decide) (by rw [hk];decide)
     ·simp at h
section
variable {B B' pa:Nat}{w wr:World}{L T:List Tk}{vL vP vC vB vV vl:Value}{f:Nat}{atom:Bool}{st:bB}{l:List Nd}{tx:ByteArray}{tp:Nat}
end
theorem uU:(⟨#[]⟩ : ByteArray).size=0:=rfl
theorem aI2(s:ByteArray)(a b:Nat):(s.extract a b).size<=b-a:=by rw [ByteArray.size_extract];omega
theorem aSa(s:ByteArray):∀f name p n e,gA s f name p=some (n,e)->n.size+p<=name.size+e/\e<=s.size:=by
 intro f;induction f with
 | zero=>intro name p n e h;simp [gA] at h
 | succ f ih=>
  intro name p n e h;rw [gA] at h;split at h
  ·split at h
   ·split at h
    ·simp at h;obtain ⟨rfl,rfl⟩:=h;omega
    ·simp at h
   ·split at h
    ·split at h
     ·have q:=ih _ _ _ _ h;have:=aI2 s (p+1) (p+2);rw [ByteArray.size_append] at q;omega
     ·simp at h
    ·split at h
     ·simp at h
     ·have q:=ih _ _ _ _ h;have:=aI2 s p (p+bC s p);rw [ByteArray.size_append] at q;omega
  ·simp at h
theorem aSb{s:ByteArray}{k e:Nat}{t:Tk}(h:eP s k=.tok t e):t.txt.size<=s.size:=by
 unfold eP at h;split at h
 ·split at h
  ·cases h
  ·simp only [Nx.tok.injEq] at h;rw [<-h.1];simp only;rw [ByteArray.size_extract];omega
 ·split at h
  ·split at h
   ·rename_i n e' hq;simp only [Nx.tok.injEq] at h;rw [<-h.1];have q:=aSa _ _ _ _ _ _ hq;rw [uU] at q;show n.size<=s.size;omega
   ·cases h
  ·split at h
   ·split at h
    ·simp only [Nx.tok.injEq] at h;rw [<-h.1];exact Nat.zero_le _
    ·cases h
   ·split at h
    ·simp only [Nx.tok.injEq] at h;rw [<-h.1];exact Nat.zero_le _
    ·cases h
theorem aSc(s:ByteArray):∀f k,∀t∈(cQ s f k).1,t.txt.size<=s.size:=by
 intro f;induction f with
 | zero=>intro k;simp [cQ]
 | succ f ih=>
  intro k;rw [cQ];split
  ·split
   ·exact ih _
   ·split
    ·exact ih _
    ·split
     ·rename_i t e ht;intro u hu;rcases zu.1 hu with rfl | hu
      ·exact aSb ht
      ·exact ih _ u hu
     ·simp
  ·intro t ht;simp at ht;rw [ht];exact Nat.zero_le _
structure wQ(L T:List Tk):Prop where
 small:∀i,(aE T i).txt.size<=1000000
 low:∀i,i<L.length->(aE T i).kind≠63/\i<T.length
 rest:∀i,¬i<L.length->(aE T i).kind=63
theorem aC5(s:ByteArray)(hs:s.size<=1000000):wQ (cQ s (s.size+1) 0).1 (eQ (cQ s (s.size+1) 0)):=by
 obtain ⟨_,_,_,k4⟩:=aHz s (s.size+1) 0;have hsm:=aSc s (s.size+1) 0;generalize cQ s (s.size+1) 0=r at *;obtain ⟨L,b⟩:=r;simp only at k4 hsm;have key:∀i,(i<L.length/\aE (eQ (L,b)) i∈L/\i<(eQ (L,b)).length)\/(¬i<L.length/\(aE (eQ (L,b)) i).kind=63/\(aE (eQ (L,b)) i).txt=⟨#[]⟩):=by
  intro i;by_cases h:i<L.length
  ·refine Or.inl ⟨h,?_,by simp [eQ];omega⟩;have:aE (eQ (L,b)) i=L[i]:=by simp [aE,eQ,zv h,h]
   rw [this];exact zt _
  ·refine Or.inr ⟨h,?_⟩;cases b with
   | none=>
    have:aE (eQ (L,none)) i=uW:=by simp only [aE,eQ,List.append_nil];rw [zz,zx (by omega)];rfl
    rw [this];exact ⟨rfl,rfl⟩
   | some p=>
    by_cases he:i=L.length
    ·subst he;have:aE (eQ (L,some p)) L.length=⟨63,⟨#[]⟩,p⟩:=by simp [aE,eQ]
     rw [this];exact ⟨rfl,rfl⟩
    ·have:aE (eQ (L,some p)) i=uW:=by simp only [aE,eQ];rw [zz,zx (by simp;omega)];rfl
     rw [this];exact ⟨rfl,rfl⟩
 refine ⟨λi=>?_,λi hi=>?_,λi hi=>?_⟩
 ·rcases key i with ⟨_,h,_⟩ | ⟨_,_,h⟩
  ·have:=hsm _ h;omega
  ·rw [h,uU];omega
 ·rcases key i with ⟨_,h,h'⟩ | ⟨h,_⟩
  ·exact ⟨k4 _ h,h'⟩
  ·exact absurd hi h
 ·rcases key i with ⟨h,_⟩ | ⟨_,h,_⟩
  ·exact absurd h hi
  ·exact h
def dO(l:List Nd):Prop:=∀x∈l,x.1.size<=1000000
theorem wR{l:List Nd}{x:Nd}(h:dO l)(hx:x.1.size<=1000000):dO (l++[x]):=by
 intro y hy;rcases zs.1 hy with hy | hy
 ·exact h y hy
 ·simp at hy;subst hy;exact hx
theorem aSd{l:List Nd}(h:dO l)(k n:Nat):dO (dP l k n):=by
 intro y hy;unfold dP at hy;rw [List.mem_iff_getElem?] at hy;obtain ⟨j,hj⟩:=hy;rw [List.getElem?_modify] at hj;cases hq:l[j]? with
 | none=>rw [hq] at hj;simp at hj
 | some z=>
  rw [hq] at hj;have hz:=h z (List.mem_of_getElem? hq);simp at hj;subst hj;split <;> exact hz
theorem aSe{L T:List Tk}(hx:wQ L T):∀f,(∀atom st l st' l',cU T f atom st l=.ok (st',l')->dO l->dO l')/\(∀st l n st' l' n',eI T f st l n=.ok (st',l',n')->dO l->dO l'):=by
 intro f;induction f with
 | zero=>exact ⟨λatom st l st' l' h=>by simp [cU] at h,λst l n st' l' n' h=>by simp [eI] at h⟩
 | succ f ih=>
  obtain ⟨ih1,ih2⟩:=ih;constructor
  ·intro atom st l st' l' h hl;rw [cU] at h;split at h
   ·simp only [Except.ok.injEq,Prod.mk.injEq] at h;obtain ⟨rfl,rfl⟩:=h;exact wR hl (by rw [uU];omega)
   ·split at h
    ·simp at h
    ·have hl1:=wR (x:=((aE T st.i).txt,0)) hl (hx.small _);split at h
     ·split at h
      ·simp at h
      ·rename_i st1 l1 n1 hq;simp only [Except.ok.injEq,Prod.mk.injEq] at h;obtain ⟨rfl,rfl⟩:=h;exact aSd (ih2 _ _ _ _ _ _ hq hl1) _ _
     ·simp only [Except.ok.injEq,Prod.mk.injEq] at h;obtain ⟨rfl,rfl⟩:=h;exact hl1
  ·intro st l n st' l' n' h hl;rw [eI] at h;split at h
   ·simp at h
   ·rename_i st1 l1 hp;have q:=ih1 _ _ _ _ _ hp hl;split at h
    ·exact ih2 _ _ _ _ _ _ h q
    ·split at h
     ·simp only [Except.ok.injEq,Prod.mk.injEq] at h;obtain ⟨rfl,rfl,rfl⟩:=h;exact q
     ·simp at h
theorem aSf(l r:List Nd)(k n:Nat)(h:k<l.length):dP (l++r) k n=dP l k n++r:=by
 induction l generalizing k with
 | nil=>simp at h
 | cons x t ih=>
  cases k with
  | zero=>rfl
  | succ k=>
   have:=ih k (by simpa using h);unfold dP at this ⊢;simpa using this
theorem aSg(l r:List Nd)(k n:Nat):dP (l++r) (l.length+k) n=l++dP r k n:=by
 induction l with
 | nil=>simp
 | cons x t ih=>
  unfold dP at ih ⊢;simp only [zk,zl];rw [show t.length+1+k=t.length+k+1 by omega];simpa using ih
theorem uV(l:List Nd)(k n:Nat):(dP l k n).length=l.length:=by simp [dP]
theorem aSh(l:List Nd)(k n m:Nat):dP (dP l k n) k m=dP l k m:=by
 induction l generalizing k with
 | nil=>simp [dP]
 | cons x t ih=>
  cases k with
  | zero=>rfl
  | succ k=>
   have:=ih k;unfold dP at this ⊢;simpa using this
theorem aI3(T:List Tk):∀f,(∀atom st l,cU T f atom st l=match cU T f atom st [] with | .error p=>.error p | .ok (s,r)=>.ok (s,l++r))/\(∀st l n,eI T f st l n=match eI T f st [] n with | .error p=>.error p | .ok (s,r,k)=>.ok (s,l++r,k)):=by
 intro f;induction f with
 | zero=>exact ⟨λatom st l=>by simp [cU],λst l n=>by simp [eI]⟩
 | succ f ih=>
  obtain ⟨ih1,ih2⟩:=ih;constructor
  ·intro atom st l;rw [cU,cU];split
   ·simp
   ·split
    ·simp
    ·split
     ·rw [ih2 _ (l++[((aE T st.i).txt,0)]) 0,ih2 _ ([]++[((aE T st.i).txt,0)]) 0];cases eI T f ⟨st.i+1,st.vars,st.places++[((aE T st.i).txt,atom,0,((aE T st.i).pos:Int))]⟩ [] 0 with
      | error p=>rfl
      | ok r=>
       obtain ⟨s1,r1,n1⟩:=r;simp only [List.nil_append,zr];have:=aSg l ([((aE T st.i).txt,0)]++r1) 0 n1;rw [List.append_assoc,show l.length=l.length+0 from rfl,this]
     ·simp
  ·intro st l n;rw [eI,eI,ih1 false _ l];cases hq:cU T f false ⟨st.i+1,st.vars,st.places⟩ [] with
   | error p=>rfl
   | ok r=>
    obtain ⟨s1,r1⟩:=r;simp only;split
    ·rw [ih2 s1 (l++r1) (n+1),ih2 s1 r1 (n+1)];cases eI T f s1 [] (n+1) with
     | error p=>rfl
     | ok r=>simp
    ·split
     ·rfl
     ·rfl
def lW(l:List Pl):List Value:=l.map λp=>.int .i64 p.2.2.2
theorem aSi(l:List Pl)(p:Pl):lW (l++[p])=lW l++[.int .i64 p.2.2.2]:=by simp [lW]
theorem aSj(l:List Pl)(k n:Nat):lW (pE l k n)=lW l:=by
 induction l generalizing k with
 | nil=>simp [pE]
 | cons x t ih=>
  cases k with
  | zero=>rfl
  | succ k=>
   have:=ih k;unfold pE lW at this ⊢;simpa using this
theorem aSk(l:List Pl)(k n:Nat):(pE l k n).length=l.length:=by simp [pE]
def pC(w:World)(B:Nat)(p:List (Lt×Value)×Value):Prop:=w.ownsRow B 39 2 p.2 p.1.length (bA p.1)/\∀q∈p.1,w.ownsRow B 36 2 q.2 q.1.2.length (aH q.1.2)
section
variable {B:Nat}{w w':World}{vC vB:Value}{CV:List (List (Lt×Value)×Value)}{bg:List Nat}
end
section
variable {B pa:Nat}{w0 wr w':World}{L:List Tk}{vL vC vB vP vV vc:Value}{st:bB}{bad:Int}{P:List (Lt×Value)}
end
theorem aC6{w:World}{B:Nat}{v:Value}{P:List (Lt×Value)}(h:w.ownsRow B 39 2 v P.length (bA P))(ha:∀q∈P,w.ownsRow B 36 2 q.2 q.1.2.length (aH q.1.2))(hs:∀q∈P,dO q.1.2)(hc:aK (P.map Prod.fst)<=1000000)(hn:P.length<=2000000) :
  ∃a cap,v=.slice a P.length cap/\bD w a (P.map Prod.fst):=by
 obtain ⟨a,cap,rfl,hk⟩:=qH h;refine ⟨a,cap,rfl,⟨by simp;omega,λk hkl=>?_⟩⟩;have hkl':k<P.length:=by simpa using hkl
 obtain ⟨g,rfl,h1,h2⟩:=hk k hkl';have hm:P[k]∈P:=zt _;have hcm:=zF (P.map Prod.fst) P[k].1 (List.mem_map.2 ⟨_,hm,rfl⟩);obtain ⟨aa,ac,hv,hN⟩:=rH (ha _ hm) (by omega) (λj hj=>by have:=hs _ hm _ (zt hj);omega);refine ⟨g,0,aa,ac,rfl,?_,?_,?_⟩
 ·simpa using h1
 ·rw [Nat.zero_add,h2,hv];simp
 ·simpa using hN
theorem aSl:(zy.info? 22).map (λi=>(i.zero,i.size,i.bytes))=some (some (.slice none 0 0),1,24):=by kernel_rfl
theorem aSm{ops:Array Oper}{o:Oper}{a:Act}{w:World}{K:Act->World->Prop}{Q:Exit->Act->World->Prop}{E:Prop}(hgd:o.guard=none)(f:Nat)(ops':Array Operand)(ts:Array TypeId)
  (ho:o.op=.call {callee:=.value (.func f),args:=ops',argTypes:=ts}) (he:∀args w,(callFunc f args).run zy w=.ok (.enter f args) w) (vals:Array Value) (hv:ops'.toList.map a.eval=vals.toList) {R:Ending->World->Prop} (hc:Calls zy f vals w R)
  (h:∀e w',R e w'->∃v,e=.returned v/\K (a.put o.dst v) w') :
  if zw o (yielded ops a.tmps)=true then Oper.wp zy o a w K Q else E:=by
 have hw:zw o (yielded ops a.tmps)=true:=by simp [zw,hgd]
 rw [if_pos hw];have hr:(execOp a.eval o).run zy w=.ok (.enter f vals) w:=by
  have hv:ops'.map a.eval=vals:=by apply Array.ext';rw [Array.toList_map];exact hv
  subst hv;simp [execOp,ho,resolve,invoke,he,Act.eval,Deferred.ofValue]
 unfold Oper.wp;rw [hr,Oper.upon_enter];exact hc.mono λe w' hR=>by
  obtain ⟨v,rfl,hk⟩:=h e w' hR;exact hk
def jM(T:List Tk)(st:bB):bB:=⟨if (aE T st.i).kind=126 then st.i+1 else st.i,st.vars,st.places⟩
theorem aC7{T:List Tk}{g p:Nat}{st:bB}{c:List Lt}(h:cU T (T.length+1) true (jM T st) []=.error p):iH T (g+1) st c=.error p:=by unfold jM at h;rw [iH,h]
theorem aC8{T:List Tk}{g:Nat}{st s':bB}{a:List Nd}{c:List Lt}(h:cU T (T.length+1) true (jM T st) []=.ok (s',a))(hk:(aE T s'.i).kind=124):iH T (g+1) st c=iH T g ⟨s'.i+1,s'.vars,s'.places⟩ (c++[(decide ((aE T st.i).kind=126),a)]):=by unfold jM at h;rw [iH,h];simp only;rw [if_pos hk]
theorem aC9{T:List Tk}{g:Nat}{st s':bB}{a:List Nd}{c:List Lt}(h:cU T (T.length+1) true (jM T st) []=.ok (s',a))(hk:(aE T s'.i).kind≠124):iH T (g+1) st c=.ok (s',c++[(decide ((aE T st.i).kind=126),a)]):=by unfold jM at h;rw [iH,h];simp only;rw [if_neg hk]
theorem aCa(T:List Tk)(st:bB):st.i<=(jM T st).i/\(jM T st).i<=st.i+1/\(jM T st).vars=st.vars/\(jM T st).places=st.places:=by unfold jM;simp only;split <;> simp
theorem aSn{L T:List Tk}{brk:Int}(ht:TL L T brk){st:bB}(h:st.i<T.length):(jM T st).i<T.length:=by
 unfold jM;simp only;split
 ·rename_i hk;exact ht.more _ h (by rw [hk];decide) (by rw [hk];decide)
 ·exact h
section
variable {B pa:Nat}{w0 wr:World}{L T:List Tk}{brk:Int}{vL vC vB vP vV vc:Value}{s0 st:bB}{k g:Nat}{P:List (Lt×Value)}{s2:bB}{bad2:Int}{vl:Value}{l2:List Nd}
end
theorem aI4:dO []:=λx hx=>by simp at hx
theorem aSo{L T:List Tk}{brk:Int}(ht:TL L T brk)(hx:wQ L T):∀f st c st' c',iH T f st c=.ok (st',c')->st.i<T.length->(∀x∈c,dO x.2)->
  (∀x∈c',dO x.2)/\st.i<st'.i/\st'.i<T.length/\aK c'<=aK c+(st'.i-st.i)/\c'.length<=c.length+(st'.i-st.i)/\st.places.length<=st'.places.length/\st'.places.length<=st.places.length+(st'.i-st.i):=by
 intro f;induction f with
 | zero=>intro st c st' c' h;simp [iH] at h
 | succ f ih=>
  intro st c st' c' h hi hs;cases hq:cU T (T.length+1) true (jM T st) [] with
  | error p=>rw [aC7 hq] at h;simp at h
  | ok r=>
   obtain ⟨s2,l2⟩:=r;obtain ⟨q1,q2,q3,q4⟩:=aCa T st;have hon:=(uX T (T.length+1)).1 _ _ _ _ _ hq;have hin:=(aS9 ht (T.length+1)).1 _ _ _ _ _ hq (aSn ht hi);have hsh:=(aSe hx (T.length+1)).1 _ _ _ _ _ hq aI4;rw [q3,q4] at hon;simp only [zr] at hon;have hs2:∀x∈c++[(decide ((aE T st.i).kind=126),l2)],dO x.2:=by
    intro x hx;rcases zs.1 hx with hx | hx
    ·exact hs x hx
    ·simp at hx;subst hx;exact hsh
   by_cases hk:(aE T s2.i).kind=124
   ·rw [aC8 hq hk] at h;have h1:=ht.more _ hin (by rw [hk];decide) (by rw [hk];decide);have r:=ih _ _ _ _ h h1 hs2;rw [oD] at r;simp only [zn,zq] at r;refine ⟨r.1,?_⟩;obtain ⟨_,r2,r3,r4,r5,r6,r7⟩:=r;omega
   ·rw [aC9 hq hk] at h;simp only [Except.ok.injEq,Prod.mk.injEq] at h;obtain ⟨rfl,rfl⟩:=h;refine ⟨hs2,?_⟩;rw [oD];simp only [zn,zq];omega
theorem aI5{L T:List Tk}{brk:Int}(ht:TL L T brk)(hx:wQ L T){st st':bB}{c:List Lt}(h:nK T st=.ok (st',c))(hi:st.i<T.length) :
  (∀x∈c,dO x.2)/\st.i<st'.i/\st'.i<T.length/\aK c<=T.length/\c.length<=T.length/\st.places.length<=st'.places.length/\st'.places.length<=st.places.length+(st'.i-st.i):=by
 unfold nK at h;cases hq:nJ T st with
 | error p=>rw [hq] at h;simp at h
 | ok r=>
  obtain ⟨s1,c1⟩:=r;rw [hq] at h;simp only at h;split at h
  ·rename_i hk;simp only [Except.ok.injEq,Prod.mk.injEq] at h;obtain ⟨rfl,rfl⟩:=h;unfold nJ at hq;split at hq
   ·rename_i h102;have h1:=ht.more _ hi (by rw [h102];decide) (by rw [h102];decide);simp only [Except.ok.injEq,Prod.mk.injEq] at hq;obtain ⟨rfl,rfl⟩:=hq;have h2:=ht.more _ h1 (by rw [hk];decide) (by rw [hk];decide);refine ⟨λx hx=>by simp at hx,by simp;omega,h2,by simp [aK],by simp,by simp,by simp⟩
   ·obtain ⟨r1,r2,r3,r4,r5,r6,r7⟩:=aSo ht hx _ _ _ _ _ hq hi (λx hx=>by simp at hx);have h2:=ht.more _ r3 (by rw [hk];decide) (by rw [hk];decide);simp only [zr,aK,List.map_nil,List.sum_nil] at r2 r4 r5 r6 r7;refine ⟨r1,by simp only;omega,h2,?_,by omega,r6,by simp only;omega⟩;unfold aK;omega
  ·simp at h
theorem aSp(l:List Nd):∀seen,dO l->dO (cE l seen).1:=by
 have key:∀(l:List Nd) (acc:List Nd×List Int),dO l->dO acc.1->dO (l.foldl cZ acc).1:=by
  intro l;induction l with
  | nil=>intro acc _ h;exact h
  | cons x r ih=>
   intro acc hl ha;refine ih _ (λy hy=>hl y (zp _ hy)) ?_;have hxs:=hl x (zm ..);unfold cZ;split
   ·split
    ·exact wR ha (by first | exact hxs | (rw [uU];omega))
    ·exact wR ha (by first | exact hxs | (rw [uU];omega))
   ·exact wR ha hxs
 exact λseen h=>key l ([],seen) h aI4
theorem aSq(c:List Lt)(h:∀x∈c,dO x.2):∀x∈(cL c).1,dO x.2:=by
 have key:∀(c:List Lt) (acc:List Lt×List Int),(∀x∈c,dO x.2)->(∀x∈acc.1,dO x.2)->∀x∈(c.foldl eB acc).1,dO x.2:=by
  intro c;induction c with
  | nil=>intro acc _ h;exact h
  | cons y r ih=>
   intro acc hc ha;refine ih _ (λz hz=>hc z (zp _ hz)) ?_;intro x hx;unfold eB at hx;simp only at hx;rcases zs.1 hx with hx | hx
   ·exact ha x hx
   ·simp at hx;subst hx;exact aSp _ _ (hc y (zm ..))
 exact key c ([],[]) h (λx hx=>by simp at hx)
theorem aSr(c:List Lt):aK (cL c).1=aK c:=by
 have key:∀(c:List Lt) (acc:List Lt×List Int),aK (c.foldl eB acc).1=aK acc.1+aK c:=by
  intro c;induction c with
  | nil=>intro acc;simp [aK]
  | cons y r ih=>
   intro acc;rw [List.foldl_cons,ih];unfold eB;simp only;rw [oD];simp only [aK,List.map_cons,List.sum_cons];have:=(sT y.2 acc.2).1;omega
 have:=key c ([],[]);simpa [cL,aK] using this
theorem aI6(c:List Lt)(h:∀x∈c,dO x.2):(∀x∈aR c,dO x.2)/\aK (aR c)<=aK c/\(aR c).length<=c.length:=by
 obtain ⟨d1,d2,d3⟩:=qG c;refine ⟨aSq _ λx hx=>h x (d3 x hx),?_,?_⟩
 ·unfold aR;rw [aSr];exact d2
 ·unfold aR;rw [(pA _).1];exact d1
def oE(cs:List (Nat×List Lt))(i:Nat)(h:i<cs.length):Prop:=40<=i\/dL (aR cs[i].2)=false
def zJ(cs:List (Nat×List Lt))(out:List (List Lt))(at' er:Int):Prop:=
 (∃i h,oE cs i h/\(∀j hj,j<i->¬oE cs j hj)/\out=[]/\at'=cs[i].1/\er=4)\/((∀i h,¬oE cs i h)/\out=cs.map (λp=>aR p.2)/\at'=0/\er=0)
def tF(s:ByteArray)(out:List (List Lt))(at' er:Int):Prop:=
 (3000<s.size/\out=[]/\at'=0/\er=1)\/(s.size<=3000/\
  match wV s with
  | .error p=>out=[]/\at'=p/\er=2
  | .ok (st,cs)=>∃r,wT st.places r/\((0<=r/\out=[]/\at'=r/\er=3)\/(r<0/\zJ cs out at' er)))
def zK(B:Nat)(w:World)(v:Value)(CV:List (List (Lt×Value)×Value)):Prop:=
 w.ownsRow B 22 1 v CV.length (CV.map Prod.snd)/\∀p∈CV,pC w B p/\(∀q∈p.1,dO q.1.2)/\aK (p.1.map Prod.fst)<=1000000/\p.1.length<=1000000
theorem zK.nil(B:Nat)(w:World):zK B w (.slice none 0 0) []:=⟨World.ownsRow_nil _ _ _ _,λp hp=>by simp at hp⟩
structure jZ(B:Nat)(w:World)(v:Value)(QV:List (List (Lt×Value)×Value)):Prop where
 mem:zK B w v QV
 once:(QV.map λp=>p.2.ownBlock).Nodup
 atoms:(QV.flatMap λp=>p.1.filterMap λq=>q.2.ownBlock).Nodup
theorem jZ.nil(B:Nat)(w:World):jZ B w (.slice none 0 0) []:=⟨zK.nil _ _,by simp,by simp⟩
end Go.Proofs.YtcldkjcpofjmhaaGreatDoor
