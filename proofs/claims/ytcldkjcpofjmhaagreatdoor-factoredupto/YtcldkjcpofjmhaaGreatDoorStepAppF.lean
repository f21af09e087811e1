import Derived.Test.YtcldkjcpofjmhaaGreatDoorRefs1F
import Derived.Test.YtcldkjcpofjmhaaGreatDoorText0F
import Derived.Deep.RegionLaw
import Derived.Deep.RegionHeld3
import Derived.Deep.DeepCutAuto
import Derived.Test.YtcldkjcpofjmhaaGreatDoorONum0F
import Derived.StringKeys
open List renaming getD_eq_getElem?_getD→zy,length_append→zx,getElem?_eq_none→zw,take_succ_eq_append_getElem→zt,getElem?_append_left→zo,mem_cons→zn,getElem_mem→zm,take_of_length_le→zk,mem_append→zj,length_singleton→zi,mem_cons_of_mem→zh,set_cons_succ→zg,mem_cons_self→zf,cons_append→zc
open Nat renaming le_refl→zv,zero_le→zr
namespace Go.Proofs.YtcldkjcpofjmhaaGreatDoor
open Region renaming wanted→zu
open _root_.Go.Proofs.Tryz renaming prog→zz,underlying9→zs,underlying100→zq
set_option maxHeartbeats 2000000
set_option maxRecDepth 100000
variable{s:ByteArray}{brk:Int}{c:List Lt}{L T:List Tk}{k:Nat}{v:Value}{w:World}
section
open Go.RowKit
theorem nM{ops:Array Oper}{o:Oper}{a:Act}{K:Act->World->Prop}{Q:Exit->Act->World->Prop}{E:Prop}(hgd:o.guard=none)(s x:Operand)(t e:TypeId)(hop:o.op=.call {callee:=.builtin .append,args:=#[s,x],argTypes:=#[t,t]})
  (z:Value) (size bytes:Nat) (ht:zz.underlying t=some (.slice e)) (hinfo:(zz.info? e).map (λi=>(i.zero,i.size,i.bytes))=some (some z,size,bytes)) (hz1:z.cells.size=size) (hsz:0<size) (hby:bytes<=100) (base:Nat) (v:Value) (n:Nat) (xs:List Value) (hs:a.eval s=v) (hown:w.ownsRow base e size v n xs) (hn:n<=10000000) (hbase:base<=w.heap.size) (g c:Nat) (news:List Value) (hx:a.eval x=.slice (some ⟨g,0,none⟩) 1 c) (hk:news.length=1*size) (hnews:∀j u,news[j]?=some u->w.cell? ((⟨g,0,none⟩ : Addr).add j)=some u) (h1:∀u∈news,u.oneCell'=true)
  (h:∀v' w',w'.ownsRow base e size v' (n+1) (xs++news)->w.grownBy w' v.ownBlock->K (a.put o.dst v') w') :
  if zu o (yielded ops a.tmps)=true then Oper.wp zz o a w K Q else E:=by
 have hw:zu o (yielded ops a.tmps)=true:=by simp [zu,hgd]
 rw [if_pos hw];obtain ⟨i,hi,hz,hsi,hy⟩:=info_parts hinfo;have hb:(n+1)*bytes<=140737488355328:=Nat.le_trans (Nat.mul_le_mul (show n+1<=10000001 by omega) hby) (by decide);obtain ⟨v',w',hr,r1,r2,_⟩:=run_append_own (P:=zz) w base t o.type e i z size bytes ht hi hz hsi hy hz1 hsz v n xs hown ⟨g,0,none⟩ 1 c news hk hnews h1 (by unfold maxLen;omega) hb hbase;unfold Oper.wp execOp;simp only [hop,resolve,invoke,builtin,Sem.run_bind,Sem.run_pure,Result.andThen_ok,List.map_toArray,List.map_cons,List.map_nil,hs,hx,hr];exact h v' w' r1 r2
theorem aI8(w:World)(cs:Array Value)(T:TypeId)(j:Nat)(u:Value)(h:cs.toList[j]?=some u):(w.alloc (.cells cs T)).cell? ((⟨w.heap.size,0,none⟩ : Addr).add j)=some u:=by
 have h1:(w.alloc (.cells cs T)).heap[w.heap.size]?=some (.cells cs T):=by show (w.heap.push _)[w.heap.size]?=_;simp
 simp only [Array.getElem?_toList] at h;have e:(⟨w.heap.size,0,none⟩ : Addr).add j=⟨w.heap.size,j,none⟩:=by
  unfold Addr.add;by_cases hj:j=0
  ·simp [hj]
  ·simp [hj]
 rw [e];unfold World.cell?;rw [h1];exact h
def aI9(Q:Exit->Act->World->Prop):Exit->Act->World->Prop
 | .panic _,_,_=>False
 | e,a,w=>Q e a w
theorem tV{c:Code}{Q:Exit->Act->World->Prop}{a:Act}(h:c.wp zz (aI9 Q) a w):c.wp zz Q a w:=
 Code.wp_mono (λe a w h=>by cases e <;> first | exact h | exact False.elim h) h
theorem qT{Q:Exit->Act->World->Prop}{a:Act}(h:Q .normal a w):aI9 Q .normal a w:=h
theorem aT3(x:Nd)(r:List Nd):aG (x :: r)=.string x.1 :: .int .i64 x.2 :: aG r:=rfl
theorem aT4(l:List Nd):∀(k n:Nat),(aG l).set (k*2+1) (.int .i64 n)=aG (dT l k n):=by
 induction l with
 | nil=>intro k n;simp [aG,dT]
 | cons x r ih=>
  intro k n;cases k with
  | zero=>rfl
  | succ k=>
   have:=ih k n;rw [show (k+1)*2+1=k*2+1+1+1 by omega,aT3,zg,zg,this];rfl
structure TL(L T:List Tk)(brk:Int):Prop where
 kind:∀i,(aE L i).kind=(aE T i).kind
 txt:∀i,(aE L i).txt=(aE T i).txt
 pos:∀i,(aE T i).kind≠63->(aE L i).pos=(aE T i).pos
 bad:∀i,i<T.length->zV L brk i=(aE T i).pos
 more:∀i,i<T.length->(aE T i).kind≠101->(aE T i).kind≠63->i+1<T.length
 few:T.length<=1000002
theorem aIa{e:Nat}{t:Tk}(h:eV s k=.tok t e):t.kind≠101/\t.kind≠63:=by
 unfold eV at h;split at h
 ·split at h
  ·cases h
  ·simp only [Nx.tok.injEq] at h;rw [<-h.1];simp only;split <;> decide
 ·split at h
  ·split at h
   ·simp only [Nx.tok.injEq] at h;rw [<-h.1];exact ⟨by simp,by simp⟩
   ·cases h
  ·split at h
   ·split at h
    ·simp only [Nx.tok.injEq] at h;rw [<-h.1];exact ⟨by simp,by simp⟩
    ·cases h
   ·split at h
    ·rename_i hm;simp only [Nx.tok.injEq] at h;rw [<-h.1];simp only;unfold pK at hm;simp at hm;omega
    ·cases h
theorem aIb(s:ByteArray):∀f k,(∀t∈(cW s f k).1.dropLast,t.kind≠101/\t.kind≠63)/\((cW s f k).2=none->∃l t,(cW s f k).1=l++[t]/\t.kind=101)/\((cW s f k).2≠none->∀t∈(cW s f k).1,t.kind≠101/\t.kind≠63)/\(∀t∈(cW s f k).1,t.kind≠63):=by
 intro f;induction f with
 | zero=>intro k;simp [cW]
 | succ f ih=>
  intro k;rw [cW];split
  ·split
   ·exact ih _
   ·split
    ·exact ih _
    ·split
     ·rename_i t e ht;have hk:=aIa ht;obtain ⟨i1,i2,i3,i4⟩:=ih e;refine ⟨?_,?_,?_,?_⟩
      ·intro u hu;simp only at hu;cases hr:(cW s f e).1 with
       | nil=>rw [hr] at hu;simp at hu
       | cons y r=>
        rw [hr] at hu i1;rw [List.dropLast_cons_of_ne_nil (by simp)] at hu;rcases zn.1 hu with rfl | hu
        ·exact hk
        ·exact i1 u hu
      ·intro hn;obtain ⟨l,u,h1,h2⟩:=i2 hn;exact ⟨t :: l,u,by simp only [h1,zc],h2⟩
      ·intro hn u hu;rcases zn.1 hu with rfl | hu
       ·exact hk
       ·exact i3 hn u hu
      ·intro u hu;rcases zn.1 hu with rfl | hu
       ·exact hk.2
       ·exact i4 u hu
     ·simp
  ·refine ⟨by simp,λ_=>⟨[],_,rfl,rfl⟩,by simp,by simp⟩
theorem aIc(s:ByteArray):∀f k,(cW s f k).1.length<=f:=by
 intro f;induction f with
 | zero=>intro k;simp [cW]
 | succ f ih=>
  intro k;rw [cW];split
  ·split
   ·have:=ih (k+1);omega
   ·split
    ·have:=ih (gT s k);omega
    ·split
     ·rename_i t e ht;have:=ih e;simp only [List.length_cons];omega
     ·simp
  ·simp
theorem aId(s:ByteArray)(hs:s.size<=1000000):TL (cW s (s.size+1) 0).1 (eW (cW s (s.size+1) 0)) (aIy (cW s (s.size+1) 0).2):=by
 obtain ⟨_,k2,k3,_⟩:=aIb s (s.size+1) 0;have hlen:=aIc s (s.size+1) 0;generalize cW s (s.size+1) 0=r at *;obtain ⟨L,b⟩:=r;simp only at k2 k3 hlen;cases b with
 | none=>
  have hT:eW (L,none)=L:=by simp [eW]
  rw [hT];refine ⟨λ_=>rfl,λ_=>rfl,λ_ _=>rfl,λi hi=>by simp [zV,aE,hi],λi hi h1 _=>?_,by omega⟩;obtain ⟨l,t,rfl,ht⟩:=k2 rfl;by_cases he:i=l.length
  ·subst he;exact absurd (by simpa [aE] using ht) h1
  ·simp at hi ⊢;omega
 | some p=>
  have hT:eW (L,some p)=L++[⟨63,⟨#[]⟩,p⟩]:=by simp [eW]
  rw [hT];have key:∀i,(i<L.length/\aE (L++[⟨63,⟨#[]⟩,p⟩]) i=aE L i)\/(i=L.length/\aE (L++[⟨63,⟨#[]⟩,p⟩]) i=⟨63,⟨#[]⟩,p⟩/\aE L i=vK)\/(L.length<i/\aE (L++[⟨63,⟨#[]⟩,p⟩]) i=vK/\aE L i=vK):=by
   intro i;rcases Nat.lt_trichotomy i L.length with h | h | h
   ·exact Or.inl ⟨h,by simp [aE,zo h]⟩
   ·subst h;exact Or.inr (Or.inl ⟨rfl,by simp [aE],by simp [aE]⟩)
   ·refine Or.inr (Or.inr ⟨h,?_,?_⟩)
    ·unfold aE;rw [zy,zw (by simp;omega)];rfl
    ·unfold aE;rw [zy,zw (by omega)];rfl
  refine ⟨λi=>?_,λi=>?_,λi hi=>?_,λi hi=>?_,λi hi h1 h2=>?_,by simp;omega⟩
  ·rcases key i with ⟨_,h⟩ | ⟨_,h,h'⟩ | ⟨_,h,h'⟩
   ·rw [h]
   ·rw [h,h'];rfl
   ·rw [h,h']
  ·rcases key i with ⟨_,h⟩ | ⟨_,h,h'⟩ | ⟨_,h,h'⟩
   ·rw [h]
   ·rw [h,h'];rfl
   ·rw [h,h']
  ·rcases key i with ⟨_,h⟩ | ⟨_,h,h'⟩ | ⟨_,h,h'⟩
   ·rw [h]
   ·rw [h] at hi;exact absurd rfl hi
   ·rw [h,h']
  ·rcases key i with ⟨hl,h⟩ | ⟨hl,h,h'⟩ | ⟨hl,h,h'⟩
   ·rw [h];simp [zV,aE,hl]
   ·rw [h];simp [zV,hl,aIy]
   ·simp at hi;omega
  ·rcases key i with ⟨hl,h⟩ | ⟨hl,h,h'⟩ | ⟨hl,h,h'⟩
   ·simp;omega
   ·rw [h] at h2;exact absurd rfl h2
   ·simp at hi;omega
theorem sH{B:Nat}{e:TypeId}{size:Nat}{n:Nat}{xs:List Value}(h:w.ownsRow B e size v n xs)(hn:0<n):∃g c,v=.slice (some ⟨g,0,none⟩) n c:=by
 obtain ⟨_,⟨rfl,h2⟩ | ⟨g,cap,cur,rfl,_⟩⟩:=h
 ·omega
 ·exact ⟨g,cap,rfl⟩
theorem aT5(l:List Nd)(s:ByteArray):dT (l++[(s,0)]) l.length 0=l++[(s,0)]:=by
 unfold dT;induction l with
 | nil=>rfl
 | cons x r ih=>simpa using ih
theorem aT6(ht:TL L T brk):∀f,(∀atom st l st' l',cX T f atom st l=.ok (st',l')->st.i<T.length->st'.i<T.length)/\(∀st l n st' l' n',eP T f st l n=.ok (st',l',n')->st.i+1<T.length->st'.i<T.length):=by
 intro f;induction f with
 | zero=>exact ⟨λatom st l st' l' h=>by simp [cX] at h,λst l n st' l' n' h=>by simp [eP] at h⟩
 | succ f ih=>
  obtain ⟨ih1,ih2⟩:=ih;constructor
  ·intro atom st l st' l' h hi;rw [cX] at h;split at h
   ·rename_i hc;simp only [Except.ok.injEq,Prod.mk.injEq] at h;obtain ⟨rfl,rfl⟩:=h;exact ht.more _ hi (by rw [hc.1];decide) (by rw [hc.1];decide)
   ·split at h
    ·simp at h
    ·rename_i hc;have hc:(aE T st.i).kind=110:=by simpa using hc
     have h1:=ht.more _ hi (by rw [hc];decide) (by rw [hc];decide);split at h
     ·rename_i hp;split at h
      ·simp at h
      ·rename_i st1 l1 n1 hq;simp only [Except.ok.injEq,Prod.mk.injEq] at h;obtain ⟨rfl,rfl⟩:=h;have h2:=ht.more _ h1 (by rw [hp];decide) (by rw [hp];decide);have h3:=ih2 _ _ _ _ _ _ hq h2;exact h3
     ·simp only [Except.ok.injEq,Prod.mk.injEq] at h;obtain ⟨rfl,rfl⟩:=h;exact h1
  ·intro st l n st' l' n' h hi;rw [eP] at h;split at h
   ·simp at h
   ·rename_i st1 l1 hp;have q:=ih1 _ _ _ _ _ hp hi;split at h
    ·rename_i hk;have h2:=ht.more _ q (by rw [hk];decide) (by rw [hk];decide);exact ih2 _ _ _ _ _ _ h h2
    ·split at h
     ·rename_i hk;simp only [Except.ok.injEq,Prod.mk.injEq] at h;obtain ⟨rfl,rfl,rfl⟩:=h;exact ht.more _ q (by rw [hk];decide) (by rw [hk];decide)
     ·simp at h
section
variable {B B' pa:Nat}{w wr:World}{L T:List Tk}{vL vP vC vB vV vl:Value}{f:Nat}{atom:Bool}{st:bB}{l:List Nd}{tx:ByteArray}{tp:Nat}
end
theorem vI:(⟨#[]⟩ : ByteArray).size=0:=rfl
theorem aIe(s:ByteArray)(a b:Nat):(s.extract a b).size<=b-a:=by rw [ByteArray.size_extract];omega
theorem aT7(s:ByteArray):∀f name p n e,gH s f name p=some (n,e)->n.size+p<=name.size+e/\e<=s.size:=by
 intro f;induction f with
 | zero=>intro name p n e h;simp [gH] at h
 | succ f ih=>
  intro name p n e h;rw [gH] at h;split at h
  ·split at h
   ·split at h
    ·simp at h;obtain ⟨rfl,rfl⟩:=h;omega
    ·simp at h
   ·split at h
    ·split at h
     ·have q:=ih _ _ _ _ h;have:=aIe s (p+1) (p+2);rw [ByteArray.size_append] at q;omega
     ·simp at h
    ·split at h
     ·simp at h
     ·have q:=ih _ _ _ _ h;have:=aIe s p (p+bC s p);rw [ByteArray.size_append] at q;omega
  ·simp at h
theorem aT8{e:Nat}{t:Tk}(h:eV s k=.tok t e):t.txt.size<=s.size:=by
 unfold eV at h;split at h
 ·split at h
  ·cases h
  ·simp only [Nx.tok.injEq] at h;rw [<-h.1];simp only;rw [ByteArray.size_extract];omega
 ·split at h
  ·split at h
   ·rename_i n e' hq;simp only [Nx.tok.injEq] at h;rw [<-h.1];have q:=aT7 _ _ _ _ _ _ hq;rw [vI] at q;show n.size<=s.size;omega
   ·cases h
  ·split at h
   ·split at h
    ·simp only [Nx.tok.injEq] at h;rw [<-h.1];exact zr _
    ·cases h
   ·split at h
    ·simp only [Nx.tok.injEq] at h;rw [<-h.1];exact zr _
    ·cases h
theorem aT9(s:ByteArray):∀f k,∀t∈(cW s f k).1,t.txt.size<=s.size:=by
 intro f;induction f with
 | zero=>intro k;simp [cW]
 | succ f ih=>
  intro k;rw [cW];split
  ·split
   ·exact ih _
   ·split
    ·exact ih _
    ·split
     ·rename_i t e ht;intro u hu;rcases zn.1 hu with rfl | hu
      ·exact aT8 ht
      ·exact ih _ u hu
     ·simp
  ·intro t ht;simp at ht;rw [ht];exact zr _
structure wX(L T:List Tk):Prop where
 small:∀i,(aE T i).txt.size<=1000000
 low:∀i,i<L.length->(aE T i).kind≠63/\i<T.length
 rest:∀i,¬i<L.length->(aE T i).kind=63
theorem aCg(s:ByteArray)(hs:s.size<=1000000):wX (cW s (s.size+1) 0).1 (eW (cW s (s.size+1) 0)):=by
 obtain ⟨_,_,_,k4⟩:=aIb s (s.size+1) 0;have hsm:=aT9 s (s.size+1) 0;generalize cW s (s.size+1) 0=r at *;obtain ⟨L,b⟩:=r;simp only at k4 hsm;have key:∀i,(i<L.length/\aE (eW (L,b)) i∈L/\i<(eW (L,b)).length)\/(¬i<L.length/\(aE (eW (L,b)) i).kind=63/\(aE (eW (L,b)) i).txt=⟨#[]⟩):=by
  intro i;by_cases h:i<L.length
  ·refine Or.inl ⟨h,?_,by simp [eW];omega⟩;have:aE (eW (L,b)) i=L[i]:=by simp [aE,eW,zo h,h]
   rw [this];exact zm _
  ·refine Or.inr ⟨h,?_⟩;cases b with
   | none=>
    have:aE (eW (L,none)) i=vK:=by simp only [aE,eW,List.append_nil];rw [zy,zw (by omega)];rfl
    rw [this];exact ⟨rfl,rfl⟩
   | some p=>
    by_cases he:i=L.length
    ·subst he;have:aE (eW (L,some p)) L.length=⟨63,⟨#[]⟩,p⟩:=by simp [aE,eW]
     rw [this];exact ⟨rfl,rfl⟩
    ·have:aE (eW (L,some p)) i=vK:=by simp only [aE,eW];rw [zy,zw (by simp;omega)];rfl
     rw [this];exact ⟨rfl,rfl⟩
 refine ⟨λi=>?_,λi hi=>?_,λi hi=>?_⟩
 ·rcases key i with ⟨_,h,_⟩ | ⟨_,_,h⟩
  ·have:=hsm _ h;omega
  ·rw [h,vI];omega
 ·rcases key i with ⟨_,h,h'⟩ | ⟨h,_⟩
  ·exact ⟨k4 _ h,h'⟩
  ·exact absurd hi h
 ·rcases key i with ⟨h,_⟩ | ⟨_,h,_⟩
  ·exact absurd h hi
  ·exact h
def dS(l:List Nd):Prop:=∀x∈l,x.1.size<=1000000
theorem wY{l:List Nd}{x:Nd}(h:dS l)(hx:x.1.size<=1000000):dS (l++[x]):=by
 intro y hy;rcases zj.1 hy with hy | hy
 ·exact h y hy
 ·simp at hy;subst hy;exact hx
theorem aTa{l:List Nd}(h:dS l)(k n:Nat):dS (dT l k n):=by
 intro y hy;unfold dT at hy;rw [List.mem_iff_getElem?] at hy;obtain ⟨j,hj⟩:=hy;rw [List.getElem?_modify] at hj;cases hq:l[j]? with
 | none=>rw [hq] at hj;simp at hj
 | some z=>
  rw [hq] at hj;have hz:=h z (List.mem_of_getElem? hq);simp at hj;subst hj;split <;> exact hz
theorem aTb(hx:wX L T):∀f,(∀atom st l st' l',cX T f atom st l=.ok (st',l')->dS l->dS l')/\(∀st l n st' l' n',eP T f st l n=.ok (st',l',n')->dS l->dS l'):=by
 intro f;induction f with
 | zero=>exact ⟨λatom st l st' l' h=>by simp [cX] at h,λst l n st' l' n' h=>by simp [eP] at h⟩
 | succ f ih=>
  obtain ⟨ih1,ih2⟩:=ih;constructor
  ·intro atom st l st' l' h hl;rw [cX] at h;split at h
   ·simp only [Except.ok.injEq,Prod.mk.injEq] at h;obtain ⟨rfl,rfl⟩:=h;exact wY hl (by rw [vI];omega)
   ·split at h
    ·simp at h
    ·have hl1:=wY (x:=((aE T st.i).txt,0)) hl (hx.small _);split at h
     ·split at h
      ·simp at h
      ·rename_i st1 l1 n1 hq;simp only [Except.ok.injEq,Prod.mk.injEq] at h;obtain ⟨rfl,rfl⟩:=h;exact aTa (ih2 _ _ _ _ _ _ hq hl1) _ _
     ·simp only [Except.ok.injEq,Prod.mk.injEq] at h;obtain ⟨rfl,rfl⟩:=h;exact hl1
  ·intro st l n st' l' n' h hl;rw [eP] at h;split at h
   ·simp at h
   ·rename_i st1 l1 hp;have q:=ih1 _ _ _ _ _ hp hl;split at h
    ·exact ih2 _ _ _ _ _ _ h q
    ·split at h
     ·simp only [Except.ok.injEq,Prod.mk.injEq] at h;obtain ⟨rfl,rfl,rfl⟩:=h;exact q
     ·simp at h
def pH(w:World)(B:Nat)(p:List (Lt×Value)×Value):Prop:=w.ownsRow B 39 2 p.2 p.1.length (bA p.1)/\∀q∈p.1,w.ownsRow B 36 2 q.2 q.1.2.length (aG q.1.2)
section
variable {B:Nat}{w w':World}{vC vB:Value}{CV:List (List (Lt×Value)×Value)}{bg:List Nat}
end
section
variable {B pa:Nat}{w0 wr w':World}{L:List Tk}{vL vC vB vP vV vc:Value}{st:bB}{bad:Int}{P:List (Lt×Value)}
end
theorem aCh{B:Nat}{P:List (Lt×Value)}(h:w.ownsRow B 39 2 v P.length (bA P))(ha:∀q∈P,w.ownsRow B 36 2 q.2 q.1.2.length (aG q.1.2))(hs:∀q∈P,dS q.1.2)(hc:aK (P.map Prod.fst)<=1000000)(hn:P.length<=2000000) :
  ∃a cap,v=.slice a P.length cap/\bE w a (P.map Prod.fst):=by
 obtain ⟨a,cap,rfl,hk⟩:=qR h;refine ⟨a,cap,rfl,⟨by simp;omega,λk hkl=>?_⟩⟩;have hkl':k<P.length:=by simpa using hkl
 obtain ⟨g,rfl,h1,h2⟩:=hk k hkl';have hm:P[k]∈P:=zm _;have hcm:=zO (P.map Prod.fst) P[k].1 (List.mem_map.2 ⟨_,hm,rfl⟩);obtain ⟨aa,ac,hv,hN⟩:=rT (ha _ hm) (by omega) (λj hj=>by have:=hs _ hm _ (zm hj);omega);refine ⟨g,0,aa,ac,rfl,?_,?_,?_⟩
 ·simpa using h1
 ·rw [Nat.zero_add,h2,hv];simp
 ·simpa using hN
theorem aTc:(zz.info? 22).map (λi=>(i.zero,i.size,i.bytes))=some (some (.slice none 0 0),1,24):=by kernel_rfl
theorem aTd{ops:Array Oper}{o:Oper}{a:Act}{w:World}{K:Act->World->Prop}{Q:Exit->Act->World->Prop}{E:Prop}(hgd:o.guard=none)(f:Nat)(ops':Array Operand)(ts:Array TypeId)
  (ho:o.op=.call {callee:=.value (.func f),args:=ops',argTypes:=ts}) (he:∀args w,(callFunc f args).run zz w=.ok (.enter f args) w) (vals:Array Value) (hv:ops'.toList.map a.eval=vals.toList) {R:Ending->World->Prop} (hc:Calls zz f vals w R)
  (h:∀e w',R e w'->∃v,e=.returned v/\K (a.put o.dst v) w') :
  if zu o (yielded ops a.tmps)=true then Oper.wp zz o a w K Q else E:=by
 have hw:zu o (yielded ops a.tmps)=true:=by simp [zu,hgd]
 rw [if_pos hw];have hr:(execOp a.eval o).run zz w=.ok (.enter f vals) w:=by
  have hv:ops'.map a.eval=vals:=by apply Array.ext';rw [Array.toList_map];exact hv
  subst hv;simp [execOp,ho,resolve,invoke,he,Act.eval,Deferred.ofValue]
 unfold Oper.wp;rw [hr,Oper.upon_enter];exact hc.mono λe w' hR=>by
  obtain ⟨v,rfl,hk⟩:=h e w' hR;exact hk
def jS(T:List Tk)(st:bB):bB:=⟨if (aE T st.i).kind=126 then st.i+1 else st.i,st.vars,st.places⟩
theorem aCi{g p:Nat}{st:bB}(h:cX T (T.length+1) true (jS T st) []=.error p):iK T (g+1) st c=.error p:=by unfold jS at h;rw [iK,h]
theorem aCj{g:Nat}{st s':bB}{a:List Nd}(h:cX T (T.length+1) true (jS T st) []=.ok (s',a))(hk:(aE T s'.i).kind=124):iK T (g+1) st c=iK T g ⟨s'.i+1,s'.vars,s'.places⟩ (c++[(decide ((aE T st.i).kind=126),a)]):=by unfold jS at h;rw [iK,h];simp only;rw [if_pos hk]
theorem aCk{g:Nat}{st s':bB}{a:List Nd}(h:cX T (T.length+1) true (jS T st) []=.ok (s',a))(hk:(aE T s'.i).kind≠124):iK T (g+1) st c=.ok (s',c++[(decide ((aE T st.i).kind=126),a)]):=by unfold jS at h;rw [iK,h];simp only;rw [if_neg hk]
theorem aCl(T:List Tk)(st:bB):st.i<=(jS T st).i/\(jS T st).i<=st.i+1/\(jS T st).vars=st.vars/\(jS T st).places=st.places:=by unfold jS;simp only;split <;> simp
theorem aTe(ht:TL L T brk){st:bB}(h:st.i<T.length):(jS T st).i<T.length:=by
 unfold jS;simp only;split
 ·rename_i hk;exact ht.more _ h (by rw [hk];decide) (by rw [hk];decide)
 ·exact h
section
variable {B pa:Nat}{w0 wr:World}{L T:List Tk}{brk:Int}{vL vC vB vP vV vc:Value}{s0 st:bB}{k g:Nat}{P:List (Lt×Value)}{s2:bB}{bad2:Int}{vl:Value}{l2:List Nd}
end
theorem aIf:dS []:=λx hx=>by simp at hx
theorem aTf(ht:TL L T brk)(hx:wX L T):∀f st c st' c',iK T f st c=.ok (st',c')->st.i<T.length->(∀x∈c,dS x.2)->
  (∀x∈c',dS x.2)/\st.i<st'.i/\st'.i<T.length/\aK c'<=aK c+(st'.i-st.i)/\c'.length<=c.length+(st'.i-st.i)/\st.places.length<=st'.places.length/\st'.places.length<=st.places.length+(st'.i-st.i):=by
 intro f;induction f with
 | zero=>intro st c st' c' h;simp [iK] at h
 | succ f ih=>
  intro st c st' c' h hi hs;cases hq:cX T (T.length+1) true (jS T st) [] with
  | error p=>rw [aCi hq] at h;simp at h
  | ok r=>
   obtain ⟨s2,l2⟩:=r;obtain ⟨q1,q2,q3,q4⟩:=aCl T st;have hon:=(vN T (T.length+1)).1 _ _ _ _ _ hq;have hin:=(aT6 ht (T.length+1)).1 _ _ _ _ _ hq (aTe ht hi);have hsh:=(aTb hx (T.length+1)).1 _ _ _ _ _ hq aIf;rw [q3,q4] at hon;simp only [List.length_nil] at hon;have hs2:∀x∈c++[(decide ((aE T st.i).kind=126),l2)],dS x.2:=by
    intro x hx;rcases zj.1 hx with hx | hx
    ·exact hs x hx
    ·simp at hx;subst hx;exact hsh
   by_cases hk:(aE T s2.i).kind=124
   ·rw [aCj hq hk] at h;have h1:=ht.more _ hin (by rw [hk];decide) (by rw [hk];decide);have r:=ih _ _ _ _ h h1 hs2;rw [oM] at r;simp only [zx,zi] at r;refine ⟨r.1,?_⟩;obtain ⟨_,r2,r3,r4,r5,r6,r7⟩:=r;omega
   ·rw [aCk hq hk] at h;simp only [Except.ok.injEq,Prod.mk.injEq] at h;obtain ⟨rfl,rfl⟩:=h;refine ⟨hs2,?_⟩;rw [oM];simp only [zx,zi];omega
theorem aIg(ht:TL L T brk)(hx:wX L T){st st':bB}{c:List Lt}(h:nT T st=.ok (st',c))(hi:st.i<T.length) :
  (∀x∈c,dS x.2)/\st.i<st'.i/\st'.i<T.length/\aK c<=T.length/\c.length<=T.length/\st.places.length<=st'.places.length/\st'.places.length<=st.places.length+(st'.i-st.i):=by
 unfold nT at h;cases hq:nS T st with
 | error p=>rw [hq] at h;simp at h
 | ok r=>
  obtain ⟨s1,c1⟩:=r;rw [hq] at h;simp only at h;split at h
  ·rename_i hk;simp only [Except.ok.injEq,Prod.mk.injEq] at h;obtain ⟨rfl,rfl⟩:=h;unfold nS at hq;split at hq
   ·rename_i h102;have h1:=ht.more _ hi (by rw [h102];decide) (by rw [h102];decide);simp only [Except.ok.injEq,Prod.mk.injEq] at hq;obtain ⟨rfl,rfl⟩:=hq;have h2:=ht.more _ h1 (by rw [hk];decide) (by rw [hk];decide);refine ⟨λx hx=>by simp at hx,by simp;omega,h2,by simp [aK],by simp,by simp,by simp⟩
   ·obtain ⟨r1,r2,r3,r4,r5,r6,r7⟩:=aTf ht hx _ _ _ _ _ hq hi (λx hx=>by simp at hx);have h2:=ht.more _ r3 (by rw [hk];decide) (by rw [hk];decide);simp only [List.length_nil,aK,List.map_nil,List.sum_nil] at r2 r4 r5 r6 r7;refine ⟨r1,by simp only;omega,h2,?_,by omega,r6,by simp only;omega⟩;unfold aK;omega
  ·simp at h
theorem aTg(l:List Nd):∀seen,dS l->dS (cG l seen).1:=by
 have key:∀(l:List Nd) (acc:List Nd×List Int),dS l->dS acc.1->dS (l.foldl dC acc).1:=by
  intro l;induction l with
  | nil=>intro acc _ h;exact h
  | cons x r ih=>
   intro acc hl ha;refine ih _ (λy hy=>hl y (zh _ hy)) ?_;have hxs:=hl x (zf ..);unfold dC;split
   ·split
    ·exact wY ha (by first | exact hxs | (rw [vI];omega))
    ·exact wY ha (by first | exact hxs | (rw [vI];omega))
   ·exact wY ha hxs
 exact λseen h=>key l ([],seen) h aIf
theorem aTh(c:List Lt)(h:∀x∈c,dS x.2):∀x∈(cQ c).1,dS x.2:=by
 have key:∀(c:List Lt) (acc:List Lt×List Int),(∀x∈c,dS x.2)->(∀x∈acc.1,dS x.2)->∀x∈(c.foldl eE acc).1,dS x.2:=by
  intro c;induction c with
  | nil=>intro acc _ h;exact h
  | cons y r ih=>
   intro acc hc ha;refine ih _ (λz hz=>hc z (zh _ hz)) ?_;intro x hx;unfold eE at hx;simp only at hx;rcases zj.1 hx with hx | hx
   ·exact ha x hx
   ·simp at hx;subst hx;exact aTg _ _ (hc y (zf ..))
 exact key c ([],[]) h (λx hx=>by simp at hx)
theorem aTi(c:List Lt):aK (cQ c).1=aK c:=by
 have key:∀(c:List Lt) (acc:List Lt×List Int),aK (c.foldl eE acc).1=aK acc.1+aK c:=by
  intro c;induction c with
  | nil=>intro acc;simp [aK]
  | cons y r ih=>
   intro acc;rw [List.foldl_cons,ih];unfold eE;simp only;rw [oM];simp only [aK,List.map_cons,List.sum_cons];have:=(tM y.2 acc.2).1;omega
 have:=key c ([],[]);simpa [cQ,aK] using this
theorem aIh(c:List Lt)(h:∀x∈c,dS x.2):(∀x∈aR c,dS x.2)/\aK (aR c)<=aK c/\(aR c).length<=c.length:=by
 obtain ⟨d1,d2,d3⟩:=qQ c;refine ⟨aTh _ λx hx=>h x (d3 x hx),?_,?_⟩
 ·unfold aR;rw [aTi];exact d2
 ·unfold aR;rw [(pG _).1];exact d1
def oN(cs:List (Nat×List Lt))(i:Nat)(h:i<cs.length):Prop:=40<=i\/dP (aR cs[i].2)=false
def zR(cs:List (Nat×List Lt))(out:List (List Lt))(at' er:Int):Prop:=
 (∃i h,oN cs i h/\(∀j hj,j<i->¬oN cs j hj)/\out=[]/\at'=cs[i].1/\er=4)\/((∀i h,¬oN cs i h)/\out=cs.map (λp=>aR p.2)/\at'=0/\er=0)
def tW(s:ByteArray)(out:List (List Lt))(at' er:Int):Prop:=
 (3000<s.size/\out=[]/\at'=0/\er=1)\/(s.size<=3000/\
  match xE s with
  | .error p=>out=[]/\at'=p/\er=2
  | .ok (st,cs)=>∃r,xC st.places r/\((0<=r/\out=[]/\at'=r/\er=3)\/(r<0/\zR cs out at' er)))
abbrev Us:=ByteArray×Bool×Int
def mG(k:Nat)(n:Nd):List Us:=if aF n then [] else [(n.1,decide (k=0),n.2)]
def jJ(l:List Nd):Nat->List Us
 | 0=>[]
 | k+1=>jJ l k++((l[k]?).map (mG k)).getD []
def mH(c:List Lt):Nat->List Us
 | 0=>[]
 | k+1=>mH c k++((c[k]?).map λx=>jJ x.2 x.2.length).getD []
def pI(c:List Lt):List Us:=mH c c.length
theorem aIi(l:List Nd)(k:Nat)(h:k<l.length):jJ l (k+1)=jJ l k++mG k l[k]:=by simp [jJ,h]
theorem aCm(c:List Lt)(k:Nat)(h:k<c.length):mH c (k+1)=mH c k++jJ c[k].2 c[k].2.length:=by simp [mH,h]
theorem aIj(l:List Nd)(k:Nat):(jJ l k).length<=k:=by
 induction k with
 | zero=>simp [jJ]
 | succ k ih=>
  simp only [jJ,zx];have:(((l[k]?).map (mG k)).getD []).length<=1:=by
   cases l[k]? with
   | none=>simp
   | some n=>simp [mG];split <;> simp
  omega
theorem aTj(c:List Lt)(k:Nat):(mH c k).length<=aK (c.take k):=by
 induction k with
 | zero=>simp [mH]
 | succ k ih=>
  by_cases h:k<c.length
  ·rw [aCm c k h,zt h,oM,zx];have:=aIj c[k].2 c[k].2.length;omega
  ·have h1:c[k]?=none:=zw (by omega);have h2:c.take (k+1)=c.take k:=by rw [zk (by omega),zk (by omega)]
   simp only [mH,h1,h2];simpa using ih
def aIk(u:List Us):Prop:=∀i (h:i<u.length),u[i].2.2<=5/\∀k (hk:k<i),(u[k]'(by omega)).1=u[i].1->(u[k]'(by omega)).2=u[i].2
theorem aTk(n:Nat):((n:Int) == 0)=decide (n=0):=by rw [Bool.eq_iff_iff];simp
def mI(p:Pl):Us:=(p.1,p.2.1,p.2.2.1)
end
section
open Go.RowKit Go.Shelf
def gG(U:List Us):List Value:=U.flatMap λu=>[.string u.1,.bool u.2.1,.int .i64 u.2.2]
theorem aTl(U:List Us)(x:Us):gG (U++[x])=gG U++[.string x.1,.bool x.2.1,.int .i64 x.2.2]:=by simp [gG]
theorem aCn(U:List Us):∀k (h:k<U.length),(gG U)[k*3]?=some (.string U[k].1)/\(gG U)[k*3+1]?=some (.bool U[k].2.1)/\(gG U)[k*3+2]?=some (.int .i64 U[k].2.2):=by
 induction U with
 | nil=>intro k h;simp at h
 | cons x r ih=>
  intro k h;cases k with
  | zero=>simp [gG]
  | succ k=>
   have:=ih k (by simpa using h);have e1:(k+1)*3=k*3+3:=by omega
   rw [e1];simp only [gG,List.flatMap_cons,zc,List.nil_append,List.getElem_cons_succ] at this ⊢;have e2:k*3+3+1=k*3+1+3:=by omega
   have e3:k*3+3+2=k*3+2+3:=by omega
   rw [e2,e3];simp only [List.getElem?_cons_succ];exact this
structure aIl(w:World)(a:Option Addr)(U:List Us):Prop where
 few:U.length<=1000000
 short:∀k (h:k<U.length),U[k].1.size<=140737488355328
 cell:∀k (h:k<U.length),∃b,a=some ⟨b,0,none⟩/\w.cell? ⟨b,k*3,none⟩=some (.string U[k].1)/\w.cell? ⟨b,k*3+1,none⟩=some (.bool U[k].2.1)/\w.cell? ⟨b,k*3+2,none⟩=some (.int .i64 U[k].2.2)
theorem aTm{B:Nat}{U:List Us}(h:w.ownsRow B 102 3 v U.length (gG U))(hf:U.length<=1000000)(hs:∀k (h:k<U.length),U[k].1.size<=140737488355328) :
  ∃a cap,v=.slice a U.length cap/\aIl w a U:=by
 obtain ⟨h1,⟨rfl,h2⟩ | ⟨g,cap,cur,rfl,hb,hh,hc,hm,hz,ht⟩⟩:=h
 ·exact ⟨none,0,by rw [h2],hf,hs,λk hk=>by omega⟩
 ·have ho:w.ownsRow B 102 3 (.slice (some ⟨g,0,none⟩) U.length cap) U.length (gG U):=⟨h1,Or.inr ⟨g,cap,cur,rfl,hb,hh,hc,hm,hz,ht⟩⟩;refine ⟨_,_,rfl,hf,hs,λk hk=>⟨g,rfl,?_,?_,?_⟩⟩
  ·rw [ho.cellAt (k*3) (by omega),(aCn U k hk).1]
  ·rw [ho.cellAt (k*3+1) (by omega),(aCn U k hk).2.1]
  ·rw [ho.cellAt (k*3+2) (by omega),(aCn U k hk).2.2]
theorem aIm:(zz.info? 102).map (λi=>(i.zero,i.size,i.bytes))=some (some (.agg #[.string ⟨#[]⟩,.bool false,.int .i64 0]),3,32):=by kernel_rfl
theorem aTn{wm w1:World}{o v':Value}{U:List Us}{x:Us}(ho:wm.ownsRow w.heap.size 102 3 o U.length (gG U))(hb:Below w.heap.size w wm)
  (ho':w1.ownsRow w.heap.size 102 3 v' (U.length+1) (gG U++[.string x.1,.bool x.2.1,.int .i64 x.2.2])) (hg:wm.grownBy w1 o.ownBlock) :
  w1.ownsRow w.heap.size 102 3 v' (U++[x]).length (gG (U++[x]))/\Below w.heap.size w w1:=by
 refine ⟨?_,hb.grown hg hb.size λk e=>(aT ho k e).1⟩;rw [aTl,zx];exact ho'
theorem aTo(w:World)(r s x:Value)(t:TypeId)(n:Nat)(hn:n=w.heap.size):∀j u,[r,s,x][j]?=some u->(w.alloc (.cells #[r,s,x] t)).cell? ((⟨n,0,none⟩ : Addr).add j)=some u:=by
 subst hn;intro j u hj;match j,hj with
 | 0,hj=>simp at hj;subst hj;simp [Addr.add]
 | 1,hj=>simp at hj;subst hj;simp [Addr.add]
 | 2,hj=>simp at hj;subst hj;simp [Addr.add]
 | j+3,hj=>simp at hj
theorem aTp(s:ByteArray)(b:Bool)(x:Int):∀u∈[Value.string s,Value.bool b,Value.int .i64 x],u.oneCell'=true:=by intro u hu;simp at hu;rcases hu with rfl | rfl | rfl <;> rfl
theorem aTq(a:Option Addr)(cp:Nat)(c:List Lt)(w:World)(h:bE w a c)(h60:aK c<=100000) :
  Calls zz 51 #[.slice a c.length cp] w λe w'=>∃v,e=.returned v/\w'.ownsRow w.heap.size 102 3 v (pI c).length (gG (pI c))/\Below w.heap.size w w':=by
 obtain ⟨iU,hU,hU0,hU1,hU2⟩:=info_parts aIm;have hf:=h.few;have HH:=aA h;clear h;go_enter Tryz.func51,Tryz.ntmps51;go_wp2;go_loopw [3,10] (λo i wr=>∃k:Nat,k<=c.length/\i=.int .i64 k/\wr.ownsRow w.heap.size 102 3 o (mH c k).length (gG (mH c k))/\Below w.heap.size w wr) (λ_ i _=>c.length-(intOf i).toNat);case atStart=>exact ⟨0,zr _,rfl,World.ownsRow_nil _ _ _ _,Below.refl _ _⟩
 case round=>
  obtain ⟨k,hk,rfl,ho,hb⟩:=hrel;by_cases hlt:k<c.length
  ·obtain ⟨b,q,aa,acp,rfl,e1,f1,g1⟩:=HH.out.cell k hlt;have e2:=Below.at' hb (zv _) e1;have f2:=Below.at' hb (zv _) f1;have hus:=aCm c k hlt;have hul:=aTj c k;have hct:=sE c (k+1);rw [zt hlt,oM] at hct;generalize c[k]=z at *;obtain ⟨zb,zl⟩:=z;simp only at e2 f2 g1 hus hct;generalize mH c k=U0 at *;have HUS:=aA hus;have HG:=aA g1;have hzl:=g1.few;have hbs:=hb.size;clear e1 f1 g1 hus;go_wp2;go_loopw [3,17] (λo j wi=>∃n:Nat,n<=zl.length/\j=.int .i64 n/\wi.ownsRow w.heap.size 102 3 o (U0++jJ zl n).length (gG (U0++jJ zl n))/\Below w.heap.size w wi) (λ_ j _=>zl.length-(intOf j).toNat);case atStart=>exact ⟨0,zr _,rfl,by simpa [jJ] using ho.alloc _,hb.alloc hbs _⟩
   case round=>
    obtain ⟨n,hn,rfl,ho2,hb2⟩:=hrel;by_cases hnl:n<zl.length
    ·obtain ⟨b3,o3,rfl,e3,f3⟩:=HG.out.cell n hnl;have q3:=Below.at' hb2 (zv _) e3;have q4:=Below.at' hb2 (zv _) f3;have hpt:=aIi zl n hnl;have hpl:=aIj zl n;generalize zl[n]=nd at *;obtain ⟨s,x⟩:=nd;simp only at q3 q4;have CV:=aA (λwx=>qS s x wx);have hb2s:=hb2.size;have HB2:=aA hb2;clear e3 f3 hb2;cases hv:s.toList.isEmpty
     ·have hus:mG n (s,x)=[(s,((n:Int) == 0),x)]:=by simp [mG,aF,hv,aTk]
      rw [hus] at hpt;rw [hv] at CV;have HP:=aA hpt;have hlen:(U0++jJ zl n).length<=200000:=by rw [zx];omega
      have HV:Hid (U0++jJ zl (n+1)=(U0++jJ zl n)++[(s,((n:Int) == 0),x)]):=aA (by rw [hpt,List.append_assoc]);clear hpt HP;generalize U0++jJ zl n=V at *;clear hus hv;go_wp2_with (first
       | (go_at_call 83;refine (aB CV _).mono ?_;rintro e w1 ⟨rfl,hb1⟩;obtain ⟨r1,r2,r3⟩:=jR hb1;have ho1:=aU (ho2.alloc _) hb1 (zv _);have HB1:=aA (HB2.out.trans (r3.mono hb2s));have h1s:=HB1.out.size;clear hb1 r3)
       | (at_builtin;refine wpList_append_own _ rfl (.tmp 25) (.tmp 33) 84 rfl w.heap.size 102 iU (.agg #[.string ⟨#[]⟩,.bool false,.int .i64 0]) 3 32 Tryz.underlying84 hU hU0 hU1 hU2 rfl (by decide) _ _ _ rfl (ho1.alloc _) ⟨w1.heap.size,0,none⟩ 1 1 [.string s,.bool ((n:Int) == 0),.int .i64 x] rfl rfl ?c1 ?c2 ?c3 ?c4 ?c5 ?_)
       | go_in)
      case c1=>exact aTo _ _ _ _ _ _ (by simp)
      case c2=>first | exact aTp _ _ _ | exact ⟨rfl,rfl,rfl⟩
      case c3=>unfold maxLen;omega
      case c4=>omega
      case c5=>exact Nat.le_trans h1s (World.grownBy_alloc _ _ none).size
      intro v' w2 ho' hg' _;have R:=aTn (x:=(s,((n:Int) == 0),x)) (ho1.alloc _) (HB1.out.alloc h1s _) ho' hg';have HR:=aA R;clear ho' hg' ho1 R;go_wp2;go_roundw;case rel=>exact ⟨n+1,by omega,by go_num,by rw [HV.out];exact HR.out.1,HR.out.2⟩
      case measure=>simp [intOf];omega
     ·have hus:mG n (s,x)=[]:=by simp [mG,aF,hv]
      rw [hus,List.append_nil] at hpt;rw [hv] at CV;have HP:=aA hpt;have HO:=aA ho2;clear hpt hus hv ho2;go_wp2_with (first
       | (go_at_call 83;refine (aB CV _).mono ?_;rintro e w1 ⟨rfl,hb1⟩;obtain ⟨r1,r2,r3⟩:=jR hb1;have HO1:=aA (aU (HO.out.alloc _) hb1 (zv _));have HB1:=aA (HB2.out.trans (r3.mono hb2s));clear hb1 r3)
       | go_in)
      go_roundw;case rel=>exact ⟨n+1,by omega,by go_num,by rw [HP.out];exact HO1.out,HB1.out⟩
      case measure=>simp [intOf];omega
    ·have hn':n=zl.length:=by omega
     subst hn';rw [<-HUS.out] at ho2;have HO:=aA ho2;have HB2:=aA hb2;clear ho2 hb2 HUS;go_wp2;go_roundw;case rel=>exact ⟨k+1,by omega,by go_num,HO.out,HB2.out⟩
     case measure=>simp [intOf];omega
  ·have hk':k=c.length:=by omega
   subst hk';have F:=aA (And.intro ho hb);clear ho hb;go_wp2;go_ret;exact ⟨_,rfl,F.out⟩
end
section
open Go.RowKit
def zS(B:Nat)(w:World)(v:Value)(CV:List (List (Lt×Value)×Value)):Prop:=
 w.ownsRow B 22 1 v CV.length (CV.map Prod.snd)/\∀p∈CV,pH w B p/\(∀q∈p.1,dS q.1.2)/\aK (p.1.map Prod.fst)<=1000000/\p.1.length<=1000000
theorem zS.nil(B:Nat)(w:World):zS B w (.slice none 0 0) []:=⟨World.ownsRow_nil _ _ _ _,λp hp=>by simp at hp⟩
structure kD(B:Nat)(w:World)(v:Value)(QV:List (List (Lt×Value)×Value)):Prop where
 mem:zS B w v QV
 once:(QV.map λp=>p.2.ownBlock).Nodup
 atoms:(QV.flatMap λp=>p.1.filterMap λq=>q.2.ownBlock).Nodup
theorem kD.nil(B:Nat)(w:World):kD B w (.slice none 0 0) []:=⟨zS.nil _ _,by simp,by simp⟩
end
section
open Go.RowKit Go.Shelf Go.WideMaps
def wZ(v:Value):Option (DataW Unit×List MemPlace):=
 match v with
 | .agg cs=>match cs.toList with
  | [.string s,.bool b,.int .i64 n]=>some (.agg [.lit (.string s.data.toList),.lit (.bool b),.lit (.int .i64 n)],[])
  | _=>none
 | _=>none
def qU(u:Us):DataW Unit:=.agg [.lit (.string u.1.data.toList),.lit (.bool u.2.1),.lit (.int .i64 u.2.2)]
theorem aIn{u:Us}{ps:List MemPlace}(h:wZ v=some (qU u,ps)):v=.agg #[.string u.1,.bool u.2.1,.int .i64 u.2.2]:=by
 unfold wZ at h;split at h
 ·next cs=>
  split at h
  ·next s b n hcs=>
   have hcs':cs=#[.string s,.bool b,.int .i64 n]:=by have:=congrArg List.toArray hcs;simpa using this
   subst hcs';simp only [qU,Option.some.injEq,Prod.mk.injEq,DataW.agg.injEq,List.cons.injEq,DataW.lit.injEq,Lit.string.injEq,Lit.bool.injEq,Lit.int.injEq,and_true,true_and] at h;obtain ⟨⟨h1,h2,h3⟩,_⟩:=h;have:s=u.1:=by obtain ⟨⟨x⟩⟩:=s;obtain ⟨⟨⟨y⟩⟩,z⟩:=u;simp at h1;rw [h1]
   rw [this,h2,h3]
  ·simp at h
 ·simp at h
structure xA(D:DataW Unit)(U:List Us)(k:Nat):Prop where
 isMap:Maps.IsMap D
 old:∀j (h:j<U.length),j<k->Maps.has D (.string U[j].1.data.toList)=true/\∀z,D.atKey (.string U[j].1.data.toList) z=qU U[j]
 new:∀s:ByteArray,(∀j (h:j<U.length),j<k->U[j].1≠s)->Maps.has D (.string s.data.toList)=false
theorem aIo{t:ByteArray}(h:s.data.toList=t.data.toList):s=t:=by obtain ⟨⟨x⟩⟩:=s;obtain ⟨⟨y⟩⟩:=t;simp at h;rw [h]
theorem aTr(U:List Us):xA (.map []) U 0:=⟨Maps.isMap_empty,λj _ h=>by omega,λs _=>rfl⟩
theorem aTs{D:DataW Unit}{U:List Us}(h:xA D U k)(hk:k<U.length)(hsame:∀j (hj:j<U.length),j<k->U[j].1=U[k].1->U[j]=U[k]) :
  xA (D.put (.string U[k].1.data.toList) (qU U[k])) U (k+1):=by
 have hkey:WideAt.IsKeyLit (.string U[k].1.data.toList):=trivial;refine ⟨h.isMap.put _ _,λj hj hjk=>?_,λs hs=>?_⟩
 ·by_cases he:U[j].1=U[k].1
  ·have hu:U[j]=U[k]:=by
    by_cases hjk':j=k
    ·subst hjk';rfl
    ·exact hsame j hj (by omega) he
   rw [hu];exact ⟨Maps.has_put_same h.isMap hkey _,λz=>Maps.atKey_put_same h.isMap hkey _ _⟩
  ·have hne:(Lit.string U[j].1.data.toList)≠.string U[k].1.data.toList:=λe=>he (aIo (by simpa using e))
   have hjk':j<k:=by
    rcases Nat.lt_or_ge j k with h1 | h1
    ·exact h1
    ·have:j=k:=by omega
     subst this;exact absurd rfl he
   have ho:=h.old j hj hjk';exact ⟨by rw [Maps.has_put_other hne];exact ho.1,λz=>by rw [Maps.atKey_put_other hne];exact ho.2 z⟩
 ·have hne:(Lit.string s.data.toList)≠.string U[k].1.data.toList:=λe=>hs k hk (by omega) (aIo (by simpa using e)).symm
  rw [Maps.has_put_other hne];exact h.new s λj hj hjk=>hs j hj (by omega)
def sI(U:List Us)(k:Nat):Prop:=∀i (h:i<U.length),i<k->U[i].2.2<=5/\∀j (hj:j<i),(U[j]'(by omega)).1=U[i].1->(U[j]'(by omega)).2=U[i].2
theorem aTt{U:List Us}(h:sI U U.length):aIk U:=λi hi=>h i hi hi
theorem aTu:zz.stoodInHeld 102=false:=by kernel_rfl
theorem aTv:zz.eqGuardType zz.depth 102=false:=by kernel_rfl
theorem aTw:zz.underlying 102=some (.struct (zz.fieldsOf 102)):=by kernel_rfl
def vJ(x y:Us):Bool:=decide (x=y)
theorem aTx(x y:Us)(w:World):(Op.equalIn 10000 102 (.agg #[.string x.1,.bool x.2.1,.int .i64 x.2.2]) (.agg #[.string y.1,.bool y.2.1,.int .i64 y.2.2])).run zz w=.ok (vJ x y) w:=by rw [show (10000:Nat)=9999+1 from rfl,run_equalIn_agg w 9999 102 _ _ aTw aTu];simp only [Program.fieldsOf,Tryz.underlying102];go_simp;obtain ⟨s,b,n⟩:=x;obtain ⟨t,d,m⟩:=y;simp only [vJ,aB7];by_cases h1:s=t <;> by_cases h2:b=d <;> by_cases h3:n=m <;> simp [h1,h2,h3]
def sJ(U:List Us)(r:Int):Prop:=(r=-1/\aIk U)\/∃k:Nat,k<U.length/\r=k/\sI U k/\¬sI U (k+1)
theorem sJ.of{U:List Us}(h:sI U k)(hk:k<U.length)(hn:¬sI U (k+1)):sJ U k:=Or.inr ⟨k,hk,rfl,h,hn⟩
theorem aTy(a:Option Addr)(cp:Nat)(U:List Us)(w:World)(h:aIl w a U) :
  Calls zz 32 #[.slice a U.length cp] w λe w'=>∃r:Int,e=.returned (.int .i64 r)/\sJ U r/\Below w.heap.size w w':=by
 have hf:=h.few;have HH:=aA h;have hmm:=@run_makeMap zz;have gU:=aTv;clear h;go_enter Tryz.func32,Tryz.ntmps32;go_wp2;go_loopw [11] (λi wr=>∃(k:Nat) (D:DataW Unit),k<=U.length/\i=.int .i64 k/\wr.ownsMap zz 9 wZ w.heap.size k D/\xA D U k/\sI U k/\Below w.heap.size w wr) (λi _=>U.length-(intOf i).toNat);case atStart=>exact ⟨0,.map [],zr _,rfl,World.ownsMap_made _ _ _ _,aTr U,λi _ hi=>by omega,(Below.refl _ _).alloc (zv _) _⟩
 case round=>
  obtain ⟨k,D,hk,rfl,hown,hmi,hok,hb⟩:=hrel;have hbs:=hb.size;have HM:=aA hmi;have HK:=aA hok;have HB:=aA hb;by_cases hlt:k<U.length
  ·obtain ⟨b,rfl,e1,e2,e3⟩:=HH.out.cell k hlt;have q1:=Below.at' hb (zv _) e1;have q2:=Below.at' hb (zv _) e2;have q3:=Below.at' hb (zv _) e3;have hsh:=HH.out.short k hlt;have HBAD:Hid (5<U[k].2.2->sJ U k):=λh5=>sJ.of HK.out hlt λhu=>by have:=(hu k hlt (by omega)).1;omega
   have HODD:Hid (∀j (hj:j<U.length),j<k->U[j].1=U[k].1->U[j]≠U[k]->sJ U k):=λj hj hjk he hne=>sJ.of HK.out hlt λhu=>by
    have h2:=(hu k hlt (by omega)).2 j hjk he;exact hne (Prod.ext he h2)
   have HNEXT:Hid (U[k].2.2<=5->(∀j (hj:j<U.length),j<k->U[j].1=U[k].1->U[j]=U[k])->sI U (k+1)/\xA (D.put (.string U[k].1.data.toList) (qU U[k])) U (k+1)):=λh5 hs=>by
    refine ⟨λi hi hik=>?_,aTs HM.out hlt hs⟩;by_cases hik':i=k
    ·subst hik';exact ⟨h5,λj hj he=>by rw [hs j (by omega) hj he]⟩
    ·exact HK.out i hi (by omega)
   have hkey:keyOf zz 9 (.string U[k].1)=some (.string U[k].1.data.toList):=keyOf_string_mk zs (by unfold maxLen;omega);clear e1 e2 e3 hb hmi hok;by_cases h5:5<U[k].2.2
   ·have HR:=aA (HBAD.out h5);clear HBAD HODD HNEXT hkey hown;generalize U[k]=u at *;obtain ⟨s,ub,m⟩:=u;simp only at q1 q2 q3 h5;go_wp2;go_ret;exact ⟨_,rfl,HR.out,HB.out.alloc hbs _⟩
   ·have h5':U[k].2.2<=5:=by omega
    have hX:=(hown.alloc (.cells #[.string U[k].1,.bool U[k].2.1,.int .i64 U[k].2.2] 102)).look_ok (Maps.string_keyed zs) zq (Tryz.zeroValue102 _) (zd:=qU (⟨#[]⟩,false,0)) (zp:=[]) rfl hkey;obtain ⟨v,ps,hrun,hv⟩:=hX;cases hhas:Maps.has D (.string U[k].1.data.toList)
    ·rw [zH HM.out.isMap hhas] at hv;have hvv:=aIn hv;subst hvv;rw [hhas] at hrun;have HN:=aA (HNEXT.out h5' (λj hj hjk he=>by
      have:=(HM.out.old j hj hjk).1;rw [he,hhas] at this;simp at this))
     have HKEY:=aA hkey;clear HBAD HODD HNEXT hv hhas hkey;generalize hu:U[k]=u at *;obtain ⟨s,ub,m⟩:=u;simp only at q1 q2 q3 h5 h5' hsh hrun HN HKEY;clear hu;go_wp2_with (first
      | (at_mapUpdate;refine wpList_mapUpdate_own _ rfl _ _ _ 100 rfl 9 102 (Maps.string_keyed zs) zq wZ w.heap.size k D rfl ((hown.alloc _).alloc _) (by unfold maxLen;omega) _ _ (.string s.data.toList) rfl rfl (aB HKEY) (qU (s,ub,m)) [] rfl ?_)
      | go_in)
     intro w1 hown1 hgrow1;have HO1:=aA hown1;have HB1:=aA (((HB.out.alloc hbs (.cells #[.string s,.bool ub,.int .i64 m] 102)).alloc (by simp;omega) _).grown hgrow1 (by simp;omega) (λx hx=>by simp at hx;omega));clear hown1 hgrow1 hown hrun;go_wp2;go_roundw;case rel=>exact ⟨k+1,_,by omega,by go_num,HO1.out,HN.out.2,HN.out.1,HB1.out⟩
     case measure=>simp [intOf];omega
    ·obtain ⟨j,hj,hjk,hje⟩ : ∃j,∃hj:j<U.length,j<k/\U[j].1=U[k].1:=Classical.byContradiction λhno=>by
      have:=HM.out.new U[k].1 (λj hj hjk he=>hno ⟨j,hj,hjk,he⟩);rw [hhas] at this;simp at this
     have hat:=(HM.out.old j hj hjk).2 (qU (⟨#[]⟩,false,0));rw [hje] at hat;rw [hat] at hv;have hvv:=aIn hv;subst hvv;rw [hhas] at hrun;have qE:=λwx=>aTx U[j] U[k] wx
     have HKEY:=aA hkey;by_cases hsame:U[j]=U[k]
     ·have hB:vJ U[j] U[k]=true:=by simp [vJ,hsame]
      have HN:=aA (HNEXT.out h5' (λi hi hik he=>by
       by_cases hij:i=j
       ·subst hij;exact hsame
       ·have hi2:U[i].1=U[j].1:=he.trans hje.symm;have:U[i]=U[j]:=by
         rcases Nat.lt_or_ge i j with hlt' | hge
         ·exact Prod.ext hi2 ((HK.out j hj hjk).2 i hlt' hi2)
         ·exact (Prod.ext hi2.symm ((HK.out i hi hik).2 j (by omega) hi2.symm)).symm
        rw [this,hsame]))
      rw [hsame] at hrun qE hB;clear HBAD HODD HNEXT hv hhas hkey hat hsame hje;generalize hu:U[k]=u at *;obtain ⟨s,ub,m⟩:=u;simp only at q1 q2 q3 h5 h5' hsh hrun HN HKEY qE;clear hu;go_wp2_with (first
       | (at_mapUpdate;refine wpList_mapUpdate_own _ rfl _ _ _ 100 rfl 9 102 (Maps.string_keyed zs) zq wZ w.heap.size k D rfl ((hown.alloc _).alloc _) (by unfold maxLen;omega) _ _ (.string s.data.toList) rfl rfl (aB HKEY) (qU (s,ub,m)) [] rfl ?_)
       | go_in)
      intro w1 hown1 hgrow1;have HO1:=aA hown1;have HB1:=aA (((HB.out.alloc hbs (.cells #[.string s,.bool ub,.int .i64 m] 102)).alloc (by simp;omega) _).grown hgrow1 (by simp;omega) (λx hx=>by simp at hx;omega));clear hown1 hgrow1 hown hrun;go_wp2;go_roundw;case rel=>exact ⟨k+1,_,by omega,by go_num,HO1.out,HN.out.2,HN.out.1,HB1.out⟩
      case measure=>simp [intOf];omega
     ·have hB:vJ U[j] U[k]=false:=by simp [vJ,hsame]
      have HR:=aA (HODD.out j hj hjk hje hsame);clear HBAD HODD HNEXT hv hhas hkey hat hje hsame HKEY;generalize U[j]=y at *;generalize hu:U[k]=u at *;obtain ⟨s,ub,m⟩:=u;obtain ⟨s',ub',m'⟩:=y;simp only at q1 q2 q3 h5 h5' hsh hrun qE;clear hu;go_wp2;go_ret;exact ⟨_,rfl,HR.out,(HB.out.alloc hbs _).alloc (by simp;omega) _⟩
  ·have hk':k=U.length:=by omega
   subst hk';have HR:=aA (aTt HK.out);clear hmi hok hown hb;go_wp2;go_ret;exact ⟨_,rfl,Or.inl ⟨rfl,HR.out⟩,HB.out⟩
end
end Go.Proofs.YtcldkjcpofjmhaaGreatDoor
