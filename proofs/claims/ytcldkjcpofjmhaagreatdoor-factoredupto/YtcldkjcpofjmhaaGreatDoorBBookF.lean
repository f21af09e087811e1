import Derived.Test.YtcldkjcpofjmhaaGreatDoorBOwn0F
import Derived.Test.YtcldkjcpofjmhaaGreatDoorUAppF
import Derived.Test.YtcldkjcpofjmhaaGreatDoorUSame2F
import Derived.Test.YtcldkjcpofjmhaaGreatDoorGPreF
import Derived.Lib.SliceRun
open Array renaming getElem?_eq_some_iff→zs
open List renaming getElem?_eq_some_iff→zz,getElem?_eq_getElem→zy,getElem?_append_left→zw,getElem?_append_right→zv,append_assoc→zu,getElem?_map→zt,drop_eq_getElem_cons→zr,mem_append→zq,mem_filterMap→zp,mem_cons_of_mem→zo,map_congr_left→zn,map_map→zj,take_succ_eq_append_getElem→zh,getElem?_eq_none→zg,mem_flatMap→zf,length_map→ze,length_set→zd,mem_cons_self→zc,length_append→zb,replicate→za,mem_cons→z0,not_of_lt_findIdx→z4,map_append→z5,findIdx_getElem→z6,take_take→z7,findIdx_append→z8,take_set_of_le→z9,any_eq_true→yx,getElem_mem→yw,map_id→yu
open Nat renaming le_refl→zk
open Option renaming map_eq_some_iff→zm
open Or renaming inr→z3,inl→yz
open Prod renaming snd→zx,fst→yt
namespace Go.Proofs.YtcldkjcpofjmhaaGreatDoor
open Value renaming ownBlock→zl
set_option maxHeartbeats 8000000
set_option maxRecDepth 100000
variable{ks:List Nat}{L t:List Nd}{M:List Tg}{p:Nat}{v:Value}{w w':World}
section
open Go.RowKit Go.Shelf
abbrev fJ(ga:Nat):List Value:=[.bool true,.slice (some ⟨ga,0,none⟩) 1 1]
abbrev aLn(gl:Nat):List Value:=[.slice (some ⟨gl,0,none⟩) 1 1]
structure bZ where
 c:Value
 one:Value
 two:Value
 ga:Nat
 m:Int
def bZ.vals(f:bZ):List Value:=[f.c,f.one,f.two]
def bZ.held(f:bZ):List Nat:=f.ga :: f.vals.filterMap zl
structure bZ.Ok(w:World)(f:bZ):Prop where
 marks:∀v∈f.vals,eZ 39 (fJ f.ga) w v
 len:∃a n c,f.one=.slice a (n+1) c
 atom:w.heap[f.ga]?=some (.cells #[.string ⟨#[61]⟩,.int .i64 f.m] 36)
structure dB where
 c:Value
 one:Value
 two:Value
 gl:Nat
 ga:Nat
 m:Int
def dB.vals(f:dB):List Value:=[f.c,f.one,f.two]
def dB.held(f:dB):List Nat:=f.gl :: f.ga :: f.vals.filterMap zl
structure dB.Ok(w:World)(f:dB):Prop where
 marks:∀v∈f.vals,eZ 22 (aLn f.gl) w v
 len:∃a n c,f.one=.slice a (n+1) c
 lit:w.heap[f.gl]?=some (.cells (fJ f.ga).toArray 39)
 atom:w.heap[f.ga]?=some (.cells #[.string ⟨#[61]⟩,.int .i64 f.m] 36)
structure dM(w:World)(B bk:Nat)(nv mv xv yv:Value)(E:List (Value×Int))(F:List bZ)(G:List dB)(next:Int):Prop where
 base:dU w B bk (xv,yv) nv mv E next
 rx:w.ownsRow B 22 1 xv (F.length*3) (F.flatMap bZ.vals)
 ry:w.ownsRow B 26 1 yv (G.length*3) (G.flatMap dB.vals)
 fs:∀f∈F,f.Ok w
 gs:∀g∈G,g.Ok w
 fewF:F.length<=1000000000
 fewG:G.length<=1000000000
 xap:∀k∈G.flatMap dB.held,xv.ownBlock≠some k
def held(E:List (Value×Int))(F:List bZ)(G:List dB):List Nat:=E.filterMap (λx=>x.1.ownBlock)++(F.flatMap bZ.held++G.flatMap dB.held)
theorem rM{B:Nat}{e:TypeId}{size:Nat}{n:Nat}{xs:List Value}(h:w.ownsRow B e size v n xs)(hs:∀k,v.ownBlock=some k->w'.heap[k]?=w.heap[k]?):w'.ownsRow B e size v n xs:=by
 obtain ⟨h1,⟨rfl,h2⟩ | ⟨g,cap,cur,rfl,hb,hh,hr⟩⟩:=h
 ·exact ⟨h1,yz ⟨rfl,h2⟩⟩
 ·exact ⟨h1,z3 ⟨g,cap,cur,rfl,hb,by rw [hs g rfl,hh],hr⟩⟩
theorem eZ.same{e:TypeId}{el:List Value}(h:eZ e el w v)(hs:∀k,v.ownBlock=some k->w'.heap[k]?=w.heap[k]?):eZ e el w' v:=by
 rcases h with h | ⟨g,n,c,cur,rfl,hh,hk⟩
 ·exact yz h
 ·exact z3 ⟨g,n,c,cur,rfl,by rw [hs g rfl,hh],hk⟩
theorem dV.same{m:Int}(h:dV w v m)(hs:∀k,v.ownBlock=some k->w'.heap[k]?=w.heap[k]?):dV w' v m:=by
 rcases h with h | ⟨g,n,c,cur,rfl,hh,hk⟩
 ·exact yz h
 ·exact z3 ⟨g,n,c,cur,rfl,by rw [hs g rfl,hh],hk⟩
theorem bZ.Ok.same{f:bZ}(h:f.Ok w)(hs:∀k∈f.held,w'.heap[k]?=w.heap[k]?):f.Ok w':=
 ⟨λv hv=>(h.marks v hv).same λk hk=>hs k (zo _ (zp.2 ⟨v,hv,hk⟩)),h.len,by rw [hs _ (zc ..),h.atom]⟩
theorem dB.Ok.same{f:dB}(h:f.Ok w)(hs:∀k∈f.held,w'.heap[k]?=w.heap[k]?):f.Ok w':=
 ⟨λv hv=>(h.marks v hv).same λk hk=>hs k (zo _ (zo _ (zp.2 ⟨v,hv,hk⟩))),h.len,by rw [hs _ (zc ..),h.lit],by rw [hs _ (zo _ (zc ..)),h.atom]⟩
section
variable {w w':World}{B bk:Nat}{nv mv xv yv:Value}{E:List (Value×Int)}{F:List bZ}{G:List dB}{next:Int}
theorem dM.heldLt(h:dM w B bk nv mv xv yv E F G next):∀k∈held E F G,k<w.heap.size:=by
 have key:∀(e:TypeId) (el:List Value) (v:Value) (k:Nat),eZ e el w v->v.ownBlock=some k->k<w.heap.size:=by
  intro e el v k hm hk;rcases hm with rfl | ⟨g,n,c,cur,rfl,hh,_⟩
  ·simp [zl] at hk
  ·simp [zl] at hk;subst hk;exact (zs.1 hh).1
 intro k hk;rcases zq.1 hk with hk | hk
 ·obtain ⟨x,hx,hxk⟩:=zp.1 hk;rcases h.base.mks x hx with e | ⟨g,n,c,cur,e,hh,_⟩
  ·rw [e] at hxk;simp [zl] at hxk
  ·rw [e] at hxk;simp [zl] at hxk;subst hxk;exact (zs.1 hh).1
 ·rcases zq.1 hk with hk | hk
  ·obtain ⟨f,hf,hk⟩:=zf.1 hk;rcases z0.1 hk with rfl | hk
   ·exact (zs.1 (h.fs f hf).atom).1
   ·obtain ⟨v,hv,hvk⟩:=zp.1 hk;exact key _ _ v k ((h.fs f hf).marks v hv) hvk
  ·obtain ⟨f,hf,hk⟩:=zf.1 hk;rcases z0.1 hk with rfl | hk
   ·exact (zs.1 (h.gs f hf).lit).1
   ·rcases z0.1 hk with rfl | hk
    ·exact (zs.1 (h.gs f hf).atom).1
    ·obtain ⟨v,hv,hvk⟩:=zp.1 hk;exact key _ _ v k ((h.gs f hf).marks v hv) hvk
theorem dM.same(h:dM w B bk nv mv xv yv E F G next)(hb:w'.heap[bk]?=w.heap[bk]?)(h1:∀v∈[nv,mv,xv,yv],∀k,v.ownBlock=some k->w'.heap[k]?=w.heap[k]?)(hs:∀k∈held E F G,w'.heap[k]?=w.heap[k]?):dM w' B bk nv mv xv yv E F G next:=
 ⟨⟨by rw [hb,h.base.box],h.base.high,rM h.base.rn (h1 nv (by simp)),rM h.base.rm (h1 mv (by simp)),λx hx=>(h.base.mks x hx).same λk hk=>hs k (zq.2 (yz (zp.2 ⟨x,hx,hk⟩))),h.base.few,h.base.lo,h.base.hi⟩,
  rM h.rx (h1 xv (by simp)),rM h.ry (h1 yv (by simp)),
  λf hf=>(h.fs f hf).same λk hk=>hs k (zq.2 (z3 (zq.2 (yz (zf.2 ⟨f,hf,hk⟩))))),
  λf hf=>(h.gs f hf).same λk hk=>hs k (zq.2 (z3 (zq.2 (z3 (zf.2 ⟨f,hf,hk⟩))))),h.fewF,h.fewG,h.xap⟩
theorem dM.below(h:dM w B bk nv mv xv yv E F G next)(hb:Below w.heap.size w w'):dM w' B bk nv mv xv yv E F G next:=by
 refine h.same (hb.block bk h.base.lt) (λv hv k hk=>hb.block k ?_) (λk hk=>hb.block k (h.heldLt k hk));simp at hv;rcases hv with rfl | rfl | rfl | rfl
 ·exact (aT h.base.rn k hk).2
 ·exact (aT h.base.rm k hk).2
 ·exact (aT h.rx k hk).2
 ·exact (aT h.ry k hk).2
end
end
section
open Go.RowKit Go.Shelf Go.WideMaps
def aY(M:List Tg)(p:Nat):Nat:=match M[p]? with | some t=>if aF t.2 then M.findIdx (fF t.1 t.2.2) else p | none=>p
theorem oZ(h:M.length<=p):aY M p=p:=by unfold aY;rw [zg h]
theorem mX{t:Tg}(h:M[p]?=some t)(hv:aF t.2=false):aY M p=p:=by unfold aY;rw [h];simp [hv]
theorem mY{t:Tg}(h:M[p]?=some t)(hv:aF t.2=true):aY M p=M.findIdx (fF t.1 t.2.2)/\aY M p<=p/\∃s,M[aY M p]?=some s/\aF s.2=true/\s.1=t.1/\s.2.2=t.2.2:=by
 have hl:=(zz.1 h).1;have he:M[p]=t:=(zz.1 h).2;have hp:fF t.1 t.2.2 t=true:=by simp [fF,hv]
 have e:aY M p=M.findIdx (fF t.1 t.2.2):=by unfold aY;rw [h];simp [hv]
 have hle:M.findIdx (fF t.1 t.2.2)<=p:=by apply Nat.le_of_not_lt;intro hlt;have:=z4 hlt;rw [he,hp] at this;cases this
 have hlt:M.findIdx (fF t.1 t.2.2)<M.length:=by omega
 refine ⟨e,by omega,M[M.findIdx (fF t.1 t.2.2)],by rw [e];exact zy hlt,?_⟩;have:=z6 (w:=hlt);simpa [fF] using this
def wF(M:List Tg)(p q:Nat):Prop:=p=q\/∃s t,M[p]?=some s/\M[q]?=some t/\aF s.2=true/\aF t.2=true/\s.1=t.1/\s.2.2=t.2.2
theorem rN(M:List Tg)(p q:Nat):aY M p=aY M q↔wF M p q:=by
 constructor
 ·intro e;by_cases hp:∃s,M[p]?=some s/\aF s.2=true
  ·obtain ⟨s,hs,vs⟩:=hp;obtain ⟨e1,e2,s',e3,e4,e5,e6⟩:=mY hs vs;by_cases hq:∃t,M[q]?=some t/\aF t.2=true
   ·obtain ⟨t,ht,vt⟩:=hq;obtain ⟨d1,d2,t',d3,d4,d5,d6⟩:=mY ht vt;rw [e,d3] at e3;simp at e3;subst e3;exact z3 ⟨s,t,hs,ht,vs,vt,by rw [<-e5,d5],by rw [<-e6,d6]⟩
   ·exfalso;have hrq:aY M q=q:=by
     cases hm:M[q]? with
     | none=>exact oZ (by simpa using hm)
     | some t=>
      refine mX hm ?_;cases hv:aF t.2
      ·rfl
      ·exact absurd ⟨t,hm,hv⟩ hq
    rw [e,hrq] at e3;exact hq ⟨s',e3,e4⟩
  ·have hrp:aY M p=p:=by
    cases hm:M[p]? with
    | none=>exact oZ (by simpa using hm)
    | some t=>
     refine mX hm ?_;cases hv:aF t.2
     ·rfl
     ·exact absurd ⟨t,hm,hv⟩ hp
   by_cases hq:∃t,M[q]?=some t/\aF t.2=true
   ·obtain ⟨t,ht,vt⟩:=hq;obtain ⟨d1,d2,t',d3,d4,d5,d6⟩:=mY ht vt;rw [<-e,hrp] at d3;exact absurd ⟨t',d3,d4⟩ hp
   ·have hrq:aY M q=q:=by
     cases hm:M[q]? with
     | none=>exact oZ (by simpa using hm)
     | some t=>
      refine mX hm ?_;cases hv:aF t.2
      ·rfl
      ·exact absurd ⟨t,hm,hv⟩ hq
    rw [hrp,hrq] at e;exact yz e
 ·rintro (rfl | ⟨s,t,h1,h2,h3,h4,h5,h6⟩)
  ·rfl
  ·rw [(mY h1 h3).1,(mY h2 h4).1,h5,h6]
def pZ(M:List Tg):List Nat:=(List.range M.length).map λp=>aY M p
theorem lB(M:List Tg):(pZ M).length=M.length:=by simp [pZ]
theorem sZ(h:p<M.length):(pZ M)[p]?=some (aY M p):=by simp [pZ,h]
theorem yE{N:List Tg}(h:p<M.length):aY (M++N) p=aY M p:=by
 have hm:M[p]?=some M[p]:=zy h;have hmn:(M++N)[p]?=some M[p]:=by rw [zw h,hm]
 cases hv:aF M[p].2
 ·rw [mX hm hv,mX hmn hv]
 ·obtain ⟨e1,e2,s,e3,e4,e5,e6⟩:=mY hm hv;rw [(mY hmn hv).1,e1,z8,if_pos (by omega)]
theorem aLo(h:p<M.length):mO (M.take p) M[p].1 M[p].2=aY M p:=by
 have hm:M[p]?=some M[p]:=zy h;have hl:(M.take p).length=p:=by simp;omega
 unfold mO;rw [hl];cases hv:aF M[p].2
 ·rw [mX hm hv];rfl
 ·obtain ⟨e1,e2,_⟩:=mY hm hv;rw [if_pos rfl,e1];have hsplit:M=M.take p++M.drop p:=(List.take_append_drop p M).symm;have hf:M.findIdx (fF M[p].1 M[p].2.2)=if (M.take p).findIdx (fF M[p].1 M[p].2.2)<(M.take p).length then (M.take p).findIdx (fF M[p].1 M[p].2.2) else (M.drop p).findIdx (fF M[p].1 M[p].2.2)+(M.take p).length:=by
   generalize fF M[p].1 M[p].2.2=f;conv=>lhs;rw [hsplit]
   rw [z8]
  unfold jA;rw [hf,hl];split
  ·rename_i hlt;rw [List.findIdx?_eq_some_iff_findIdx_eq.2 ⟨by rw [hl];exact hlt,rfl⟩];rfl
  ·rename_i hlt;rw [List.findIdx?_eq_none_iff_findIdx_eq.2 (by have:=List.findIdx_le_length (xs:=M.take p) (p:=fF M[p].1 M[p].2.2);omega)];rw [zr h,List.findIdx_cons];have:fF M[p].1 M[p].2.2 M[p]=true:=by simp [fF,hv]
   simp [this]
theorem aEc(M:List Tg)(o:Int)(t:List Nd):pZ (M++t.map λn=>(o,n))=pZ M++iA M o t t.length:=by
 apply List.ext_getElem?;intro p;by_cases hp:p<M.length
 ·rw [sZ (by simp;omega),zw (by rw [lB];exact hp),sZ hp,yE hp]
 ·rw [zv (by rw [lB];omega),lB];by_cases hq:p-M.length<t.length
  ·have hpl:p<(M++t.map λn=>(o,n)).length:=by simp;omega
   rw [sZ hpl,<-aLo hpl];have he:(M++t.map λn=>(o,n))[p]=(o,t[p-M.length]):=by rw [List.getElem_append_right (by omega)];simp
   rw [he];have htk:(M++t.map λn=>(o,n)).take p=M++(t.take (p-M.length)).map λn=>(o,n):=by rw [List.take_append,List.take_of_length_le (by omega),List.map_take]
   rw [htk];simp [iA,hq]
  ·rw [zg (by rw [lB];simp;omega),zg (by rw [aJ1];omega)]
theorem aAx(M:List Tg):gB (pZ M) (aY M) (λp=>if aY M p=p then 0 else 1):=by
 refine ⟨λp q h=>?_,λp h=>?_,λp q h hne=>?_,λp h=>oZ (by rw [lB] at h;exact h)⟩
 ·have hp:=(zz.1 h).1;rw [lB] at hp ⊢;rw [sZ hp] at h;simp at h;subst h;have hm:M[p]?=some M[p]:=zy hp;cases hv:aF M[p].2
  ·rw [mX hm hv];exact hp
  ·have:=(mY hm hv).2.1;omega
 ·have hp:=(zz.1 h).1;rw [lB] at hp;rw [sZ hp] at h;simpa using h
 ·have hp:=(zz.1 h).1;rw [lB] at hp;rw [sZ hp] at h;simp at h;subst h;have hm:M[p]?=some M[p]:=zy hp;cases hv:aF M[p].2
  ·rw [mX hm hv] at hne;exact absurd rfl hne
  ·obtain ⟨e1,e2,s,e3,e4,e5,e6⟩:=mY hm hv;have hs:aY M p=aY M (aY M p):=by
    rw [(mY e3 e4).1,e1,e5,e6]
   refine ⟨hs,?_⟩;rw [if_pos hs.symm,if_neg (λe=>hne e)];exact Nat.zero_lt_one
theorem aLp(M:List Tg):dR (aC (M.map zx)) (λi j=>aY M i=aY M j) λ_ _=>False:=by
 intro x y e hx hy;rcases (rN M x y).1 e with rfl | ⟨s,t,h1,h2,h3,h4,_⟩
 ·refine ⟨rfl,λk p q hp hq=>?_⟩;rw [hp] at hq;simp at hq;subst hq;exact dZ.refl _
 ·obtain ⟨n,h5,h6⟩:=jN hx;rw [zt,h1] at h5;simp at h5;subst h5;rw [h3] at h6;cases h6
theorem aLq(M:List Tg):jT (M.map zx) (aY M):=by intro p hp;obtain ⟨n,h5,h6⟩:=jN hp;rw [zt] at h5;obtain ⟨t,h7,h8⟩:=zm.1 h5;subst h8;rw [mX h7 h6];exact hp
theorem aLr:∀{q:Nat},aW t q=true->∀n∈t,aF n=true->0<=n.2/\n.2<60:=by
 induction t with
 | nil=>intro q _ n hn;simp at hn
 | cons m r ih=>
  intro q h n hn hv;cases q with
  | zero=>simp [aW] at h
  | succ q=>
   rw [uY] at h;simp only [Bool.and_eq_true] at h;rcases z0.1 hn with rfl | hn
   ·have h1:=h.1;unfold eA at h1;rw [if_pos hv] at h1;simpa using h1
   ·exact ih h.2 n hn hv
structure Rows(M:List Tg)(R:List Rw)(g:Nat->Nat):Prop where
 whole:dE (M.map zx)
 var:∀(p:Nat) (t:Tg),M[p]?=some t->aF t.2=true->∃r,R[g p]?=some r/\r.node=(t.2.1,t.2.2+60*t.1)
 name:∀(p:Nat) (t:Tg),M[p]?=some t->aF t.2=false->R[g p]?=some ⟨t.2,g p,((aC (M.map zx)).ch p).map g⟩
 inj:∀(p q:Nat) (s t:Tg),M[p]?=some s->M[q]?=some t->aF s.2=false->aF t.2=false->g p=g q->p=q
 onto:∀r,r<R.length->∃p,p<M.length/\g p=r
 fresh:∀(r:Nat) (x:Rw),R[r]?=some x->x.cls=r/\(aF x.node=true->x.parts=[])
 once:mZ R
 num:∀(p:Nat) (t:Tg),M[p]?=some t->aF t.2=true->0<=t.2.2/\t.2.2<60
theorem Rows.start:Rows [] [] id:=⟨λi n h=>by simp at h,λp t h=>by simp at h,λp t h=>by simp at h,λp q s t h=>by simp at h,λr h=>by simp at h,λr x h=>by simp at h,λi j ri rj h=>by simp at h,λp t h=>by simp at h⟩
theorem lP(hW:dE L){p:Nat}(h:p<L.length):(aC (L++t)).ch p=(aC L).ch p:=by
 have h1:L[p]?=some L[p]:=zy h;have h2:(L++t)[p]?=some L[p]:=by rw [zw h,h1]
 rw [fM h1,fM h2,List.drop_append_of_le_length (by omega),aMd _ _ _ _ (hW p _ h1)]
theorem wG(h:p<t.length):(aC (L++t)).ch (L.length+p)=((aC t).ch p).map (· + L.length):=by
 have h1:t[p]?=some t[p]:=zy h;have h2:(L++t)[L.length+p]?=some t[p]:=by rw [zv (by omega)];simp [h]
 rw [fM h1,fM h2,<-yG];congr 1
 ·rw [List.drop_append,List.drop_eq_nil_of_le (by omega),List.nil_append];congr 1;omega
 ·omega
theorem Rows.put{R:List Rw}{g:Nat->Nat}(h:Rows M R g){o:Int}{t:List Nd}(ht:aW t 1=true){R':List Rw}{ps:List Nat}{s':List Nd}{g2:Nat->Nat}(hp:jC (60*o) R 1 t R' ps s' g2) :
  Rows (M++t.map λn=>(o,n)) R' (qA M.length g g2):=by
 have he:aH t 1=t.length:=by have:=zI t 1 [] ht;simpa using this
 have hl:(M.map zx).length=M.length:=by simp
 have hLs:(M++t.map λn=>(o,n)).map zx=M.map zx++t:=by rw [z5,zj];congr 1;exact yu _
 have hlo:∀(p:Nat) (x:Tg),p<M.length->(M++t.map λn=>(o,n))[p]?=some x->M[p]?=some x:=λp x hlt hx=>by rwa [zw hlt] at hx
 have hhi:∀(p:Nat) (x:Tg),¬p<M.length->(M++t.map λn=>(o,n))[p]?=some x->∃n,t[p-M.length]?=some n/\x=(o,n)/\p-M.length<t.length:=λp x hlt hx=>by
  rw [zv (by omega),zt] at hx;obtain ⟨n,h1,h2⟩:=zm.1 hx;exact ⟨n,h1,h2.symm,(zz.1 h1).1⟩
 have hgl:∀(p:Nat) (x:Tg),M[p]?=some x->g p<R.length:=by
  intro p x hx;cases hv:aF x.2
  ·exact (zz.1 (h.name p x hx hv)).1
  ·obtain ⟨r,h1,_⟩:=h.var p x hx hv;exact (zz.1 h1).1
 have hgR:∀p,¬p<M.length->qA M.length g g2 p=g2 (p-M.length):=λp hp=>if_neg hp
 refine ⟨?_,?_,?_,?_,?_,?_,hp.once h.once,?_⟩
 ·rw [hLs];exact h.whole.append (qZ ht)
 ·intro p x hx hv;by_cases hlt:p<M.length
  ·have hx':=hlo p x hlt hx;obtain ⟨r,h1,h2⟩:=h.var p x hx' hv;exact ⟨r,by rw [jY hlt,hp.ext _ (hgl p x hx'),h1],h2⟩
  ·obtain ⟨n,h1,rfl,h3⟩:=hhi p x hlt hx;rw [hgR p hlt];exact hp.var _ n (by omega) h1 hv
 ·intro p x hx hv;rw [hLs];by_cases hlt:p<M.length
  ·have hx':=hlo p x hlt hx;rw [jY hlt,hp.ext _ (hgl p x hx'),h.name p x hx' hv,lP h.whole (by omega)];congr 2
   rw [aB3];intro q hq;have hn:(M.map zx)[p]?=some x.2:=by rw [zt,hx'];rfl
   rw [fM hn] at hq;have h1:=(oC _ _ _ (h.whole p _ hn) q hq).2;have h2:=h.whole.one (p:=p) (by omega);have h3:aH ((M.map zx).drop p) 1<=((M.map zx).drop p).length:=mD _ _;rw [zr (by omega)] at h3;have h4:(M.map zx)[p]=x.2:=(zz.1 hn).2;rw [h4] at h3;simp [aH] at h3;omega
  ·obtain ⟨n,h1,rfl,h3⟩:=hhi p x hlt hx;rw [hgR p hlt,(hp.name _ n (by omega) h1 hv).1];congr 2
   have hpe:p=(M.map zx).length+(p-M.length):=by omega
   have hch:=wG (L:=M.map zx) (t:=t) (p:=p-M.length) h3;rw [<-hpe] at hch;rw [hch,hl,aB4,fM h1]
 ·intro p q x y hx hy vx vy e;by_cases h1:p<M.length <;> by_cases h2:q<M.length
  ·rw [jY h1,jY h2] at e;exact h.inj p q x y (hlo p x h1 hx) (hlo q y h2 hy) vx vy e
  ·obtain ⟨n,h3,rfl,h4⟩:=hhi q y h2 hy;rw [jY h1,hgR q h2] at e;have a:=hgl p x (hlo p x h1 hx);have b:=(hp.name _ n (by omega) h3 vy).2;omega
  ·obtain ⟨n,h3,rfl,h4⟩:=hhi p x h1 hx;rw [jY h2,hgR p h1] at e;have a:=hgl q y (hlo q y h2 hy);have b:=(hp.name _ n (by omega) h3 vx).2;omega
  ·obtain ⟨n,h3,rfl,h4⟩:=hhi p x h1 hx;obtain ⟨m,h5,rfl,h6⟩:=hhi q y h2 hy;rw [hgR p h1,hgR q h2] at e;have:=hp.inj _ _ n m (by omega) (by omega) h3 h5 vx vy e;omega
 ·intro r hr;by_cases hlt:r<R.length
  ·obtain ⟨p,h1,h2⟩:=h.onto r hlt;exact ⟨p,by simp;omega,by rw [jY h1];exact h2⟩
  ·obtain ⟨i,h1,h2⟩:=hp.onto r (by omega) hr;exact ⟨i+M.length,by simp;omega,by rw [yH];exact h2⟩
 ·intro r x hx;by_cases hlt:r<R.length
  ·rw [hp.ext r hlt] at hx;exact h.fresh r x hx
  ·exact hp.fresh r x (by omega) hx
 ·intro p x hx hv;by_cases hlt:p<M.length
  ·exact h.num p x (hlo p x hlt hx) hv
  ·obtain ⟨n,h1,rfl,h3⟩:=hhi p x hlt hx;exact aLr ht n (List.mem_of_getElem? h1) hv
def lQ(M:List Tg)(R:List Rw)(g:Nat->Nat)(p:Nat):Nat:=if p<M.length then g p else R.length+(p-M.length)
section
variable {M:List Tg}{R:List Rw}{g:Nat->Nat}{T:Tb}
theorem aAy(hT:T.map yt=R){r:Nat}{x:Rw}(h:R[r]?=some x):(aV T).lab r=x.node/\(aV T).ch r=x.parts:=by subst hT;rw [zt] at h;obtain ⟨y,h1,rfl⟩:=zm.1 h;have hl:=(zz.1 h1).1;have he:=(zz.1 h1).2;exact ⟨by rw [mF T r hl,he],by rw [pF T r hl,he]⟩
theorem aLs(hT:T.map yt=R)(hf:∀(r:Nat) (x:Rw),R[r]?=some x->x.cls=r/\(aF x.node=true->x.parts=[])){i j:Nat}(h:aZ T i j):i=j:=by
 rcases h with h | ⟨hi,hj,e⟩
 ·exact h
 ·subst hT;have a:=(hf i T[i].1 (by rw [zt,zy hi];rfl)).1;have b:=(hf j T[j].1 (by rw [zt,zy hj];rfl)).1;omega
theorem Rows.at(h:Rows M R g){p:Nat}{t:Tg}(hp:M[p]?=some t):∃x,R[g p]?=some x/\aF x.node=aF t.2:=by
 cases hv:aF t.2
 ·exact ⟨_,h.name p t hp hv,hv⟩
 ·obtain ⟨r,h1,h2⟩:=h.var p t hp hv;refine ⟨r,h1,?_⟩;rw [h2];exact hv
theorem Rows.lt(h:Rows M R g){p:Nat}(hp:p<M.length):g p<R.length:=by obtain ⟨x,h1,_⟩:=h.at (zy hp);exact (zz.1 h1).1
theorem aEd{n:Nd}(h:aF n=true):n.1=⟨#[]⟩:=by
 have h1:n.1.toList=[]:=by simpa [aF] using h
 rw [ByteArray.toList_eq] at h1;obtain ⟨⟨d⟩,x⟩:=n;simp at h1;simp [h1]
theorem Rows.laid(h:Rows M R g)(hT:T.map yt=R){a b:Nat}(ha:a<M.length)(hb:b<M.length) :
  Laid (aC (M.map zx)) (aV T) (λi j=>aY M i=aY M j\/(i=a/\j=b)) (iO T (g a) (g b)) (lQ M R g):=by
 have hTl:T.length=R.length:=by rw [<-hT];simp
 have hfl:∀p,p<M.length->lQ M R g p=g p:=λp hp=>if_pos hp
 have hfh:∀p,¬p<M.length->lQ M R g p=R.length+(p-M.length):=λp hp=>if_neg hp
 have hgetL:∀(p:Nat) (t:Tg),M[p]?=some t->(M.map zx)[p]?=some t.2:=λp t ht=>by rw [zt,ht];rfl
 have hnm:∀p,(aC (M.map zx)).named p↔(aV T).named (lQ M R g p):=by
  intro p;by_cases hp:p<M.length
  ·have hm:M[p]?=some M[p]:=zy hp;obtain ⟨x,h1,h2⟩:=h.at hm;rw [hfl p hp,fL (hgetL _ _ hm)];unfold Gr.named;rw [(aAy hT h1).1,h2]
  ·constructor
   ·intro hn;obtain ⟨n,h1,_⟩:=jN hn;have:=(zz.1 h1).1;simp at this;omega
   ·intro hn;rw [hfh p hp] at hn;obtain ⟨h1,_⟩:=oL hn;omega
 have hpn:∀p,(aC (M.map zx)).named p->∃t,M[p]?=some t/\aF t.2=false/\p<M.length:=by intro p hn;obtain ⟨n,h1,h2⟩:=jN hn;rw [zt] at h1;obtain ⟨t,h3,rfl⟩:=zm.1 h1;exact ⟨t,h3,h2,(zz.1 h3).1⟩
 refine ⟨hnm,?_,?_,?_,?_,?_,?_⟩
 ·intro p hn;obtain ⟨t,h1,h2,h3⟩:=hpn p hn;rw [hfl p h3,lC (hgetL _ _ h1),(aAy hT (h.name p t h1 h2)).1]
 ·intro p hn;obtain ⟨t,h1,h2,h3⟩:=hpn p hn;rw [hfl p h3,(aAy hT (h.name p t h1 h2)).2];refine zn λq hq=>(hfl q ?_).symm
  have hn':=hgetL _ _ h1;rw [fM hn'] at hq;have h4:=(oC _ _ _ (h.whole p _ hn') q hq).2;have h5:aH ((M.map zx).drop p) 1<=((M.map zx).drop p).length:=mD _ _;rw [zr (by simp;omega)] at h5;have h6:(M.map zx)[p]'(by simp;omega)=t.2:=(zz.1 hn').2;rw [h6] at h5;simp [aH] at h5;omega
 ·intro p q e;by_cases hp:p<M.length <;> by_cases hq:q<M.length
  ·rw [hfl p hp,hfl q hq] at e;have hm:M[p]?=some M[p]:=zy hp;have hm':M[q]?=some M[q]:=zy hq;obtain ⟨x,x1,x2⟩:=h.at hm;obtain ⟨y,y1,y2⟩:=h.at hm';rw [e,y1] at x1;simp at x1;subst x1;cases hv:aF M[p].2
   ·have hv':aF M[q].2=false:=by rw [<-y2,x2,hv]
    have:=h.inj p q _ _ hm hm' hv hv' e;subst this;exact Cl.refl _
   ·have hv':aF M[q].2=true:=by rw [<-y2,x2,hv]
    obtain ⟨r1,a1,a2⟩:=h.var p _ hm hv;obtain ⟨r2,b1,b2⟩:=h.var q _ hm' hv';rw [e,b1] at a1;simp at a1;subst a1;rw [b2] at a2;simp at a2;have n1:=h.num p _ hm hv;have n2:=h.num q _ hm' hv';refine Cl.base (yz ((rN M p q).2 (z3 ⟨_,_,hm,hm',hv,hv',?_,?_⟩))) <;> omega
  ·rw [hfl p hp,hfh q hq] at e;have:=h.lt hp;omega
  ·rw [hfl q hq,hfh p hp] at e;have:=h.lt hq;omega
  ·rw [hfh p hp,hfh q hq] at e;have:p=q:=by omega
   subst this;exact Cl.refl _
 ·rintro p q (e | ⟨rfl,rfl⟩)
  ·rcases (rN M p q).1 e with rfl | ⟨s,t,h1,h2,h3,h4,h5,h6⟩
   ·exact Cl.refl _
   ·obtain ⟨r1,a1,a2⟩:=h.var p _ h1 h3;obtain ⟨r2,b1,b2⟩:=h.var q _ h2 h4;have hpl:=(zz.1 h1).1;have hql:=(zz.1 h2).1;have hgg:g p=g q:=by
     refine h.once (g p) (g q) r1 r2 a1 b1 ?_ ?_
     ·rw [a2];exact h3
     ·rw [a2,b2,aEd h3,aEd h4,h5,h6]
    rw [hfl p hpl,hfl q hql,hgg];exact Cl.refl _
  ·rw [hfl p ha,hfl q hb];exact Cl.base (yz ⟨rfl,rfl⟩)
 ·rintro r s (⟨rfl,rfl⟩ | e)
  ·exact ⟨a,b,hfl a ha,hfl b hb,Cl.base (z3 ⟨rfl,rfl⟩)⟩
  ·have:=aLs hT h.fresh e;subst this;by_cases hr:r<R.length
   ·obtain ⟨p,h1,h2⟩:=h.onto r hr;exact ⟨p,p,by rw [hfl p h1,h2],by rw [hfl p h1,h2],Cl.refl _⟩
   ·have hx:lQ M R g (M.length+(r-R.length))=r:=by rw [hfh _ (by omega)];omega
    exact ⟨_,_,hx,hx,Cl.refl _⟩
 ·intro r hn;obtain ⟨h1,_⟩:=oL hn;obtain ⟨p,h2,h3⟩:=h.onto r (by omega);exact ⟨p,by rw [hfl p h2,h3]⟩
end
theorem aLt{E:Nat->Nat->Prop}(hE:∀i,E i i):∀(s:List Nd) (k b:Nat),s=L.drop b->fA s k->(∀x∈fK s k b,bD (aC L) E x)->∀p,b<=p->p<b+aH s k->bD (aC L) E p:=by
 intro s;induction s with
 | nil=>
  intro k b _ _ _ p h1 h2;cases k <;> simp [aH] at h2 <;> omega
 | cons n r ih=>
  intro k b hs hf hx p h1 h2;cases k with
  | zero=>simp at h2;omega
  | succ k=>
   have hb:L[b]?=some n:=by have:=congrArg (λl=>l[0]?) hs;simpa using this.symm
   have hr:r=L.drop (b+1):=by have:=congrArg List.tail hs;simpa using this
   have hlt:=(zz.1 hb).1;have hself:bD (aC L) E b:=hx b (by rw [kL];simp);by_cases hp:p=b
   ·subst hp;exact hself
   ·simp only [fA] at hf;simp only [aH] at h2;refine ih (k+bJ n) (b+1) hr hf (λx hxm=>?_) p (by omega) (by omega);rw [Nat.add_comm k,aEp] at hxm;rcases zq.1 hxm with hxm | hxm
    ·cases hv:aF n
     ·refine hself.parts (hE b) ((fL hb).2 hv) ?_;rw [fM hb,<-hr];exact hxm
     ·rw [oJ hv] at hxm;simp [fK] at hxm
    ·refine hx x ?_;rw [kL];refine zo _ ?_;have he:aH (n :: r) 1=1+aH r (bJ n):=by simp [aH]
     rw [he,Nat.add_comm 1,List.drop_succ_cons,show b+(aH r (bJ n)+1)=b+1+aH r (bJ n) by omega];exact hxm
theorem aEe{E:Nat->Nat->Prop}(hE:∀i,E i i)(hW:dE L){i:Nat}(hi:i<L.length)(h:bD (aC L) E i):∀p,i<=p->p<i+aH (L.drop i) 1->bD (aC L) E p:=
 aLt hE _ 1 i rfl (hW.one hi) λx hx=>by
  simp [fK] at hx;subst hx;exact h
abbrev aO(o:Int)(t:List Nd):List Tg:=t.map λn=>(o,n)
theorem tA(o:Int)(t:List Nd):(aO o t).map zx=t:=by unfold aO;rw [zj];exact yu _
theorem Rows.tabOk{R:List Rw}{g:Nat->Nat}{T:Tb}(h:Rows M R g)(hT:T.map yt=R)(hpos:∀(p:Nat) (t:Tg),M[p]?=some t->0<=t.2.2):gS T:=by
 have hTl:T.length=R.length:=by rw [<-hT];simp
 have hget:∀(i:Nat) (hi:i<T.length),R[i]?=some T[i].1:=λi hi=>by rw [<-hT,zt,zy hi];rfl
 have key:∀(i:Nat) (hi:i<T.length),∃p t,M[p]?=some t/\g p=i/\aF T[i].1.node=aF t.2/\(aF t.2=false->T[i].1=⟨t.2,i,((aC (M.map zx)).ch p).map g⟩):=by intro i hi;obtain ⟨p,hp,rfl⟩:=h.onto i (by omega);have hm:M[p]?=some M[p]:=zy hp;obtain ⟨z,z1,z2⟩:=h.at hm;have hg:=hget _ hi;rw [z1] at hg;simp at hg;subst hg;refine ⟨p,M[p],hm,rfl,z2,λhv=>?_⟩;have:=h.name p _ hm hv;rw [z1] at this;simpa using this
 refine ⟨λi hi q hq=>?_,λi hi=>?_,λi hi hv=>?_⟩
 ·obtain ⟨p,t,h1,h2,h3,h4⟩:=key i hi;cases hv:aF t.2
  ·rw [h4 hv] at hq;obtain ⟨c,hc,rfl⟩:=List.mem_map.1 hq;have hn:(M.map zx)[p]?=some t.2:=by rw [zt,h1];rfl
   rw [fM hn] at hc;have k1:=(oC _ _ _ (h.whole p _ hn) c hc).2;have hpl:=(zz.1 hn).1;have k2:aH ((M.map zx).drop p) 1<=((M.map zx).drop p).length:=mD _ _;rw [zr hpl] at k2;have k3:(M.map zx)[p]=t.2:=(zz.1 hn).2;rw [k3] at k2;simp [aH] at k2 hpl;rw [hTl];exact h.lt (by omega)
  ·have:=(h.fresh i _ (hget i hi)).2 (by rw [h3];exact hv);rw [this] at hq;simp at hq
 ·rw [(h.fresh i _ (hget i hi)).1];exact hi
 ·obtain ⟨p,t,h1,h2,h3,h4⟩:=key i hi;have hvt:aF t.2=false:=by rw [<-h3];exact hv
  rw [h4 hvt];have hn:(M.map zx)[p]?=some t.2:=by rw [zt,h1];rfl
  simp only [ze];rw [fM hn,tD];have:=hpos p t h1;unfold bJ;rw [hvt];simp;omega
theorem aLu{q:Nat}(h:aW t q=true):∀n∈t,0<=n.2:=by
 intro n hn;have:=aJ2 h n hn;unfold eA at this;split at this
 ·simp at this;omega
 ·simp at this;omega
end
section
open Go.RowKit
def dG(a y x p:Nat):Nat:=if p<a then p else if p<a+y then p+x else if p<a+y+x then p-y else p
section
variable {A X Y B:List Tg}
theorem aLv(p:Nat):(A++Y++X++B)[p]?=(A++X++Y++B)[dG A.length Y.length X.length p]?:=by
 unfold dG;by_cases h1:p<A.length
 ·rw [if_pos h1,zu,zu,zu,zu,zw h1,zw h1]
 ·rw [if_neg h1];by_cases h2:p<A.length+Y.length
  ·rw [if_pos h2,zu,zw (by simp;omega),zv (by omega)];rw [zw (by simp;omega),zv (by simp;omega)];congr 1
   simp;omega
  ·rw [if_neg h2];by_cases h3:p<A.length+Y.length+X.length
   ·rw [if_pos h3,zw (by simp;omega),zv (by simp;omega)];rw [zu,zw (by simp;omega),zv (by omega)];congr 1
    simp;omega
   ·rw [if_neg h3,zv (by simp;omega),zv (by simp;omega)];congr 1
    simp;omega
theorem aLw(a y x:Nat){p q:Nat}(h:dG a y x p=dG a y x q):p=q:=by unfold dG at h;split at h <;> split at h <;> (try split at h) <;> (try split at h) <;> (try split at h) <;> (try split at h) <;> omega
theorem aLx(a y x q:Nat):∃p,dG a y x p=q/\(q<a+x+y->p<a+y+x):=by
 by_cases h1:q<a
 ·exact ⟨q,by unfold dG;rw [if_pos h1],λ_=>by omega⟩
 ·by_cases h2:q<a+x
  ·refine ⟨q+y,?_,λ_=>by omega⟩;unfold dG;rw [if_neg (by omega),if_neg (by omega),if_pos (by omega)];omega
  ·by_cases h3:q<a+x+y
   ·refine ⟨q-x,?_,λ_=>by omega⟩;unfold dG;rw [if_neg (by omega),if_pos (by omega)];omega
   ·exact ⟨q,by unfold dG;rw [if_neg (by omega),if_neg (by omega),if_neg (by omega)],λh=>absurd h h3⟩
end
theorem uN{T R:List Nd}(hT:dE T){p:Nat}(h:p<T.length):(aC (L++T++R)).ch (L.length+p)=((aC T).ch p).map (· + L.length):=by rw [zu,wG (by simp;omega),lP hT h]
section
variable {A X Y B:List Tg}{R:List Rw}{g:Nat->Nat}
theorem Rows.swap(h:Rows (A++X++Y++B) R g)(hA:dE (A.map zx))(hX:dE (X.map zx))(hY:dE (Y.map zx))(hB:dE (B.map zx)) :
  Rows (A++Y++X++B) R λp=>g (dG A.length Y.length X.length p):=by
 have hat:=@aLv A X Y B;have hl:(A++Y++X++B).length=A.length+Y.length+X.length+B.length:=by simp;omega
 have hlt:∀q,q<A.length+X.length+Y.length+B.length->∃p,dG A.length Y.length X.length p=q/\p<A.length+Y.length+X.length+B.length:=by
  intro q hq;obtain ⟨p,h1,h2⟩:=aLx A.length Y.length X.length q;refine ⟨p,h1,?_⟩;by_cases h3:q<A.length+X.length+Y.length
  ·have:=h2 h3;omega
  ·unfold dG at h1;split at h1
   ·omega
   ·split at h1
    ·omega
    ·split at h1 <;> omega
 have hch:∀(p:Nat),p<A.length+Y.length+X.length+B.length->(aC ((A++X++Y++B).map zx)).ch (dG A.length Y.length X.length p)=((aC ((A++Y++X++B).map zx)).ch p).map (dG A.length Y.length X.length):=by
  intro p hp;have inn:∀{T:List Nd} (hT:dE T) {q x:Nat},q<T.length->x∈(aC T).ch q->x<T.length:=by intro T hT q x hq hx;have h1:T[q]?=some T[q]:=zy hq;rw [fM h1] at hx;have h4:=(oC _ _ _ (hT q _ h1) x hx).2;have h5:aH (T.drop q) 1<=(T.drop q).length:=mD _ _;rw [zr hq] at h5;simp [aH] at h5;omega
  simp only [z5];by_cases h1:p<A.length
  ·have e:dG A.length Y.length X.length p=p:=by unfold dG;rw [if_pos h1]
   rw [e];have e1:∀(T:List Nd),(aC (A.map zx++T)).ch p=(aC (A.map zx)).ch p:=λT=>lP hA (by simpa using h1)
   rw [zu,zu,zu,zu,e1,e1];refine (yu _).symm.trans (zn λx hx=>?_);have:=inn hA (by simpa using h1) hx;simp at this;simp [dG,this]
  ·by_cases h2:p<A.length+Y.length
   ·have e:dG A.length Y.length X.length p=p+X.length:=by unfold dG;rw [if_neg h1,if_pos h2]
    rw [e];have ep:p+X.length=(A.map zx++X.map zx).length+(p-A.length):=by simp;omega
    have ep':p=(A.map zx).length+(p-A.length):=by simp;omega
    have hq:p-A.length<(Y.map zx).length:=by simp;omega
    rw [ep,uN (R:=B.map zx) hY hq];conv=>rhs;rw [ep',zu (A.map zx++Y.map zx),uN hY hq]
    rw [zj];refine zn λx hx=>?_
    have:=inn hY hq hx;simp at this;simp only [Function.comp,dG,zb,ze];rw [if_neg (by omega),if_pos (by omega)];omega
   ·by_cases h3:p<A.length+Y.length+X.length
    ·have e:dG A.length Y.length X.length p=p-Y.length:=by unfold dG;rw [if_neg h1,if_neg h2,if_pos h3]
     rw [e];have ep:p-Y.length=(A.map zx).length+(p-Y.length-A.length):=by simp;omega
     have ep':p=(A.map zx++Y.map zx).length+(p-Y.length-A.length):=by simp;omega
     have hq:p-Y.length-A.length<(X.map zx).length:=by simp;omega
     rw [ep,zu (A.map zx++X.map zx),uN hX hq];conv=>rhs;rw [ep',uN (R:=B.map zx) hX (by simpa using hq)]
     have e3:(A.map zx).length+(p-Y.length-A.length)-(A.map zx).length=p-Y.length-A.length:=by omega
     rw [zj];refine zn λx hx=>?_
     have:=inn hX hq hx;simp at this;simp only [Function.comp,dG,zb,ze];rw [if_neg (by omega),if_neg (by omega),if_pos (by omega)];omega
    ·have e:dG A.length Y.length X.length p=p:=by unfold dG;rw [if_neg h1,if_neg h2,if_neg h3]
     rw [e];have ep:p=(A.map zx++X.map zx++Y.map zx).length+(p-A.length-X.length-Y.length):=by simp;omega
     have ep':p=(A.map zx++Y.map zx++X.map zx).length+(p-A.length-X.length-Y.length):=by simp;omega
     have hq:p-A.length-X.length-Y.length<(B.map zx).length:=by simp;omega
     conv=>lhs;rw [ep,wG hq]
     conv=>rhs;rw [ep',wG hq]
     rw [zj];refine zn λx hx=>?_
     simp only [Function.comp,dG,zb,ze];rw [if_neg (by omega),if_neg (by omega),if_neg (by omega)];omega
 refine ⟨?_,?_,?_,?_,?_,h.fresh,h.once,?_⟩
 ·simp only [z5];exact ((hA.append hY).append hX).append hB
 ·intro p t hp hv;rw [hat] at hp;exact h.var _ t hp hv
 ·intro p t hp hv;have hpl:p<A.length+Y.length+X.length+B.length:=by
   have:=(zz.1 hp).1;rwa [hl] at this
  rw [hat] at hp;have:=h.name _ t hp hv;rw [hch p hpl,zj] at this;exact this
 ·intro p q s t hp hq hs ht e;rw [hat] at hp hq;exact aLw _ _ _ (h.inj _ _ s t hp hq hs ht e)
 ·intro r hr;obtain ⟨q,hq,e⟩:=h.onto r hr;obtain ⟨p,h1,h2⟩:=hlt q (by simpa [Nat.add_assoc] using hq);exact ⟨p,by rw [hl];exact h2,by rw [h1];exact e⟩
 ·intro p t hp hv;rw [hat] at hp;exact h.num _ t hp hv
end
theorem dH.set{B:Nat}{g n cap:Nat}(h:dH B w (.slice (some ⟨g,0,none⟩) n cap) ks)(hn:n=ks.length)(i x:Nat):dH B (w.setCell ⟨g,i,none⟩ (.int .i64 (x:Nat))) (.slice (some ⟨g,0,none⟩) n cap) (ks.set i x)/\w.grownBy (w.setCell ⟨g,i,none⟩ (.int .i64 (x:Nat))) (some g):=by subst hn;have:=qH (w:=w) h i (.int .i64 (x:Nat));refine ⟨?_,bR w ⟨g,i,none⟩ _⟩;unfold dH;rw [zd,List.map_set];exact this
theorem dH.take{B:Nat}{g n cap:Nat}(h:dH B w (.slice (some ⟨g,0,none⟩) n cap) ks){m:Nat}(hm:m<=ks.length):dH B w (.slice (some ⟨g,0,none⟩) m cap) (ks.take m):=by
 obtain ⟨h1,⟨e,_⟩ | ⟨g',cap',cur,e,hb,hh,hc,hml,hz,ht⟩⟩:=h
 ·cases e
 ·simp at e;obtain ⟨rfl,_,rfl⟩:=e;have hl:(ks.take m).length=m:=by simp;omega
  unfold dH;rw [hl];refine ⟨by simp;omega,z3 ⟨g,cap,cur,rfl,hb,hh,by omega,hml,hz,?_⟩⟩;rw [List.map_take,<-ht,z7];congr 1
  omega
theorem dH.cleared{B:Nat}{g n cap:Nat}:∀(m o:Nat) (w:World) (ks:List Nat),dH B w (.slice (some ⟨g,0,none⟩) n cap) ks->n=ks.length->
  ∃ks',dH B (w.setCells g o (za m (.int .i64 0))) (.slice (some ⟨g,0,none⟩) n cap) ks'/\ks'.length=ks.length/\ks'.take o=ks.take o/\w.grownBy (w.setCells g o (za m (.int .i64 0))) (some g)
 | 0,o,w,ks,h,_=>⟨ks,h,rfl,rfl,⟨rfl,rfl,rfl,zk _,λ_ _ _=>rfl⟩⟩
 | m+1,o,w,ks,h,hn=>by
  obtain ⟨h1,h2⟩:=h.set hn o 0;obtain ⟨ks',k1,k2,k3,k4⟩:=dH.cleared m (o+1) _ _ h1 (by rw [zd];exact hn);refine ⟨ks',k1,by rw [k2,zd],?_,kA h2 k4⟩;have:=congrArg (List.take o) k3;rw [z7,z7,Nat.min_eq_left (Nat.le_succ o),z9 (zk _)] at this;exact this
def aLy(w:World)(g b1 b2:Nat)(p:Nat->Bool)(ks:List Nat):Prop:=∀k∈ks,∀wx,w.grownBy wx (some g)->Calls Tryz.prog 99 #[.int .i64 (k:Nat),.pointer (some ⟨b1,0,none⟩),.pointer (some ⟨b2,0,none⟩)] wx λe w'=>e=.returned (.bool (p k))/\Below wx.heap.size wx w'
theorem aEf{p:Nat->Bool}{j:Nat}(hj:j<ks.length):(ks.take (j+1)).filter (λk=>!p k)=(ks.take j).filter (λk=>!p k)++if p ks[j] then [] else [ks[j]]:=by rw [zh hj,List.filter_append];cases h:p ks[j] <;> simp [h]
theorem aLz(B b1 b2:Nat)(p:Nat->Bool)(a:Option Addr)(cap:Nat)(ks:List Nat)(w:World)(h:dH B w (.slice a ks.length cap) ks)(hl:ks.length<=1000000)(hs:aG1 w b1 b2 p ks)(hno:ks.any p=false) :
  Calls Tryz.prog 98 #[.slice a ks.length cap,.func (.func 99) #[] #[.pointer (some ⟨b1,0,none⟩),.pointer (some ⟨b2,0,none⟩)]] w λe w'=>e=.returned (.slice a ks.length cap)/\Below w.heap.size w w':=by
 have CI:=aA (aG2 B b1 b2 p a cap ks w h hl hs);have hf:nC p ks=-1:=aBg (λj hj=>by
  rw [Bool.eq_false_iff];intro hp;rw [yx.2 ⟨_,yw hj,hp⟩] at hno;cases hno)
 rw [hf] at CI;clear h hs hno hf;go_enter Tryz.func98,Tryz.ntmps98;go_wp2_with (first
  | (go_at_call 125;refine (aB CI).mono ?_;rintro e w1 ⟨rfl,hb⟩;have HB:=aA hb;clear hb)
  | go_in)
 go_ret;exact ⟨rfl,HB.out⟩
theorem aM0(B b1 b2:Nat)(p:Nat->Bool)(g cap:Nat)(ks:List Nat)(w:World)(h:dH B w (.slice (some ⟨g,0,none⟩) ks.length cap) ks)(hl:ks.length<=1000000)(hs:aLy w g b1 b2 p ks)(hyes:ks.any p=true) :
  Calls Tryz.prog 98 #[.slice (some ⟨g,0,none⟩) ks.length cap,.func (.func 99) #[] #[.pointer (some ⟨b1,0,none⟩),.pointer (some ⟨b2,0,none⟩)]] w λe w'=>e=.returned (.slice (some ⟨g,0,none⟩) (ks.filter λk=>!p k).length cap)/\dH B w' (.slice (some ⟨g,0,none⟩) (ks.filter λk=>!p k).length cap) (ks.filter λk=>!p k)/\w.grownBy w' (some g):=by
 have CI:=aA (aG2 B b1 b2 p _ cap ks w h hl (λk hk wx hwx=>hs k hk wx (fV hwx)));have hlt:ks.findIdx p<ks.length:=List.findIdx_lt_length.2 (yx.1 hyes);obtain ⟨m,hm⟩ : ∃m,ks.findIdx p=m:=⟨_,rfl⟩;have hf:nC p ks=(m:Nat):=by unfold nC;rw [if_pos hlt,hm]
 rw [hm] at hlt;have hpm:p ks[m]=true:=by have:=z6 (xs:=ks) (p:=p) (w:=by omega);simpa [hm] using this
 have hbef:(ks.take m).filter (λk=>!p k)=ks.take m:=by
  rw [List.filter_eq_self];intro x hx;obtain ⟨j,hj,rfl⟩:=List.getElem_of_mem hx;have hjm:j<m:=by simp at hj;omega
  have:=z4 (xs:=ks) (p:=p) (i:=j) (by omega);rw [List.getElem_take];simpa using this
 have hst:(ks.take (m+1)).filter (λk=>!p k)=ks.take m:=by rw [aEf hlt,hbef,if_pos hpm,List.append_nil]
 rw [hf] at CI;have hcap:ks.length<=cap:=by
  obtain ⟨_,⟨e,_⟩ | ⟨g',cap',cur,e,_,_,hc,_⟩⟩:=h
  ·cases e
  ·simp at e;omega
 have HST:=aA hst;have HH:=aA h;have HS:=aA hs;have hneg:((m:Int) == -1)=false:=by rw [beq_eq_false_iff_ne];omega
 clear h hs hyes hf hm hpm hbef hst;go_enter Tryz.func98,Tryz.ntmps98;go_wp2_with (first
  | (go_at_call 125;refine (aB CI).mono ?_;rintro e w1 ⟨rfl,hb⟩;have HB:=aA hb;clear hb)
  | go_in)
 have hmi:(m:Int)<(ks.length:Int):=by omega
 go_loopw [5,6] (λpi pj wr=>∃(i j:Nat) (R:List Nat),pi=.int .i64 i/\pj=.int .i64 j/\j<=ks.length/\i<j/\R.length=ks.length/\dH B wr (.slice (some ⟨g,0,none⟩) ks.length cap) R/\R.take i=(ks.take j).filter (λk=>!p k)/\(∀t,j<=t->R[t]?=ks[t]?)/\w.grownBy wr (some g)) (λ_ pj _=>ks.length-(intOf pj).toNat);case atStart=>exact ⟨m,m+1,ks,rfl,by simp,by omega,by omega,rfl,aU HH.out HB.out (zk _),HST.out.symm,λ_ _=>rfl,fV HB.out⟩
 case round=>
  obtain ⟨i,j,R,rfl,rfl,hj,hij,hR,hO,ht,hrest,hg⟩:=hrel;by_cases hlt2:j<ks.length
  ·obtain ⟨x,hx⟩ : ∃x,ks[j]=x:=⟨_,rfl⟩;have hRj:R[j]'(by omega)=x:=by
    have:=hrest j (zk _);rw [zy (by omega),zy hlt2,hx] at this;exact Option.some.inj this
   obtain ⟨g',e,hc⟩:=hO.cell (i:=j) (by omega);cases e;rw [hRj] at hc;obtain ⟨zi,hci⟩ : ∃zi:Nat,wr.cell? ⟨g,i,none⟩=some (.int .i64 (zi:Nat)):=by obtain ⟨g',e,hci⟩:=hO.cell (i:=i) (by omega);cases e;exact ⟨_,hci⟩
   have CP:=aA (HS.out x (by rw [<-hx];exact yw hlt2) wr hg);have hstep:=aEf (p:=p) hlt2;rw [hx] at hstep;have hji:(j:Int)<(ks.length:Int):=by omega
   have hii:(i:Int)<(ks.length:Int):=by omega
   have HO:=aA hO;have HT:=aA ht;have HR:=aA hrest;have HG:=aA hg;have HSP:=aA hstep;have HRL:=aA hR;have hfz:∀wx,wr.grownBy wx none->wx.frozen? ⟨g,i,none⟩=false:=λwx hwx=>by
    obtain ⟨_,⟨e,_⟩ | ⟨g',cap',cur,e,_,hh,_⟩⟩:=hO
    ·cases e
    ·simp at e;obtain ⟨rfl,_⟩:=e;have:=hwx.block g (zs.1 hh).1 (by simp);simp [World.frozen?,this,hh]
   have HFZ:=aA hfz;clear hO ht hrest hg hstep hRj hx hR hfz;cases hp:p x
   ·rw [hp] at CP;have HP:=aA hp;clear hp;go_wp2_with (first
     | (go_at_call 99;refine (aB CP).mono ?_;rintro e w2 ⟨rfl,hb2⟩;have c2:=Below.at' hb2 (zk _) hci;have f2:=HFZ.out w2 (fV hb2);have HB2:=aA hb2;clear hb2)
     | go_in)
    go_roundw;case rel=>
     have hO2:dH B w2 (.slice (some ⟨g,0,none⟩) ks.length cap) R:=aU HO.out HB2.out (zk _);obtain ⟨hO3,hg3⟩:=hO2.set HRL.out.symm i x;have hRl:=HRL.out;refine ⟨i+1,j+1,R.set i x,by go_num,by go_num,by omega,by omega,by rw [zd];exact hRl,hO3,?_,λt ht=>?_,kA HG.out (kA (fV HB2.out) hg3)⟩
     ·rw [HSP.out,HP.out,<-HT.out,zh (by simp;omega),z9 (zk _)];simp
     ·rw [List.getElem?_set_ne (by omega)];exact HR.out t (by omega)
    case measure=>simp [intOf];omega
   ·rw [hp] at CP;have HP:=aA hp;clear hp;go_wp2_with (first
     | (go_at_call 99;refine (aB CP).mono ?_;rintro e w2 ⟨rfl,hb2⟩;have HB2:=aA hb2;clear hb2)
     | go_in)
    go_roundw;case rel=>
     refine ⟨i,j+1,R,rfl,by go_num,by omega,by omega,HRL.out,aU HO.out HB2.out (zk _),?_,λt ht=>HR.out t (by omega),kA HG.out (fV HB2.out)⟩;rw [HSP.out,HP.out,<-HT.out];simp
    case measure=>simp [intOf];omega
  ·have hje:j=ks.length:=by omega
   rw [hje,List.take_length] at ht;have hli:(ks.filter λk=>!p k).length=i:=by rw [<-ht,List.length_take];omega
   have hcl:∀ty,(Builtin.clear_ #[25] ty #[.slice (some ⟨g,i,none⟩) (ks.length-i) (cap-i)]).run Tryz.prog wr=.ok (.tuple #[]) (wr.setCells g i (za (ks.length-i) (.int .i64 0))):=λty=>
    Lib.run_clear_slice wr _ 3 ty (.int .i64 0) Tryz.underlying25 (λw=>by obtain ⟨iI,hI,hI0,hI1,hI2⟩:=info_parts pB;simp [zeroValue,typeInfo,hI,hI0]) rfl rfl g i _ _ (by omega) (λt ht=>by
     obtain ⟨g',e,hc⟩:=hO.cell (i:=i+t) (by omega);cases e;rw [hc];rfl) (λt ht=>by
     obtain ⟨_,⟨e,_⟩ | ⟨g',cap',cur,e,_,hh,_⟩⟩:=hO
     ·cases e
     ·simp at e;obtain ⟨rfl,_⟩:=e;simp [World.frozen?,hh])
   obtain ⟨R',o1,o2,o3,o4⟩:=dH.cleared (ks.length-i) i wr R hO hR.symm;have hfin:dH B (wr.setCells g i (za (ks.length-i) (.int .i64 0))) (.slice (some ⟨g,0,none⟩) i cap) (ks.filter λk=>!p k):=by have:=o1.take (m:=i) (by omega);rw [o3,ht] at this;exact this
   have HFI:=aA hfin;have HG:=aA (kA hg o4);have HLI:=aA hli;have hji:¬(j:Int)<(ks.length:Int):=by omega
   have hil:(i:Int)<=(ks.length:Int):=by omega
   have hic:(i:Int)<=(cap:Int):=by omega
   have hkc:(ks.length:Int)<=(cap:Int):=by omega
   clear hO ht hrest hg o1 o2 o3 o4 hfin hR hli;go_wp2;go_ret;rw [HLI.out];exact ⟨rfl,HFI.out,HG.out⟩
end
end Go.Proofs.YtcldkjcpofjmhaaGreatDoor
