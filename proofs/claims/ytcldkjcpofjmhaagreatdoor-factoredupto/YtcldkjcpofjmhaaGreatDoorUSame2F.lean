import Derived.Test.YtcldkjcpofjmhaaGreatDoorUEnds0F
import Derived.Test.YtcldkjcpofjmhaaGreatDoorONumberF
import Derived.Deep.RegionHeld3
import Derived.Test.YtcldkjcpofjmhaaGreatDoorXCutF
import Derived.Shelf.RegionOpen
import Derived.OwnWalkIn
import Derived.TacticsInMore
import Derived.LoopNIn
import Derived.LoopIn
open List renaming getElem_mem→zz,getElem?_eq_getElem→zy,prefix_append→zv,prefix_refl→zt,range→zs
open Nat renaming le_refl→zx,zero_le→zw
namespace Go.Proofs.YtcldkjcpofjmhaaGreatDoor
set_option maxHeartbeats 8000000
set_option maxRecDepth 100000
open Go.RowKit Go.Shelf Go.WideMaps
variable{c d:List Lt}{B tp:Nat}{Bs:Nat->Nat->Prop}{Q:Tb}{v:Value}{w wr:World}
structure Sh(P Q:Tb):Prop where
 len:Q.length=P.length
 row:∀i (h:i<P.length) (h':i<Q.length),Q[i].2=P[i].2/\Q[i].1.parts=P[i].1.parts/\Q[i].1.node=P[i].1.node
theorem Sh.refl(P:Tb):Sh P P:=⟨rfl,λ_ _ _=>⟨rfl,rfl,rfl⟩⟩
theorem Sh.join{P:Tb}(h:Sh P Q)(x y:Nat):Sh P (fX Q x y):=by
 refine ⟨by rw [kT,h.len],λi hi hi'=>?_⟩;have hq:i<Q.length:=by rw [h.len];exact hi
 rw [nK Q x y i hq];obtain ⟨a,b,c⟩:=vH x y Q[i];obtain ⟨d,e,f⟩:=h.row i hi hq;exact ⟨a.trans d,b.trans e,c.trans f⟩
structure mK(w:World)(B tp:Nat)(v:Value)(P0:Tb)(Bs:Nat->Nat->Prop)(Q:Tb)(wr:World):Prop where
 tab:bU wr B tp v Q
 inv:qP P0 Bs Q
 sh:Sh P0 Q
 far:w.grownBy wr v.ownBlock
theorem aJe{w':World}{o:Option Nat}(h:Below w.heap.size w w'):w.grownBy w' o:=⟨h.os,h.tape,h.output,h.size,λk hk _=>h.block k hk⟩
theorem mK.below{P0:Tb}{wx:World}(h:mK w B tp v P0 Bs Q wr)(k:Below wr.heap.size wr wx):mK w B tp v P0 Bs Q wx:=⟨h.tab.below k,h.inv,h.sh,h.far.trans (aJe k)⟩
theorem mK.join{P0:Tb}{wx:World}(h:mK w B tp v P0 Bs Q wr){a b:Nat}(ha:a<Q.length)(hb:b<Q.length)(hc:Cl (aV P0) Bs a b)(ht:bU wx B tp v (fX Q Q[a].1.cls Q[b].1.cls))(hg:wr.grownBy wx v.ownBlock):mK w B tp v P0 Bs (fX Q Q[a].1.cls Q[b].1.cls) wx:=
 ⟨ht,h.inv.join ha hb hc,h.sh.join _ _,h.far.trans hg⟩
def cN(n:Nat)(Q:Tb):Nat:=wV n (Q.map λp=>p.1.cls)
def nV(n:Nat)(Q0 Q:Tb)(b:Bool)(F:Prop):Prop:=cN n Q<=cN n Q0/\(b=true->cN n Q<cN n Q0)/\(b=false->Q=Q0/\F)
theorem nV.start(n:Nat)(Q:Tb){F:Prop}(h:F):nV n Q Q false F:=⟨zx _,by simp,λ_=>⟨rfl,h⟩⟩
theorem nV.imp{n:Nat}{Q0:Tb}{b:Bool}{F F':Prop}(h:nV n Q0 Q b F)(k:Q=Q0->F->F'):nV n Q0 Q b F':=⟨h.1,h.2.1,λe=>⟨(h.2.2 e).1,k (h.2.2 e).1 (h.2.2 e).2⟩⟩
theorem nV.join{n:Nat}{Q0:Tb}{b:Bool}{F F':Prop}(h:nV n Q0 Q b F)(hok:gS Q)(hn:Q.length=n){u v:Nat}(hu:u<Q.length)(hv:v<Q.length)(k:Q=Q0->F->aZ Q u v->F') :
  nV n Q0 (fX Q Q[u].1.cls Q[v].1.cls) (b || decide (Q[u].1.cls≠Q[v].1.cls)) F':=by
 by_cases e:Q[u].1.cls=Q[v].1.cls
 ·have ej:fX Q Q[u].1.cls Q[v].1.cls=Q:=by rw [e,aHp]
  rw [ej];simp only [e,ne_eq,not_true_eq_false,decide_false,Bool.or_false];exact h.imp λh1 h2=>k h1 h2 ((aZ.iff hu hv).2 e)
 ·have hl:=aSw hok hu hv e;rw [hn] at hl;have h1:=h.1;refine ⟨?_,λ_=>?_,λhb=>?_⟩
  ·unfold cN at *;omega
  ·unfold cN at *;omega
  ·simp [e] at hb
def aA5(w:World)(g n:Nat):List Nat:=(zs n).map λi=>match w.cell? ⟨g,i*4+3,none⟩ with | some (.int _ x)=>x.toNat | _=>0
theorem aJf{g n cap:Nat}(h:bU w B tp (.slice (some ⟨g,0,none⟩) n cap) Q)(hn:Q.length=n):aA5 w g n=Q.map λp=>p.1.cls:=by
 obtain ⟨a,cap',e,hc⟩:=h.shape;simp at e;obtain ⟨rfl,_⟩:=e;apply List.ext_getElem?;intro k;by_cases hk:k<n
 ·obtain ⟨g',hg,_,_,_,h4⟩:=hc k (by omega);simp at hg;subst hg;simp [aA5,hk,h4,show k<Q.length by omega]
 ·have hq:Q.length<=k:=by omega
  simp [aA5,hk,hq]
structure aVo(P:Tb)(B tp:Nat)(v:Value)(Bs:Nat->Nat->Prop)(r:Value)(w':World):Prop where
 yes:∃b:Bool,r=.bool b/\(b=true↔dW (aV P) (Cl (aV P) Bs)/\∀i,i<P.length->bD (aV P) (Cl (aV P) Bs) i)/\
  (b=true->∃Q,bU w' B tp v Q/\Sh P Q/\aV Q=aV P/\gS Q/\∀i j,aZ Q i j↔Cl (aV P) Bs i j)
theorem bD.iff{G:Gr}{R S:Nat->Nat->Prop}(h:∀i j,R i j↔S i j){i:Nat}:bD G R i↔bD G S i:=by
 have e:R=S:=by funext i j;exact propext (h i j)
 rw [e]
theorem mK.closed{P0:Tb}(h:mK w B tp v P0 Bs Q wr)(hf:∀i k,k<i->i<Q.length->jI Q i k):xH Q:=by
 obtain ⟨h1,h2⟩:=h.inv.done hf;intro i j hij hi hj;have hA:=h.inv.ok.arity;rw [h.inv.gr] at *;have e:aZ Q=Cl (aV P0) Bs:=by funext i j;exact propext (h1 i j)
 rw [e] at *;exact uX (Cl.isDown _ _) h2 hA ((h1 i j).1 hij) hi hj
def iO(P:Tb)(a b i j:Nat):Prop:=(i=a/\j=b)\/aZ P i j
theorem aVp{P:Tb}(hok:gS P){a b:Nat}(ha:a<P.length)(hb:b<P.length):qP P (iO P a b) (fX P P[a].1.cls P[b].1.cls):=by
 refine ⟨aHr _ _ _,kT _ _ _,hok.join _ _ (hok.cls a ha),aHs (C:=Cl (aV P) (iO P a b)) (λi j h=>Cl.base (Or.inr h)) (λ_ _=>Cl.symm) (λ_ _ _=>Cl.trans) ha hb (Cl.base (Or.inl ⟨rfl,rfl⟩)),?_⟩;rintro i j (⟨rfl,rfl⟩ | h)
 ·exact aSv ha hb
 ·exact aHt h
theorem aVq(w:World)(a0 a1 a2 a3 d0 d1 d2 d3:Value)(T:TypeId):∃W1 W2,W1=w.alloc (.cells #[a0,a1,a2,a3] T)/\W2=W1.alloc (.cells #[d0,d1,d2,d3] T)/\Below w.heap.size w W1/\
  W2.cell? ⟨w.heap.size,0,none⟩=some a0/\W2.cell? ⟨w.heap.size,1,none⟩=some a1/\W2.cell? ⟨w.heap.size,2,none⟩=some a2/\W2.cell? ⟨w.heap.size,3,none⟩=some a3/\
  W2.cell? ⟨w.heap.size+1,0,none⟩=some d0/\W2.cell? ⟨w.heap.size+1,1,none⟩=some d1/\W2.cell? ⟨w.heap.size+1,2,none⟩=some d2/\W2.cell? ⟨w.heap.size+1,3,none⟩=some d3:=by
 refine ⟨_,_,rfl,rfl,(Below.refl _ _).alloc (zx _) _,?_,?_,?_,?_,?_,?_,?_,?_⟩ <;> simp
theorem aVr(B tp:Nat)(v:Value)(P:Tb)(a b:Nat)(ha:a<P.length)(hb:b<P.length)(w:World)(h:bU w B tp v P)(hok:gS P)(hf:P.length<=1000000)(hps:∀p∈P,p.1.parts.length<=1000000) :
  Calls Tryz.prog 44 #[.pointer (some ⟨tp,0,none⟩),.int .i64 a,.int .i64 b] w λe w'=>∃r,e=.returned r/\aVo P B tp v (iO P a b) r w'/\w.grownBy w' v.ownBlock:=by
 obtain ⟨o,cap,rfl,hc⟩:=h.shape;obtain ⟨g,rfl,q1,q2,q3,q4⟩:=hc a ha;clear hc q1 q2 q3 q4;have CJ:=aA (aHq B tp _ P a b ha hb w h hf);have HI0:=aA (aVp hok ha hb);have HPS:=aA hps;clear h hok hps;go_enter Tryz.func44,Tryz.ntmps44;go_wp2_with (first
  | (go_at_call 69;refine (aB CJ).mono ?_;rintro e w1 ⟨rfl,ht,hg⟩;have HS1:=aA (mK.mk (w:=w) ht HI0.out ((Sh.refl P).join _ _) hg);clear ht hg)
  | go_in)
 generalize fX P P[a].1.cls P[b].1.cls=Q1 at *;go_loopw [7] (λm wr=>∃(bb:Bool) (Q:Tb),m=.bool bb/\mK w B tp (.slice (some ⟨g,0,none⟩) P.length cap) P (iO P a b) Q wr/\(bb=false->∀i k,k<i->i<Q.length->jI Q i k)) (λm wr=>2*wV P.length (aA5 wr g P.length)+vO m);case atStart=>exact ⟨true,Q1,rfl,HS1.out,by simp⟩
 case round=>
  rename World=>wo
  obtain ⟨bb,Q,rfl,hS,hF⟩:=hrel;have hlen:=hS.sh.len;cases bb with
  | true=>
   have HS:=aA hS;clear hS hF;go_wp2;go_loopw [7,8] (λm i wi=>∃(bb:Bool) (k:Nat) (Q':Tb),k<=P.length/\m=.bool bb/\i=.int .i64 k/\mK w B tp (.slice (some ⟨g,0,none⟩) P.length cap) P (iO P a b) Q' wi/\nV P.length Q Q' bb (∀i' k',k'<i'->i'<k->jI Q i' k')) (λ_ i _=>P.length-(intOf i).toNat);case atStart=>exact ⟨false,0,Q,zw _,rfl,rfl,HS.out,nV.start _ _ (λi' k' h1 h2=>by omega)⟩
   case round=>
    rename World=>wi
    obtain ⟨bb,i,Q',hi,rfl,rfl,hS',hP⟩:=hrel;have c1:=hS'.tab.cell;by_cases hlt:i<P.length
    ·have hlti:(i:Int)<(P.length:Int):=by omega
     have HS1:=aA hS';have HP:=aA hP;clear hS' hP;go_wp2;go_loopw [7,9] (λm j wk=>∃(bb:Bool) (k:Nat) (Q':Tb),k<=i/\m=.bool bb/\j=.int .i64 k/\mK w B tp (.slice (some ⟨g,0,none⟩) P.length cap) P (iO P a b) Q' wk/\nV P.length Q Q' bb ((∀i' k',k'<i'->i'<i->jI Q i' k')/\∀k',k'<k->jI Q i k')) (λ_ j _=>i-(intOf j).toNat);case atStart=>exact ⟨bb,0,Q',zw _,rfl,rfl,HS1.out,HP.out.imp λ_ h=>⟨h,λk' h=>by omega⟩⟩
     case round=>
      rename World=>wk
      obtain ⟨bb,k,Q',hk,rfl,rfl,hS',hP⟩:=hrel;have c1:=hS'.tab.cell;by_cases hki:k<i
      ·have hkii:(k:Int)<(i:Int):=by omega
       have hkl:k<P.length:=by omega
       have hkli:(k:Int)<(P.length:Int):=by omega
       have hq:=hS'.sh.len;obtain ⟨o',cap',e',hc⟩:=hS'.tab.shape;simp at e';obtain ⟨rfl,hq',rfl⟩:=e';obtain ⟨g1,hg1,i0,i1,i2,i3⟩:=hc i (by omega);obtain ⟨g2,hg2,k0,k1,k2,k3⟩:=hc k (by omega);simp at hg1 hg2;subst hg1;subst hg2;clear hc hq';obtain ⟨si1,si2,si3⟩:=hS'.sh.row i hlt (by omega);obtain ⟨sk1,sk2,sk3⟩:=hS'.sh.row k hkl (by omega);obtain ⟨qi1,qi2,qi3⟩:=HS.out.sh.row i hlt (by omega);obtain ⟨qk1,qk2,qk3⟩:=HS.out.sh.row k hkl (by omega);have hpi:=hS'.tab.parts Q'[i] (zz _);have hpk:=hS'.tab.parts Q'[k] (zz _);rw [si1,si2] at hpi;rw [sk1,sk2] at hpk;obtain ⟨ai,ci,hvi,_⟩:=sO hpi;obtain ⟨ak,ck,hvk,_⟩:=sO hpk;have hli:=HPS.out P[i] (zz _);have hlk:=HPS.out P[k] (zz _);have hary:aF P[i].1.node=false->aF P[k].1.node=false->P[i].1.node=P[k].1.node->P[i].1.parts.length=P[k].1.parts.length:=λa1 a2 a3=>by
        have r1:=hS'.inv.ok.ary i (by omega) (by rw [si3];exact a1);have r2:=hS'.inv.ok.ary k (by omega) (by rw [sk3];exact a2);rw [si2,si3] at r1;rw [sk2,sk3] at r2;rw [a3] at r1;omega
       have HFA:=aA (show Q'[i].1.cls≠Q'[k].1.cls->Q'=Q->jI Q i k from λhne e=>by
        subst e;intro _ _ e1;exact absurd e1 hne)
       have HFB:=aA (show aF P[i].1.node=true\/aF P[k].1.node=true->jI Q i k from λhor _ _ _ e1 e2=>by
        rw [qi3] at e1;rw [qk3] at e2;rcases hor with h | h
        ·rw [h] at e1;cases e1
        ·rw [h] at e2;cases e2)
       have HFE:=aA (show P[i].1.node=P[k].1.node->(∀p q r:Nat,P[i].1.parts[p]?=some q->P[k].1.parts[p]?=some r->aZ Q q r)->jI Q i k from λhn hp _ _ _ _ _=>by
        rw [qi3,qk3,qi2,qk2];exact ⟨hn,hp⟩)
       have HCL:=aA (show Q'[i].1.cls=Q'[k].1.cls->aF P[i].1.node=false->aF P[k].1.node=false->P[i].1.node≠P[k].1.node->¬dW (aV P) (Cl (aV P) (iO P a b)) from λe v1 v2 hn=>hS'.inv.clash (by omega) (by omega) e (by rw [si3];exact v1) (by rw [sk3];exact v2) (by rw [si3,sk3];exact hn));have HCD:=aA (show Q'[i].1.cls=Q'[k].1.cls->aF P[i].1.node=false->aF P[k].1.node=false->∀q u v:Nat,P[i].1.parts[q]?=some u->P[k].1.parts[q]?=some v->Cl (aV P) (iO P a b) u v from λe v1 v2 q u v h1 h2=>Cl.down (hS'.inv.sound i k ((aZ.iff (by omega) (by omega)).2 e)) (aA0 hlt v1) (aA0 hkl v2) (by rw [pF P i hlt];exact h1) (by rw [pF P k hkl];exact h2));have hgs:g<wk.heap.size:=aC8 hS'.tab.row rfl;have HBX:=aA (λ(o1 o2:Obj)=>hS'.below (((Below.refl wk.heap.size wk).alloc (zx _) o1).alloc (by simp) o2));rw [si3] at i0 i1;rw [sk3] at k0 k1;rw [si1,hvi] at i2;rw [sk1,hvk] at k2;have HVI:=aA hvi;have HVK:=aA hvk;have HARY:=aA hary;have HS2:=aA hS';have HP2:=aA hP;clear si1 si2 si3 sk1 sk2 sk3 qi1 qi2 qi3 qk1 qk2 qk3 hpi hpk hvi hvk hary hS' hP;generalize Q'[i].1.cls=cli at *;generalize Q'[k].1.cls=clk at *;generalize hni:P[i].1.node=ni at *;generalize hnk:P[k].1.node=nk at *;obtain ⟨s1,x1⟩:=ni;obtain ⟨s2,x2⟩:=nk;simp only at i0 i1 k0 k1;clear hni hnk;generalize hpli:P[i].1.parts=li at *;generalize hplk:P[k].1.parts=lk at *;obtain ⟨W1,W2,hW1,hW2,hB1,b10,b11,b12,b13,b20,b21,b22,b23⟩:=aVq wk (.string s1) (.int .i64 x1) (.slice ai li.length ci) (.int .i64 cli) (.string s2) (.int .i64 x2) (.slice ak lk.length ck) (.int .i64 clk) 94;subst hW2;subst hW1;have c2:=Below.at' hB1 (zx _) c1;have m0:=Below.at' hB1 (zx _) k0;have m1:=Below.at' hB1 (zx _) k1;have m2:=Below.at' hB1 (zx _) k2;have m3:=Below.at' hB1 (zx _) k3;clear hB1;have HFK:Hid (∀(F:jI Q i k) (h:(∀i' k',k'<i'->i'<i->jI Q i' k')/\∀k',k'<k->jI Q i k'),(∀i' k',k'<i'->i'<i->jI Q i' k')/\∀k',k'<k+1->jI Q i k'):=aA (λF h=>⟨h.1,λk' hk'=>by
        by_cases hkk:k'<k
        ·exact h.2 k' hkk
        ·have:k'=k:=by omega
         subst this;exact F⟩)
       by_cases hcc:cli=clk
       ·subst hcc;by_cases hv1:s1.toList.isEmpty=true
        ·go_wp2;go_roundw;case rel=>exact ⟨bb,k+1,Q',by omega,rfl,by go_num,HBX.out _ _,HP2.out.imp λe h=>HFK.out (HFB.out (Or.inl hv1)) h⟩
         case measure=>simp [intOf];omega
        ·by_cases hv2:s2.toList.isEmpty=true
         ·go_wp2;go_roundw;case rel=>exact ⟨bb,k+1,Q',by omega,rfl,by go_num,HBX.out _ _,HP2.out.imp λe h=>HFK.out (HFB.out (Or.inr hv2)) h⟩
          case measure=>simp [intOf];omega
         ·have n1:aF (s1,x1)=false:=by simpa [aF] using hv1
          have n2:aF (s2,x2)=false:=by simpa [aF] using hv2
          have hqn:=rR s1 s2 x1 x2;have hnb:=rQ (s1,x1) (s2,x2);simp only at hnb;by_cases he:(s1,x1)=(s2,x2)
          ·rw [decide_eq_true he] at hnb;have hll:=HARY.out n1 n2 he;have hll1:li.length<=lk.length:=by omega
           have hll2:lk.length<=li.length:=by omega
           clear hll;have HCC:=aA (HCD.out rfl n1 n2);have HFF:=aA (HFE.out he);have HSB:=aA (HBX.out (.cells #[.string s1,.int .i64 x1,.slice ai li.length ci,.int .i64 cli] 94) (.cells #[.string s2,.int .i64 x2,.slice ak lk.length ck,.int .i64 cli] 94));clear he n1 n2;go_wp2;clear m0 m1 m2 m3 i0 i1 i2 i3 k0 k1 k2 k3;go_loopw [7,12] (λm p wp=>∃(bb:Bool) (q:Nat) (Q3:Tb),q<=li.length/\m=.bool bb/\p=.int .i64 q/\mK w B tp (.slice (some ⟨g,0,none⟩) P.length cap) P (iO P a b) Q3 wp/\nV P.length Q Q3 bb (((∀i' k',k'<i'->i'<i->jI Q i' k')/\∀k',k'<k->jI Q i k')/\∀p',p'<q->∀u v:Nat,li[p']?=some u->lk[p']?=some v->aZ Q u v)/\wp.cell? ⟨wk.heap.size,2,none⟩=some (.slice ai li.length ci)/\wp.cell? ⟨wk.heap.size+1,2,none⟩=some (.slice ak lk.length ck)) (λ_ p _=>li.length-(intOf p).toNat);case atStart=>exact ⟨bb,0,Q',zw _,rfl,rfl,HSB.out,HP2.out.imp λ_ h=>⟨h,λp' h=>by omega⟩,b12,b22⟩
           case round=>
            rename World=>wp
            obtain ⟨bb,q,Q3,hq3,rfl,rfl,hS3,hP3,d1,d2⟩:=hrel;by_cases hql:q<li.length
            ·have hqli:(q:Int)<(li.length:Int):=by omega
             have hqlk:(q:Int)<(lk.length:Int):=by omega
             have hl3:=hS3.sh.len;obtain ⟨si1,si2,_⟩:=hS3.sh.row i hlt (by omega);obtain ⟨sk1,sk2,_⟩:=hS3.sh.row k hkl (by omega);have hpi:=hS3.tab.parts Q3[i] (zz _);have hpk:=hS3.tab.parts Q3[k] (zz _);have hui:=hS3.inv.ok.parts i (by omega);have hvk:=hS3.inv.ok.parts k (by omega);rw [si1,si2,hpli] at hpi;rw [sk1,sk2,hplk] at hpk;rw [si2,hpli] at hui;rw [sk2,hplk] at hvk;obtain ⟨ai',ci',hvi,hci⟩:=sO hpi;obtain ⟨ak',ck',hvk',hck⟩:=sO hpk;rw [HVI.out] at hvi;rw [HVK.out] at hvk';simp at hvi hvk';obtain ⟨rfl,rfl⟩:=hvi;obtain ⟨rfl,rfl⟩:=hvk';have hg5:=bW hpi hS3.tab.row (by decide);have hg6:=bW hpk hS3.tab.row (by decide);obtain ⟨g5,rfl,e5⟩:=hci q hql;obtain ⟨g6,rfl,e6⟩:=hck q (by omega);have hu:=hui li[q] (zz _);have hv:=hvk lk[q] (zz _);have hcl:=HCC.out q li[q] lk[q] (zy hql) (zy (by omega));have CJ2:=aA (λ(wx:World) (hx:∃n,wx=wp.drewN n)=>aHq B tp _ Q3 li[q] lk[q] hu hv wx (by obtain ⟨n,rfl⟩:=hx;exact hS3.tab.drewN n) (by omega));have HSJ:=aA (λ(wx wy:World) (hx:∃n,wx=wp.drewN n) (ht:bU wy B tp _ _) (hg:wx.grownBy wy _)=>(hS3.below (aI hx)).join hu hv hcl ht hg);have HPJ:=aA (hP3.join (F':=((∀i' k',k'<i'->i'<i->jI Q i' k')/\∀k',k'<k->jI Q i k')/\∀p',p'<q+1->∀u v:Nat,li[p']?=some u->lk[p']?=some v->aZ Q u v) hS3.inv.ok hl3 hu hv (λe h hr=>⟨h.1,λp' hp' u v h1 h2=>by
              by_cases hpp:p'<q
              ·exact h.2 p' hpp u v h1 h2
              ·have:p'=q:=by omega
               subst this;rw [zy hql] at h1;rw [zy (by omega)] at h2;simp at h1 h2;subst h1;subst h2;rw [<-e];exact hr⟩))
             generalize hnn:decide (Q3[li[q]].1.cls≠Q3[lk[q]].1.cls)=nn at *;generalize fX Q3 Q3[li[q]].1.cls Q3[lk[q]].1.cls=Q4 at *;generalize li[q]=u at *;generalize lk[q]=v at *;have hg5':g5≠g:=by rintro rfl;rw [HVI.out] at hg5;simp [Value.ownBlock] at hg5
             have hg6':g6≠g:=by rintro rfl;rw [HVK.out] at hg6;simp [Value.ownBlock] at hg6
             clear hg5 hg6;have HD:=aA (show ∀wx wy,(∃n,wx=wp.drewN n)->wx.grownBy wy (some g)->wy.cell? ⟨wk.heap.size,2,none⟩=some (.slice (some ⟨g5,0,none⟩) li.length ci)/\wy.cell? ⟨wk.heap.size+1,2,none⟩=some (.slice (some ⟨g6,0,none⟩) lk.length ck)/\wy.cell? ⟨g5,q,none⟩=some (.int .i64 u)/\wy.cell? ⟨g6,q,none⟩=some (.int .i64 v) from λwx wy hx hg=>by
              obtain ⟨n,rfl⟩:=hx;exact ⟨hg.cell (w:=wp.drewN n) d1 (by simp;omega),hg.cell (w:=wp.drewN n) d2 (by simp;omega),hg.cell (w:=wp.drewN n) e5 (by simp;omega),hg.cell (w:=wp.drewN n) e6 (by simp;omega)⟩)
             clear hnn hpi hpk hui hvk hci hck si1 si2 sk1 sk2 hS3 hP3 hcl hu hv;cases bb with
             | true=>
              go_wp2_with fail;go_region_held3 (λw'=>w'.cell? ⟨wk.heap.size,2,none⟩=some (.slice (some ⟨g5,0,none⟩) li.length ci)/\w'.cell? ⟨wk.heap.size+1,2,none⟩=some (.slice (some ⟨g6,0,none⟩) lk.length ck)/\w'.cell? ⟨g5,q,none⟩=some (.int .i64 u)/\w'.cell? ⟨g6,q,none⟩=some (.int .i64 v)) (go_keep)
               ((go_at_call 69;refine (aB CJ2 _ (by first | exact ⟨0,rfl⟩ | exact ⟨1,rfl⟩ | exact ⟨_,rfl⟩)).mono ?_;rintro e w4 ⟨rfl,ht4,hg4⟩;have HS4:=aA (HSJ.out _ w4 (by first | exact ⟨0,rfl⟩ | exact ⟨1,rfl⟩ | exact ⟨_,rfl⟩) ht4 hg4);obtain ⟨c0,c1,c2,c3⟩:=HD.out _ w4 (by first | exact ⟨0,rfl⟩ | exact ⟨1,rfl⟩ | exact ⟨_,rfl⟩) hg4;clear ht4 hg4))
              all_goals
               go_wp2;go_roundw;case rel=>exact ⟨true,q+1,Q4,by omega,rfl,by go_num,HS4.out,by simpa using HPJ.out,c0,c1⟩
               case measure=>simp [intOf];omega
             | false=>
              go_wp2_with fail;go_region_held3 (λw'=>w'.cell? ⟨wk.heap.size,2,none⟩=some (.slice (some ⟨g5,0,none⟩) li.length ci)/\w'.cell? ⟨wk.heap.size+1,2,none⟩=some (.slice (some ⟨g6,0,none⟩) lk.length ck)/\w'.cell? ⟨g5,q,none⟩=some (.int .i64 u)/\w'.cell? ⟨g6,q,none⟩=some (.int .i64 v)) (go_keep)
               ((go_at_call 69;refine (aB CJ2 _ (by first | exact ⟨0,rfl⟩ | exact ⟨1,rfl⟩ | exact ⟨_,rfl⟩)).mono ?_;rintro e w4 ⟨rfl,ht4,hg4⟩;have HS4:=aA (HSJ.out _ w4 (by first | exact ⟨0,rfl⟩ | exact ⟨1,rfl⟩ | exact ⟨_,rfl⟩) ht4 hg4);obtain ⟨c0,c1,c2,c3⟩:=HD.out _ w4 (by first | exact ⟨0,rfl⟩ | exact ⟨1,rfl⟩ | exact ⟨_,rfl⟩) hg4;clear ht4 hg4))
              all_goals
               go_wp2;go_roundw;case rel=>exact ⟨nn,q+1,Q4,by omega,rfl,by go_num,HS4.out,by simpa using HPJ.out,c0,c1⟩
               case measure=>simp [intOf];omega
            ·have hqli:¬((q:Int)<(li.length:Int)):=by omega
             have HS3:=aA hS3;have HP3:=aA hP3;have hqe:q=li.length:=by omega
             clear hS3 hP3;go_wp2;go_roundw;case rel=>exact ⟨bb,k+1,Q3,by omega,rfl,by go_num,HS3.out,HP3.out.imp λe h=>HFK.out (HFF.out λp u v h1 h2=>h.2 p (by
              have:=(List.getElem?_eq_some_iff.1 h1).1;omega) u v h1 h2) h.1⟩
             case measure=>simp [intOf];omega
          ·rw [decide_eq_false he] at hnb;have HNC:=aA (HCL.out rfl n1 n2 he);clear he n1 n2;go_wp2;go_ret;exact ⟨_,rfl,⟨false,rfl,⟨by simp,λh=>absurd h.1 HNC.out⟩,by simp⟩,(HBX.out _ _).far⟩
       ·have hcc':¬((cli:Int)=(clk:Int)):=by omega
        go_wp2;go_roundw;case rel=>exact ⟨bb,k+1,Q',by omega,rfl,by go_num,HBX.out _ _,HP2.out.imp λe h=>HFK.out (HFA.out hcc e) h⟩
        case measure=>simp [intOf];omega
      ·have hkii:¬((k:Int)<(i:Int)):=by omega
       have HS2:=aA hS';have HP2:=aA hP;clear hS' hP;go_wp2;go_roundw;case rel=>
        refine ⟨bb,i+1,Q',by omega,rfl,by go_num,HS2.out,HP2.out.imp λ_ h i' k' h1 h2=>?_⟩;by_cases hii:i'<i
        ·exact h.1 i' k' h1 hii
        ·have:i'=i:=by omega
         subst this;exact h.2 k' (by omega)
       case measure=>simp [intOf];omega
    ·have hlti:¬((i:Int)<(P.length:Int)):=by omega
     have HS1:=aA hS';have HP:=aA hP;clear hS' hP;go_wp2;go_roundw;case rel=>exact ⟨bb,Q',rfl,HS1.out,λe i' k' h1 h2=>by
      obtain ⟨rfl,h⟩:=HP.out.2.2 e;exact h i' k' h1 (by omega)⟩
     case measure=>
      rw [aJf HS.out.tab HS.out.sh.len,aJf HS1.out.tab HS1.out.sh.len];have h1:=HP.out.1;unfold cN at h1;cases bb with
      | true=>have h2:=HP.out.2.1 rfl;unfold cN at h2;simp [vO];omega
      | false=>simp [vO];omega
  | false=>
   have hFF:=hF rfl;have hcl:=hS.closed hFF;have CE:=aA (aVf B tp _ Q wo hS.tab (by omega) hS.inv.ok hcl (λp hp=>by
    obtain ⟨i,hi,rfl⟩:=List.getElem_of_mem hp;rw [(hS.sh.row i (by omega) hi).2.1];exact HPS.out _ (zz _)))
   have HS:=aA hS;have HFF:=aA hFF;clear hS hF hFF hcl;go_wp2_with (first
    | (go_at_call 70;refine (aB CE).mono ?_;rintro e w2 ⟨r,rfl,hr,hb2⟩;have HR:=aA hr;have HB2:=aA hb2;clear hr hb2)
    | go_in)
   go_ret;obtain ⟨bb,rfl,hbb⟩:=HR.out;obtain ⟨h1,h2⟩:=HS.out.inv.done HFF.out;refine ⟨_,rfl,⟨bb,rfl,?_,λ_=>⟨Q,HS.out.tab.below HB2.out,HS.out.sh,HS.out.inv.gr,HS.out.inv.ok,h1⟩⟩,HS.out.far.trans (aJe HB2.out)⟩;rw [hbb,HS.out.inv.gr,HS.out.inv.len];exact ⟨λh=>⟨h2,λi hi=>(bD.iff h1).1 (h i hi)⟩,λh i hi=>(bD.iff h1).2 (h.2 i hi)⟩
attribute [local go_sem] Oper.semAt_some
def mL(c:List Lt)(i:Nat):Option Nd:=(c[i]?).bind λx=>x.2[0]?
def lN(c d:List Lt)(i m:Nat):List (Nat×Nat):=((zs m).filter λj=>decide (mL c i=mL d j)).map λj=>(i,j)
def mM(c d:List Lt)(m:Nat):List (Nat×Nat):=(zs m).flatMap λi=>lN c d i d.length
def kH(c d:List Lt):List (Nat×Nat):=mM c d c.length
theorem aD6(c d:List Lt)(m:Nat):mM c d (m+1)=mM c d m++lN c d m d.length:=by simp [mM,List.range_succ]
theorem aA6(c d:List Lt)(i m:Nat):lN c d i (m+1)=lN c d i m++if mL c i=mL d m then [(i,m)] else []:=by
 unfold lN;rw [List.range_succ,List.filter_append,List.map_append];congr 1
 by_cases h:mL c i=mL d m <;> simp [h]
theorem aVs(c d:List Lt){m n:Nat}(h:m<=n):mM c d m <+: mM c d n:=by
 obtain ⟨k,rfl⟩ : ∃k,n=m+k:=⟨n-m,by omega⟩;clear h;induction k with
 | zero=>exact zt _
 | succ k ih=>rw [<-Nat.add_assoc,aD6];exact ih.trans (zv _ _)
theorem aVt(c d:List Lt)(i:Nat){m n:Nat}(h:m<=n):lN c d i m <+: lN c d i n:=by
 obtain ⟨k,rfl⟩ : ∃k,n=m+k:=⟨n-m,by omega⟩;clear h;induction k with
 | zero=>exact zt _
 | succ k ih=>rw [<-Nat.add_assoc,aA6];exact ih.trans (zv _ _)
theorem aVu{i j:Nat}(hi:i<c.length)(hj:j<d.length)(h:mL c i=mL d j):(kH c d)[(mM c d i++lN c d i j).length]?=some (i,j):=by have h1:lN c d i (j+1) <+: lN c d i d.length:=aVt c d i (by omega);have h2:mM c d (i+1) <+: kH c d:=aVs c d (by omega);rw [aA6,if_pos h] at h1;rw [aD6] at h2;obtain ⟨t1,e1⟩:=h1;obtain ⟨t2,e2⟩:=h2;rw [<-e2,<-e1];simp
def bT:List TypeId:=[119,147,116]
structure oP(B:Nat)(W:World)(b1 b2:Nat)(v1 v2:Value)(c d:List Lt):Prop where
 x1:Boxed W b1 22 v1
 x2:Boxed W b2 22 v2
 m1:bM B W v1 c
 m2:bM B W v2 d
theorem oP.kept{W W':World}{b1 b2:Nat}{v1 v2:Value}(h:oP B W b1 b2 v1 v2 c d)(k:dD bT W W'):oP B W' b1 b2 v1 v2 c d:=
 ⟨k.boxed h.x1 (by decide),k.boxed h.x2 (by decide),k.clause h.m1 (by decide) (by decide),k.clause h.m2 (by decide) (by decide)⟩
theorem oP.drawn{W:World}{b1 b2:Nat}{v1 v2:Value}(h:oP B W b1 b2 v1 v2 c d)(k:Nat):oP B (W.drewN k) b1 b2 v1 v2 c d:=
 h.kept (Mv.of_below (S:=bT) (B:=0) (aI ⟨k,rfl⟩)).kps
theorem aJg{J:Nat->World->Prop}{N:Nat}(h:OwnFrom N J){s:Nat}{w:World}(hJ:J s w)(d:Nat):J s (w.drewN d):=
 h s w _ none hJ ⟨rfl,rfl,rfl,zx _,λ_ _ _=>rfl⟩ (λr e=>by cases e)
theorem aJh{i:Nat}(hi:i<c.length)(h:0<c[i].2.length):mL c i=some c[i].2[0]:=by unfold mL;rw [zy hi];simp [zy h]
theorem aJi(n b1 b2 B:Nat)(v1 v2:Value)(c d:List Lt)(hn:1<=n)(nc:jH c)(nd:jH d)(W:World)(hW:oP B W b1 b2 v1 v2 c d) :
  tU Fence.wide n Tryz.prog 149 #[.pointer (some ⟨b1,0,none⟩),.pointer (some ⟨b2,0,none⟩)] (λ(x:Nat×Nat) args _=>args=#[.int .i64 x.1,.int .i64 x.2]) bT (kH c d) W:=by
 intro l J Jx hJ hJx hY h0;have hc8:=nc.len;have hd8:=nd.len;have HY:=aA hY;have HJ:=aA hJ;clear hY hJ;refine callsIn_of_wp Tryz.func149 rfl trivial ?_;simp only [Tryz.ntmps149,List.size_toArray,List.length_cons,List.length_nil,Nat.reduceAdd,Nat.reduceSub,Array.replicate_succ,Array.replicate_zero,List.push_toArray,List.append_toArray,List.nil_append,List.cons_append];obtain ⟨a1,c1,rfl,_,L1,_⟩:=hW.m1.lits nc;obtain ⟨a2,c2,rfl,_,L2,_⟩:=hW.m2.lits nd;have e1:=hW.x1.cell;have HW:=aA hW;clear hW L1 L2;gi_wp2
 clear e1;gi_loopw [8] (λp wr=>∃i:Nat,i<=c.length/\p=.int .i64 i/\oP B wr b1 b2 (.slice a1 c.length c1) (.slice a2 d.length c2) c d/\J (mM c d i).length wr) (λp _=>c.length-(intOf p).toNat)
 case atStart=>exact ⟨0,zw _,by go_num,HW.out,by simpa [mM] using h0⟩
 case round=>
  obtain ⟨i,hi,rfl,hI,hJs⟩:=hrel;have f2:=hI.x2.cell;have HI:=aA hI;have HJS:=aA hJs;clear hI hJs;by_cases hlt:i<c.length
  ·have hlti:(i:Int)<(c.length:Int):=by omega
   gi_wp2
   clear f2;gi_loopw [13] (λp wr=>∃j:Nat,j<=d.length/\p=.int .i64 j/\oP B wr b1 b2 (.slice a1 c.length c1) (.slice a2 d.length c2) c d/\J (mM c d i++lN c d i j).length wr) (λp _=>d.length-(intOf p).toNat)
   case atStart=>exact ⟨0,zw _,by go_num,HI.out,by simpa [lN] using HJS.out⟩
   case round=>
    obtain ⟨j,hj,rfl,hI,hJs⟩:=hrel;by_cases hltj:j<d.length
    ·have hltji:(j:Int)<(d.length:Int):=by omega
     obtain ⟨a1',c1',ea,_,L1,_⟩:=hI.m1.lits nc;obtain ⟨a2',c2',eb,_,L2,_⟩:=hI.m2.lits nd;cases ea;cases eb;obtain ⟨g1,o1,aa,ac,rfl,k1,k2,k3⟩:=L1.cell i hlt;obtain ⟨g2,o2,ba,bc,rfl,q1,q2,q3⟩:=L2.cell j hltj;have hx0:=(nc.nodes (zz hlt)).2.1;have hy0:=(nd.nodes (zz hltj)).2.1;obtain ⟨g3,o3,rfl,s1,s2⟩:=k3.cell 0 hx0;obtain ⟨g4,o4,rfl,t1,t2⟩:=q3.cell 0 hy0;have hx1:=aJh hlt hx0;have hy1:=aJh hltj hy0;have e1:=hI.x1.cell;have e2:=hI.x2.cell;generalize hxe:c[i].2[0]=xe at *;generalize hye:d[j].2[0]=ye at *;obtain ⟨xs,xn⟩:=xe;obtain ⟨ys,yn⟩:=ye;simp only [Nat.zero_mul,Nat.add_zero] at s1 s2 t1 t2;have hm1:(0:Int)<(c[i].2.length:Int):=by omega
     have hm2:(0:Int)<(d[j].2.length:Int):=by omega
     clear hxe hye hx0 hy0 k3 q3 L1 L2;generalize c[i].2.length=m1 at *;generalize d[j].2.length=m2 at *;have hqn:=rR xs ys xn yn;have hqg:=tJ;have hnbq:=rQ (xs,xn) (ys,yn);simp only at hnbq;have HI:=aA hI;have HJS:=aA hJs;clear hI hJs k1 q1;by_cases hll:(xs,xn)=(ys,yn)
     ·rw [decide_eq_true hll] at hnbq;have hmix:Tryz.prog.follows .mixedOrders=true:=by kernel_rfl
      have hhd:mL c i=mL d j:=by rw [hx1,hy1,hll]
      gi_wp2
      refine aDx [_,_,_,_,_,_,_,_,_,_,_,_,_,_,_,_,_,_,_] [_,_,_] rfl (aKz rfl) hmix (by kernel_rfl) (by kernel_rfl) ?_;repeat (gi_big_quiet_step (fail))
      refine wpQuietIn_nil ?_;rintro _ ⟨nq,rfl⟩;obtain ⟨fn,tmps,assign,body,hy,hR⟩:=HY.out _ (i,j) #[.int .i64 i,.int .i64 j] (wr.drewN nq) (aVu hlt hltj hhd) (aJg HJ.out HJS.out nq) rfl;refine wpAnyIn_ready (rs:=[19]) (by kernel_rfl) (by simp) ?_;refine AllReadyIn.cons rfl (λK hK=>?_) AllReadyIn.nil;go_simp;refine hR.mono ?_;rintro e W3 (⟨rfl,hJ3,hk3⟩ | ⟨rfl,hJx3,_⟩)
      ·refine hK _ _ ?_;clear hK K;refine wpAnyIn_ready (rs:=[20]) (by kernel_rfl) (by simp) ?_;refine AllReadyIn.cons rfl (λK hK=>?_) AllReadyIn.nil;go_simp;refine hK _ _ ?_;clear hK K;refine wpAnyIn_ready (rs:=[21]) (by kernel_rfl) (by simp) ?_;refine AllReadyIn.cons rfl (λK hK=>?_) AllReadyIn.nil;go_simp;refine hK _ _ ?_;clear hK K;refine wpAnyIn_done (by kernel_rfl) ?_ _;gi_wp2
       go_roundw;case rel=>exact ⟨j+1,by omega,by go_num,(HI.out.drawn nq).kept hk3.1,by rw [aA6,if_pos hhd,<-List.append_assoc,List.length_append];exact hJ3⟩
       case measure=>simp [intOf];omega
      ·refine hK _ _ ?_;clear hK K;refine wpAnyIn_ready (rs:=[20]) (by kernel_rfl) (by simp) ?_;refine AllReadyIn.cons rfl (λK hK=>?_) AllReadyIn.nil;go_simp;refine hK _ _ ?_;clear hK K;refine wpAnyIn_ready (rs:=[21]) (by kernel_rfl) (by simp) ?_;refine AllReadyIn.cons rfl (λK hK=>?_) AllReadyIn.nil;go_simp;refine hK _ _ ?_;clear hK K;refine wpAnyIn_done (by kernel_rfl) ?_ _;gi_wp2
       refine bodyPost_ret (results_none rfl _ _ _) rfl ?_;exact ⟨⟨_,rfl⟩,.inr ⟨_,hJx3⟩⟩
     ·rw [decide_eq_false hll] at hnbq;have hmix:Tryz.prog.follows .mixedOrders=true:=by kernel_rfl
      gi_wp2
      refine aDx [_,_,_,_,_,_,_,_,_,_,_,_,_,_,_,_,_,_,_] [_,_,_] rfl (aKz rfl) hmix (by kernel_rfl) (by kernel_rfl) ?_;repeat (gi_big_quiet_step (fail))
      refine wpQuietIn_nil ?_;rintro _ ⟨nq,rfl⟩;refine wpAnyIn_ready (rs:=[19]) (by kernel_rfl) (by simp) ?_;refine AllReadyIn.cons rfl (λK hK=>?_) AllReadyIn.nil;go_simp;refine ⟨λ_ _=>trivial,hK _ _ ?_⟩;clear hK K;refine wpAnyIn_ready (rs:=[20]) (by kernel_rfl) (by simp) ?_;refine AllReadyIn.cons rfl (λK hK=>?_) AllReadyIn.nil;go_simp;refine hK _ _ ?_;clear hK K;refine wpAnyIn_ready (rs:=[21]) (by kernel_rfl) (by simp) ?_;refine AllReadyIn.cons rfl (λK hK=>?_) AllReadyIn.nil;go_simp;refine hK _ _ ?_;clear hK K;refine wpAnyIn_done (by kernel_rfl) ?_ _;gi_wp2
      go_roundw;case rel=>exact ⟨j+1,by omega,by go_num,HI.out.drawn nq,by rw [aA6,if_neg (by rw [hx1,hy1];intro e;exact hll (Option.some.inj e)),List.append_nil];exact aJg HJ.out HJS.out nq⟩
      case measure=>simp [intOf];omega
    ·have hltji:¬(j:Int)<(d.length:Int):=by omega
     have hjd:j=d.length:=by omega
     have HI:=aA hI;have HJS:=aA hJs;clear hI hJs;gi_wp2
     go_roundw;case rel=>exact ⟨i+1,by omega,by go_num,HI.out,by rw [aD6,<-hjd];exact HJS.out⟩
     case measure=>simp [intOf];omega
  ·have hlti:¬(i:Int)<(c.length:Int):=by omega
   have hic:i=c.length:=by omega
   gi_wp2
   go_end0;exact ⟨⟨_,rfl⟩,.inl (by unfold kH;rw [<-hic];exact HJS.out)⟩
end Go.Proofs.YtcldkjcpofjmhaaGreatDoor
