import Derived.Test.YtcldkjcpofjmhaaGreatDoorUForM
import Derived.Test.YtcldkjcpofjmhaaGreatDoorONumberM
open List renaming getElem_mem→zz,getElem?_eq_getElem→zy
open Nat renaming le_refl→zx,zero_le→zw
namespace Go.Proofs.YtcldkjcpofjmhaaGreatDoor
set_option maxHeartbeats 8000000
set_option maxRecDepth 100000
open Go.RowKit Go.Shelf Go.WideMaps
structure Sh(P Q:Tb):Prop where
 len:Q.length=P.length
 row:∀i (h:i<P.length) (h':i<Q.length),Q[i].2=P[i].2/\Q[i].1.parts=P[i].1.parts/\Q[i].1.node=P[i].1.node
theorem Sh.refl(P:Tb):Sh P P:=⟨rfl,λ_ _ _=>⟨rfl,rfl,rfl⟩⟩
theorem Sh.join{P Q:Tb}(h:Sh P Q)(x y:Nat):Sh P (fO Q x y):=by
 refine ⟨by rw [kM,h.len],λi hi hi'=>?_⟩;have hq:i<Q.length:=by rw [h.len];exact hi
 rw [mU Q x y i hq];obtain ⟨a,b,c⟩:=uK x y Q[i];obtain ⟨d,e,f⟩:=h.row i hi hq;exact ⟨a.trans d,b.trans e,c.trans f⟩
structure mG(w:World)(B tp:Nat)(v:Value)(P0:Tb)(Bs:Nat->Nat->Prop)(Q:Tb)(wr:World):Prop where
 tab:bT wr B tp v Q
 inv:pZ P0 Bs Q
 sh:Sh P0 Q
 far:w.grownBy wr v.ownBlock
theorem aJ7{w w':World}{o:Option Nat}(h:Below w.heap.size w w'):w.grownBy w' o:=⟨h.os,h.tape,h.output,h.size,λk hk _=>h.block k hk⟩
theorem mG.below{w:World}{B tp:Nat}{v:Value}{P0:Tb}{Bs:Nat->Nat->Prop}{Q:Tb}{wr wx:World}(h:mG w B tp v P0 Bs Q wr)(k:Below wr.heap.size wr wx):mG w B tp v P0 Bs Q wx:=⟨h.tab.below k,h.inv,h.sh,h.far.trans (aJ7 k)⟩
theorem mG.join{w:World}{B tp:Nat}{v:Value}{P0:Tb}{Bs:Nat->Nat->Prop}{Q:Tb}{wr wx:World}(h:mG w B tp v P0 Bs Q wr){a b:Nat}(ha:a<Q.length)(hb:b<Q.length)(hc:Cl (aV P0) Bs a b)(ht:bT wx B tp v (fO Q Q[a].1.cls Q[b].1.cls))(hg:wr.grownBy wx v.ownBlock):mG w B tp v P0 Bs (fO Q Q[a].1.cls Q[b].1.cls) wx:=
 ⟨ht,h.inv.join ha hb hc,h.sh.join _ _,h.far.trans hg⟩
def cN(n:Nat)(Q:Tb):Nat:=wG n (Q.map λp=>p.1.cls)
def nR(n:Nat)(Q0 Q:Tb)(b:Bool)(F:Prop):Prop:=cN n Q<=cN n Q0/\(b=true->cN n Q<cN n Q0)/\(b=false->Q=Q0/\F)
theorem nR.start(n:Nat)(Q:Tb){F:Prop}(h:F):nR n Q Q false F:=⟨zx _,by simp,λ_=>⟨rfl,h⟩⟩
theorem nR.imp{n:Nat}{Q0 Q:Tb}{b:Bool}{F F':Prop}(h:nR n Q0 Q b F)(k:Q=Q0->F->F'):nR n Q0 Q b F':=⟨h.1,h.2.1,λe=>⟨(h.2.2 e).1,k (h.2.2 e).1 (h.2.2 e).2⟩⟩
theorem nR.join{n:Nat}{Q0 Q:Tb}{b:Bool}{F F':Prop}(h:nR n Q0 Q b F)(hok:gP Q)(hn:Q.length=n){u v:Nat}(hu:u<Q.length)(hv:v<Q.length)(k:Q=Q0->F->aZ Q u v->F') :
  nR n Q0 (fO Q Q[u].1.cls Q[v].1.cls) (b || decide (Q[u].1.cls≠Q[v].1.cls)) F':=by
 by_cases e:Q[u].1.cls=Q[v].1.cls
 ·have ej:fO Q Q[u].1.cls Q[v].1.cls=Q:=by rw [e,aG3]
  rw [ej];simp only [e,ne_eq,not_true_eq_false,decide_false,Bool.or_false];exact h.imp λh1 h2=>k h1 h2 ((aZ.iff hu hv).2 e)
 ·have hl:=aPw hok hu hv e;rw [hn] at hl;have h1:=h.1;refine ⟨?_,λ_=>?_,λhb=>?_⟩
  ·unfold cN at *;omega
  ·unfold cN at *;omega
  ·simp [e] at hb
def zZ(w:World)(g n:Nat):List Nat:=(List.range n).map λi=>match w.cell? ⟨g,i*4+3,none⟩ with | some (.int _ x)=>x.toNat | _=>0
theorem aJ8{w:World}{B tp g n cap:Nat}{Q:Tb}(h:bT w B tp (.slice (some ⟨g,0,none⟩) n cap) Q)(hn:Q.length=n):zZ w g n=Q.map λp=>p.1.cls:=by
 obtain ⟨a,cap',e,hc⟩:=h.shape;simp at e;obtain ⟨rfl,_⟩:=e;apply List.ext_getElem?;intro k;by_cases hk:k<n
 ·obtain ⟨g',hg,_,_,_,h4⟩:=hc k (by omega);simp at hg;subst hg;simp [zZ,hk,h4,show k<Q.length by omega]
 ·have hq:Q.length<=k:=by omega
  simp [zZ,hk,hq]
structure aV2(P:Tb)(B tp:Nat)(v:Value)(Bs:Nat->Nat->Prop)(r:Value)(w':World):Prop where
 yes:∃b:Bool,r=.bool b/\(b=true↔eW (aV P) (Cl (aV P) Bs)/\∀i,i<P.length->bF (aV P) (Cl (aV P) Bs) i)/\
  (b=true->∃Q,bT w' B tp v Q/\Sh P Q/\aV Q=aV P/\gP Q/\∀i j,aZ Q i j↔Cl (aV P) Bs i j)
theorem bF.iff{G:Gr}{R S:Nat->Nat->Prop}(h:∀i j,R i j↔S i j){i:Nat}:bF G R i↔bF G S i:=by
 have e:R=S:=by funext i j;exact propext (h i j)
 rw [e]
theorem mG.closed{w:World}{B tp:Nat}{v:Value}{P0:Tb}{Bs:Nat->Nat->Prop}{Q:Tb}{wr:World}(h:mG w B tp v P0 Bs Q wr)(hf:∀i k,k<i->i<Q.length->jB Q i k):wI Q:=by
 obtain ⟨h1,h2⟩:=h.inv.done hf;intro i j hij hi hj;have hA:=h.inv.ok.arity;rw [h.inv.gr] at *;have e:aZ Q=Cl (aV P0) Bs:=by funext i j;exact propext (h1 i j)
 rw [e] at *;exact wW (Cl.isDown _ _) h2 hA ((h1 i j).1 hij) hi hj
def iO(P:Tb)(a b i j:Nat):Prop:=(i=a/\j=b)\/aZ P i j
theorem aV3{P:Tb}(hok:gP P){a b:Nat}(ha:a<P.length)(hb:b<P.length):pZ P (iO P a b) (fO P P[a].1.cls P[b].1.cls):=by
 refine ⟨aG5 _ _ _,kM _ _ _,hok.join _ _ (hok.cls a ha),aG6 (C:=Cl (aV P) (iO P a b)) (λi j h=>Cl.base (Or.inr h)) (λ_ _=>Cl.symm) (λ_ _ _=>Cl.trans) ha hb (Cl.base (Or.inl ⟨rfl,rfl⟩)),?_⟩;rintro i j (⟨rfl,rfl⟩ | h)
 ·exact aPv ha hb
 ·exact aG7 h
theorem aV4(w:World)(a0 a1 a2 a3 d0 d1 d2 d3:Value)(T:TypeId):∃W1 W2,W1=w.alloc (.cells #[a0,a1,a2,a3] T)/\W2=W1.alloc (.cells #[d0,d1,d2,d3] T)/\Below w.heap.size w W1/\
  W2.cell? ⟨w.heap.size,0,none⟩=some a0/\W2.cell? ⟨w.heap.size,1,none⟩=some a1/\W2.cell? ⟨w.heap.size,2,none⟩=some a2/\W2.cell? ⟨w.heap.size,3,none⟩=some a3/\
  W2.cell? ⟨w.heap.size+1,0,none⟩=some d0/\W2.cell? ⟨w.heap.size+1,1,none⟩=some d1/\W2.cell? ⟨w.heap.size+1,2,none⟩=some d2/\W2.cell? ⟨w.heap.size+1,3,none⟩=some d3:=by
 refine ⟨_,_,rfl,rfl,(Below.refl _ _).alloc (zx _) _,?_,?_,?_,?_,?_,?_,?_,?_⟩ <;> simp
theorem aV5(B tp:Nat)(v:Value)(P:Tb)(a b:Nat)(ha:a<P.length)(hb:b<P.length)(w:World)(h:bT w B tp v P)(hok:gP P)(hf:P.length<=1000000)(hps:∀p∈P,p.1.parts.length<=1000000) :
  Calls Tryz.prog 44 #[.pointer (some ⟨tp,0,none⟩),.int .i64 a,.int .i64 b] w λe w'=>∃r,e=.returned r/\aV2 P B tp v (iO P a b) r w'/\w.grownBy w' v.ownBlock:=by
 obtain ⟨o,cap,rfl,hc⟩:=h.shape;obtain ⟨g,rfl,q1,q2,q3,q4⟩:=hc a ha;clear hc q1 q2 q3 q4;have CJ:=aA (aG4 B tp _ P a b ha hb w h hf);have HI0:=aA (aV3 hok ha hb);have HPS:=aA hps;clear h hok hps;go_enter Tryz.func44,Tryz.ntmps44;go_wp2_with (first
  | (go_at_call 69;refine (aB CJ).mono ?_;rintro e w1 ⟨rfl,ht,hg⟩;have HS1:=aA (mG.mk (w:=w) ht HI0.out ((Sh.refl P).join _ _) hg);clear ht hg)
  | go_in)
 generalize fO P P[a].1.cls P[b].1.cls=Q1 at *;go_loopw [7] (λm wr=>∃(bb:Bool) (Q:Tb),m=.bool bb/\mG w B tp (.slice (some ⟨g,0,none⟩) P.length cap) P (iO P a b) Q wr/\(bb=false->∀i k,k<i->i<Q.length->jB Q i k)) (λm wr=>2*wG P.length (zZ wr g P.length)+uZ m);case atStart=>exact ⟨true,Q1,rfl,HS1.out,by simp⟩
 case round=>
  rename World=>wo
  obtain ⟨bb,Q,rfl,hS,hF⟩:=hrel;have hlen:=hS.sh.len;cases bb with
  | true=>
   have HS:=aA hS;clear hS hF;go_wp2;go_loopw [7,8] (λm i wi=>∃(bb:Bool) (k:Nat) (Q':Tb),k<=P.length/\m=.bool bb/\i=.int .i64 k/\mG w B tp (.slice (some ⟨g,0,none⟩) P.length cap) P (iO P a b) Q' wi/\nR P.length Q Q' bb (∀i' k',k'<i'->i'<k->jB Q i' k')) (λ_ i _=>P.length-(intOf i).toNat);case atStart=>exact ⟨false,0,Q,zw _,rfl,rfl,HS.out,nR.start _ _ (λi' k' h1 h2=>by omega)⟩
   case round=>
    rename World=>wi
    obtain ⟨bb,i,Q',hi,rfl,rfl,hS',hP⟩:=hrel;have c1:=hS'.tab.cell;by_cases hlt:i<P.length
    ·have hlti:(i:Int)<(P.length:Int):=by omega
     have HS1:=aA hS';have HP:=aA hP;clear hS' hP;go_wp2;go_loopw [7,9] (λm j wk=>∃(bb:Bool) (k:Nat) (Q':Tb),k<=i/\m=.bool bb/\j=.int .i64 k/\mG w B tp (.slice (some ⟨g,0,none⟩) P.length cap) P (iO P a b) Q' wk/\nR P.length Q Q' bb ((∀i' k',k'<i'->i'<i->jB Q i' k')/\∀k',k'<k->jB Q i k')) (λ_ j _=>i-(intOf j).toNat);case atStart=>exact ⟨bb,0,Q',zw _,rfl,rfl,HS1.out,HP.out.imp λ_ h=>⟨h,λk' h=>by omega⟩⟩
     case round=>
      rename World=>wk
      obtain ⟨bb,k,Q',hk,rfl,rfl,hS',hP⟩:=hrel;have c1:=hS'.tab.cell;by_cases hki:k<i
      ·have hkii:(k:Int)<(i:Int):=by omega
       have hkl:k<P.length:=by omega
       have hkli:(k:Int)<(P.length:Int):=by omega
       have hq:=hS'.sh.len;obtain ⟨o',cap',e',hc⟩:=hS'.tab.shape;simp at e';obtain ⟨rfl,hq',rfl⟩:=e';obtain ⟨g1,hg1,i0,i1,i2,i3⟩:=hc i (by omega);obtain ⟨g2,hg2,k0,k1,k2,k3⟩:=hc k (by omega);simp at hg1 hg2;subst hg1;subst hg2;clear hc hq';obtain ⟨si1,si2,si3⟩:=hS'.sh.row i hlt (by omega);obtain ⟨sk1,sk2,sk3⟩:=hS'.sh.row k hkl (by omega);obtain ⟨qi1,qi2,qi3⟩:=HS.out.sh.row i hlt (by omega);obtain ⟨qk1,qk2,qk3⟩:=HS.out.sh.row k hkl (by omega);have hpi:=hS'.tab.parts Q'[i] (zz _);have hpk:=hS'.tab.parts Q'[k] (zz _);rw [si1,si2] at hpi;rw [sk1,sk2] at hpk;obtain ⟨ai,ci,hvi,_⟩:=sD hpi;obtain ⟨ak,ck,hvk,_⟩:=sD hpk;have hli:=HPS.out P[i] (zz _);have hlk:=HPS.out P[k] (zz _);have hary:aF P[i].1.node=false->aF P[k].1.node=false->P[i].1.node=P[k].1.node->P[i].1.parts.length=P[k].1.parts.length:=λa1 a2 a3=>by
        have r1:=hS'.inv.ok.ary i (by omega) (by rw [si3];exact a1);have r2:=hS'.inv.ok.ary k (by omega) (by rw [sk3];exact a2);rw [si2,si3] at r1;rw [sk2,sk3] at r2;rw [a3] at r1;omega
       have HFA:=aA (show Q'[i].1.cls≠Q'[k].1.cls->Q'=Q->jB Q i k from λhne e=>by
        subst e;intro _ _ e1;exact absurd e1 hne)
       have HFB:=aA (show aF P[i].1.node=true\/aF P[k].1.node=true->jB Q i k from λhor _ _ _ e1 e2=>by
        rw [qi3] at e1;rw [qk3] at e2;rcases hor with h | h
        ·rw [h] at e1;cases e1
        ·rw [h] at e2;cases e2)
       have HFE:=aA (show P[i].1.node=P[k].1.node->(∀p q r:Nat,P[i].1.parts[p]?=some q->P[k].1.parts[p]?=some r->aZ Q q r)->jB Q i k from λhn hp _ _ _ _ _=>by
        rw [qi3,qk3,qi2,qk2];exact ⟨hn,hp⟩)
       have HCL:=aA (show Q'[i].1.cls=Q'[k].1.cls->aF P[i].1.node=false->aF P[k].1.node=false->P[i].1.node≠P[k].1.node->¬eW (aV P) (Cl (aV P) (iO P a b)) from λe v1 v2 hn=>hS'.inv.clash (by omega) (by omega) e (by rw [si3];exact v1) (by rw [sk3];exact v2) (by rw [si3,sk3];exact hn));have HCD:=aA (show Q'[i].1.cls=Q'[k].1.cls->aF P[i].1.node=false->aF P[k].1.node=false->∀q u v:Nat,P[i].1.parts[q]?=some u->P[k].1.parts[q]?=some v->Cl (aV P) (iO P a b) u v from λe v1 v2 q u v h1 h2=>Cl.down (hS'.inv.sound i k ((aZ.iff (by omega) (by omega)).2 e)) (yY hlt v1) (yY hkl v2) (by rw [oW P i hlt];exact h1) (by rw [oW P k hkl];exact h2));have hgs:g<wk.heap.size:=aBt hS'.tab.row rfl;have HBX:=aA (λ(o1 o2:Obj)=>hS'.below (((Below.refl wk.heap.size wk).alloc (zx _) o1).alloc (by simp) o2));rw [si3] at i0 i1;rw [sk3] at k0 k1;rw [si1,hvi] at i2;rw [sk1,hvk] at k2;have HVI:=aA hvi;have HVK:=aA hvk;have HARY:=aA hary;have HS2:=aA hS';have HP2:=aA hP;clear si1 si2 si3 sk1 sk2 sk3 qi1 qi2 qi3 qk1 qk2 qk3 hpi hpk hvi hvk hary hS' hP;generalize Q'[i].1.cls=cli at *;generalize Q'[k].1.cls=clk at *;generalize hni:P[i].1.node=ni at *;generalize hnk:P[k].1.node=nk at *;obtain ⟨s1,x1⟩:=ni;obtain ⟨s2,x2⟩:=nk;simp only at i0 i1 k0 k1;clear hni hnk;generalize hpli:P[i].1.parts=li at *;generalize hplk:P[k].1.parts=lk at *;obtain ⟨W1,W2,hW1,hW2,hB1,b10,b11,b12,b13,b20,b21,b22,b23⟩:=aV4 wk (.string s1) (.int .i64 x1) (.slice ai li.length ci) (.int .i64 cli) (.string s2) (.int .i64 x2) (.slice ak lk.length ck) (.int .i64 clk) 94;subst hW2;subst hW1;have c2:=Below.at' hB1 (zx _) c1;have m0:=Below.at' hB1 (zx _) k0;have m1:=Below.at' hB1 (zx _) k1;have m2:=Below.at' hB1 (zx _) k2;have m3:=Below.at' hB1 (zx _) k3;clear hB1;have HFK:Hid (∀(F:jB Q i k) (h:(∀i' k',k'<i'->i'<i->jB Q i' k')/\∀k',k'<k->jB Q i k'),(∀i' k',k'<i'->i'<i->jB Q i' k')/\∀k',k'<k+1->jB Q i k'):=aA (λF h=>⟨h.1,λk' hk'=>by
        by_cases hkk:k'<k
        ·exact h.2 k' hkk
        ·have:k'=k:=by omega
         subst this;exact F⟩)
       by_cases hcc:cli=clk
       ·subst hcc;by_cases hv1:s1.toList.isEmpty=true
        ·go_wp2;go_roundw;case rel=>exact ⟨bb,k+1,Q',by omega,rfl,by go_num,HBX.out _ _,HP2.out.imp λe h=>HFK.out (HFB.out (Or.inl hv1)) h⟩
         case measure=>simp [intOf];omega
        ·by_cases hv2:s2.toList.isEmpty=true
         ·go_wp2;go_roundw;case rel=>exact ⟨bb,k+1,Q',by omega,rfl,by go_num,HBX.out _ _,HP2.out.imp λe h=>HFK.out (HFB.out (Or.inr hv2)) h⟩
          case measure=>simp [intOf];omega
         ·have n1:aF (s1,x1)=false:=by simpa [aF] using hv1
          have n2:aF (s2,x2)=false:=by simpa [aF] using hv2
          have hqn:=rF s1 s2 x1 x2;have hnb:=rE (s1,x1) (s2,x2);simp only at hnb;by_cases he:(s1,x1)=(s2,x2)
          ·rw [decide_eq_true he] at hnb;have hll:=HARY.out n1 n2 he;have hll1:li.length<=lk.length:=by omega
           have hll2:lk.length<=li.length:=by omega
           clear hll;have HCC:=aA (HCD.out rfl n1 n2);have HFF:=aA (HFE.out he);have HSB:=aA (HBX.out (.cells #[.string s1,.int .i64 x1,.slice ai li.length ci,.int .i64 cli] 94) (.cells #[.string s2,.int .i64 x2,.slice ak lk.length ck,.int .i64 cli] 94));clear he n1 n2;go_wp2;clear m0 m1 m2 m3 i0 i1 i2 i3 k0 k1 k2 k3;go_loopw [7,12] (λm p wp=>∃(bb:Bool) (q:Nat) (Q3:Tb),q<=li.length/\m=.bool bb/\p=.int .i64 q/\mG w B tp (.slice (some ⟨g,0,none⟩) P.length cap) P (iO P a b) Q3 wp/\nR P.length Q Q3 bb (((∀i' k',k'<i'->i'<i->jB Q i' k')/\∀k',k'<k->jB Q i k')/\∀p',p'<q->∀u v:Nat,li[p']?=some u->lk[p']?=some v->aZ Q u v)/\wp.cell? ⟨wk.heap.size,2,none⟩=some (.slice ai li.length ci)/\wp.cell? ⟨wk.heap.size+1,2,none⟩=some (.slice ak lk.length ck)) (λ_ p _=>li.length-(intOf p).toNat);case atStart=>exact ⟨bb,0,Q',zw _,rfl,rfl,HSB.out,HP2.out.imp λ_ h=>⟨h,λp' h=>by omega⟩,b12,b22⟩
           case round=>
            rename World=>wp
            obtain ⟨bb,q,Q3,hq3,rfl,rfl,hS3,hP3,d1,d2⟩:=hrel;by_cases hql:q<li.length
            ·have hqli:(q:Int)<(li.length:Int):=by omega
             have hqlk:(q:Int)<(lk.length:Int):=by omega
             have hl3:=hS3.sh.len;obtain ⟨si1,si2,_⟩:=hS3.sh.row i hlt (by omega);obtain ⟨sk1,sk2,_⟩:=hS3.sh.row k hkl (by omega);have hpi:=hS3.tab.parts Q3[i] (zz _);have hpk:=hS3.tab.parts Q3[k] (zz _);have hui:=hS3.inv.ok.parts i (by omega);have hvk:=hS3.inv.ok.parts k (by omega);rw [si1,si2,hpli] at hpi;rw [sk1,sk2,hplk] at hpk;rw [si2,hpli] at hui;rw [sk2,hplk] at hvk;obtain ⟨ai',ci',hvi,hci⟩:=sD hpi;obtain ⟨ak',ck',hvk',hck⟩:=sD hpk;rw [HVI.out] at hvi;rw [HVK.out] at hvk';simp at hvi hvk';obtain ⟨rfl,rfl⟩:=hvi;obtain ⟨rfl,rfl⟩:=hvk';have hg5:=bV hpi hS3.tab.row (by decide);have hg6:=bV hpk hS3.tab.row (by decide);obtain ⟨g5,rfl,e5⟩:=hci q hql;obtain ⟨g6,rfl,e6⟩:=hck q (by omega);have hu:=hui li[q] (zz _);have hv:=hvk lk[q] (zz _);have hcl:=HCC.out q li[q] lk[q] (zy hql) (zy (by omega));have CJ2:=aA (λ(wx:World) (hx:∃n,wx=wp.drewN n)=>aG4 B tp _ Q3 li[q] lk[q] hu hv wx (by obtain ⟨n,rfl⟩:=hx;exact hS3.tab.drewN n) (by omega));have HSJ:=aA (λ(wx wy:World) (hx:∃n,wx=wp.drewN n) (ht:bT wy B tp _ _) (hg:wx.grownBy wy _)=>(hS3.below (aJ hx)).join hu hv hcl ht hg);have HPJ:=aA (hP3.join (F':=((∀i' k',k'<i'->i'<i->jB Q i' k')/\∀k',k'<k->jB Q i k')/\∀p',p'<q+1->∀u v:Nat,li[p']?=some u->lk[p']?=some v->aZ Q u v) hS3.inv.ok hl3 hu hv (λe h hr=>⟨h.1,λp' hp' u v h1 h2=>by
              by_cases hpp:p'<q
              ·exact h.2 p' hpp u v h1 h2
              ·have:p'=q:=by omega
               subst this;rw [zy hql] at h1;rw [zy (by omega)] at h2;simp at h1 h2;subst h1;subst h2;rw [<-e];exact hr⟩))
             generalize hnn:decide (Q3[li[q]].1.cls≠Q3[lk[q]].1.cls)=nn at *;generalize fO Q3 Q3[li[q]].1.cls Q3[lk[q]].1.cls=Q4 at *;generalize li[q]=u at *;generalize lk[q]=v at *;have hg5':g5≠g:=by rintro rfl;rw [HVI.out] at hg5;simp [Value.ownBlock] at hg5
             have hg6':g6≠g:=by rintro rfl;rw [HVK.out] at hg6;simp [Value.ownBlock] at hg6
             clear hg5 hg6;have HD:=aA (show ∀wx wy,(∃n,wx=wp.drewN n)->wx.grownBy wy (some g)->wy.cell? ⟨wk.heap.size,2,none⟩=some (.slice (some ⟨g5,0,none⟩) li.length ci)/\wy.cell? ⟨wk.heap.size+1,2,none⟩=some (.slice (some ⟨g6,0,none⟩) lk.length ck)/\wy.cell? ⟨g5,q,none⟩=some (.int .i64 u)/\wy.cell? ⟨g6,q,none⟩=some (.int .i64 v) from λwx wy hx hg=>by
              obtain ⟨n,rfl⟩:=hx;exact ⟨hg.cell (w:=wp.drewN n) d1 (by simp;omega),hg.cell (w:=wp.drewN n) d2 (by simp;omega),hg.cell (w:=wp.drewN n) e5 (by simp;omega),hg.cell (w:=wp.drewN n) e6 (by simp;omega)⟩)
             clear hnn hpi hpk hui hvk hci hck si1 si2 sk1 sk2 hS3 hP3 hcl hu hv;cases bb with
             | true=>
              go_wp2_with fail;go_region_held3 (λw'=>w'.cell? ⟨wk.heap.size,2,none⟩=some (.slice (some ⟨g5,0,none⟩) li.length ci)/\w'.cell? ⟨wk.heap.size+1,2,none⟩=some (.slice (some ⟨g6,0,none⟩) lk.length ck)/\w'.cell? ⟨g5,q,none⟩=some (.int .i64 u)/\w'.cell? ⟨g6,q,none⟩=some (.int .i64 v)) (go_keep)
               ((go_at_call 69;refine (aB CJ2 _ (by first | exact ⟨0,rfl⟩ | exact ⟨1,rfl⟩ | exact ⟨_,rfl⟩)).mono ?_;rintro e w4 ⟨rfl,ht4,hg4⟩;have HS4:=aA (HSJ.out _ w4 (by first | exact ⟨0,rfl⟩ | exact ⟨1,rfl⟩ | exact ⟨_,rfl⟩) ht4 hg4);obtain ⟨c0,c1,c2,c3⟩:=HD.out _ w4 (by first | exact ⟨0,rfl⟩ | exact ⟨1,rfl⟩ | exact ⟨_,rfl⟩) hg4;clear ht4 hg4))
              all_goals
               go_wp2;go_roundw;case rel=>exact ⟨true,q+1,Q4,by omega,rfl,by go_num,HS4.out,by simpa using HPJ.out,c0,c1⟩
               case measure=>simp [intOf];omega
             | false=>
              go_wp2_with fail;go_region_held3 (λw'=>w'.cell? ⟨wk.heap.size,2,none⟩=some (.slice (some ⟨g5,0,none⟩) li.length ci)/\w'.cell? ⟨wk.heap.size+1,2,none⟩=some (.slice (some ⟨g6,0,none⟩) lk.length ck)/\w'.cell? ⟨g5,q,none⟩=some (.int .i64 u)/\w'.cell? ⟨g6,q,none⟩=some (.int .i64 v)) (go_keep)
               ((go_at_call 69;refine (aB CJ2 _ (by first | exact ⟨0,rfl⟩ | exact ⟨1,rfl⟩ | exact ⟨_,rfl⟩)).mono ?_;rintro e w4 ⟨rfl,ht4,hg4⟩;have HS4:=aA (HSJ.out _ w4 (by first | exact ⟨0,rfl⟩ | exact ⟨1,rfl⟩ | exact ⟨_,rfl⟩) ht4 hg4);obtain ⟨c0,c1,c2,c3⟩:=HD.out _ w4 (by first | exact ⟨0,rfl⟩ | exact ⟨1,rfl⟩ | exact ⟨_,rfl⟩) hg4;clear ht4 hg4))
              all_goals
               go_wp2;go_roundw;case rel=>exact ⟨nn,q+1,Q4,by omega,rfl,by go_num,HS4.out,by simpa using HPJ.out,c0,c1⟩
               case measure=>simp [intOf];omega
            ·have hqli:¬((q:Int)<(li.length:Int)):=by omega
             have HS3:=aA hS3;have HP3:=aA hP3;have hqe:q=li.length:=by omega
             clear hS3 hP3;go_wp2;go_roundw;case rel=>exact ⟨bb,k+1,Q3,by omega,rfl,by go_num,HS3.out,HP3.out.imp λe h=>HFK.out (HFF.out λp u v h1 h2=>h.2 p (by
              have:=(List.getElem?_eq_some_iff.1 h1).1;omega) u v h1 h2) h.1⟩
             case measure=>simp [intOf];omega
          ·rw [decide_eq_false he] at hnb;have HNC:=aA (HCL.out rfl n1 n2 he);clear he n1 n2;go_wp2;go_ret;exact ⟨_,rfl,⟨false,rfl,⟨by simp,λh=>absurd h.1 HNC.out⟩,by simp⟩,(HBX.out _ _).far⟩
       ·have hcc':¬((cli:Int)=(clk:Int)):=by omega
        go_wp2;go_roundw;case rel=>exact ⟨bb,k+1,Q',by omega,rfl,by go_num,HBX.out _ _,HP2.out.imp λe h=>HFK.out (HFA.out hcc e) h⟩
        case measure=>simp [intOf];omega
      ·have hkii:¬((k:Int)<(i:Int)):=by omega
       have HS2:=aA hS';have HP2:=aA hP;clear hS' hP;go_wp2;go_roundw;case rel=>
        refine ⟨bb,i+1,Q',by omega,rfl,by go_num,HS2.out,HP2.out.imp λ_ h i' k' h1 h2=>?_⟩;by_cases hii:i'<i
        ·exact h.1 i' k' h1 hii
        ·have:i'=i:=by omega
         subst this;exact h.2 k' (by omega)
       case measure=>simp [intOf];omega
    ·have hlti:¬((i:Int)<(P.length:Int)):=by omega
     have HS1:=aA hS';have HP:=aA hP;clear hS' hP;go_wp2;go_roundw;case rel=>exact ⟨bb,Q',rfl,HS1.out,λe i' k' h1 h2=>by
      obtain ⟨rfl,h⟩:=HP.out.2.2 e;exact h i' k' h1 (by omega)⟩
     case measure=>
      rw [aJ8 HS.out.tab HS.out.sh.len,aJ8 HS1.out.tab HS1.out.sh.len];have h1:=HP.out.1;unfold cN at h1;cases bb with
      | true=>have h2:=HP.out.2.1 rfl;unfold cN at h2;simp [uZ];omega
      | false=>simp [uZ];omega
  | false=>
   have hFF:=hF rfl;have hcl:=hS.closed hFF;have CE:=aA (aUc B tp _ Q wo hS.tab (by omega) hS.inv.ok hcl (λp hp=>by
    obtain ⟨i,hi,rfl⟩:=List.getElem_of_mem hp;rw [(hS.sh.row i (by omega) hi).2.1];exact HPS.out _ (zz _)))
   have HS:=aA hS;have HFF:=aA hFF;clear hS hF hFF hcl;go_wp2_with (first
    | (go_at_call 70;refine (aB CE).mono ?_;rintro e w2 ⟨r,rfl,hr,hb2⟩;have HR:=aA hr;have HB2:=aA hb2;clear hr hb2)
    | go_in)
   go_ret;obtain ⟨bb,rfl,hbb⟩:=HR.out;obtain ⟨h1,h2⟩:=HS.out.inv.done HFF.out;refine ⟨_,rfl,⟨bb,rfl,?_,λ_=>⟨Q,HS.out.tab.below HB2.out,HS.out.sh,HS.out.inv.gr,HS.out.inv.ok,h1⟩⟩,HS.out.far.trans (aJ7 HB2.out)⟩;rw [hbb,HS.out.inv.gr,HS.out.inv.len];exact ⟨λh=>⟨h2,λi hi=>(bF.iff h1).1 (h i hi)⟩,λh i hi=>(bF.iff h1).2 (h.2 i hi)⟩
end Go.Proofs.YtcldkjcpofjmhaaGreatDoor
