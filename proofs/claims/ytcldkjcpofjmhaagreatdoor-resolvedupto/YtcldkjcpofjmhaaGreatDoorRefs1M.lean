import Derived.Test.YtcldkjcpofjmhaaGreatDoorBase0M
import Derived.Shelf.Abstract
open And renaming intro→zn
open List renaming take_succ_eq_append_getElem→zy,take_of_length_le→zx,getElem_mem→zr,foldl_cons→zq,length_take_le→zp,length_append→zj,foldl_append→zi,length_cons→zh
open Nat renaming le_refl→zz,zero_le→zu,le_trans→zm,mul_le_mul_right→zl
open Prod renaming fst→zw
namespace Go.Proofs.YtcldkjcpofjmhaaGreatDoor
open Calls renaming quiet_of→zt
open _root_.Go.Proofs.Tryz renaming prog→zv,underlying22→zo
open World renaming ownsRow_nil→zs,grownBy_alloc→zk
set_option maxHeartbeats 2000000
set_option maxRecDepth 100000
section
open Go.RowKit
theorem aH4(a1 a2:Option Addr)(c1 c2:Nat)(l1 l2:List (ByteArray×Int))(w:World)(h1:cM w a1 l1)(h2:cM w a2 l2) :
  Calls zv 27 #[.slice a1 l1.length c1,.slice a2 l2.length c2] w λe w'=>e=.returned (.bool (decide (l1=l2)))/\∃n,w'=w.drewN n:=by
 have b1:=h1.few;have b2:=h2.few;by_cases hl:l1.length=l2.length
 ·have hn:((l1.length:Int) != (l2.length:Int))=false:=by rw [hl];simp
  have HL:Hid (l1.length=l2.length):=hl;clear hl;go_enter Tryz.func27,Tryz.ntmps27;go_wp2;go_loopw [5] (λi wr=>∃k:Nat,k<=l1.length/\i=.int .i64 k/\(∃n,wr=w.drewN n)/\l1.take k=l2.take k) (λi _=>l1.length-(intOf i).toNat);case atStart=>exact ⟨0,zu _,rfl,⟨0,rfl⟩,rfl⟩
  case round=>
   obtain ⟨k,hk,rfl,⟨n,rfl⟩,ht⟩:=hrel;by_cases hlt:k<l1.length
   ·obtain ⟨p1,o1,rfl,e1,f1⟩:=h1.cell k hlt;have hlt2:(k:Int)<(l2.length:Int):=by have:=HL.out;omega
    have hlt3:k<l2.length:=by omega
    obtain ⟨p2,o2,rfl,e2,f2⟩:=h2.cell k hlt3;have hb:=rE l1[k] l2[k];have g:=sP;have q:=rF l1[k].1 l2[k].1 l1[k].2 l2[k].2;clear h1 h2;by_cases he:l1[k]=l2[k]
    ·rw [decide_eq_true he] at hb;have HE:Hid (l1[k]=l2[k]):=he;clear he;go_wp2;go_quiet (fail);go_wp2;go_roundw;case rel=>exact ⟨k+1,by omega,by go_num,(by first | exact jT _ _ _ | exact ⟨_,rfl⟩),by rw [zy hlt,zy hlt3,ht,HE.out]⟩
     case measure=>simp [intOf];omega
    ·rw [decide_eq_false he] at hb;have HE:Hid (¬l1[k]=l2[k]):=he;clear he;go_wp2;go_quiet (fail);go_wp2;go_ret;refine ⟨?_,(by first | exact jT _ _ _ | exact ⟨_,rfl⟩)⟩;have:¬l1=l2:=λh=>HE.out (by subst h;rfl)
     simp [this]
   ·go_wp2;go_ret;refine ⟨?_,⟨_,rfl⟩⟩;have hk1:l1.take k=l1:=zx (by omega);have hk2:l2.take k=l2:=zx (by have:=HL.out;omega);rw [hk1,hk2] at ht;simp [ht]
 ·have hn:((l1.length:Int) != (l2.length:Int))=true:=by rw [bne_iff_ne];omega
  have hne:¬l1=l2:=λh=>hl (by rw [h])
  have HN:Hid (¬l1=l2):=hne;clear hne hl;go_enter Tryz.func27,Tryz.ntmps27;go_wp2;go_ret;exact ⟨by simp [HN.out],0,rfl⟩
def mY(x y:Lt):Bool:=decide (x.2=y.2) && x.1 == y.1
theorem aR8(x y:Lt):mY x y=decide (x=y):=by rw [Bool.eq_iff_iff];simp [mY,Prod.ext_iff,and_comm]
theorem aH5(a1 a2:Option Addr)(c1 c2:Nat)(l1 l2:List Lt)(w:World)(h1:bD w a1 l1)(h2:bD w a2 l2) :
  Calls zv 14 #[.slice a1 l1.length c1,.slice a2 l2.length c2] w λe w'=>e=.returned (.bool (decide (l1=l2)))/\∃n,w'=w.drewN n:=by
 have b1:=h1.few;have b2:=h2.few;by_cases hl:l1.length=l2.length
 ·have hn:((l1.length:Int) != (l2.length:Int))=false:=by rw [hl];simp
  have HL:Hid (l1.length=l2.length):=hl;clear hl;go_enter Tryz.func14,Tryz.ntmps14;go_wp2;go_loopw [5] (λi wr=>∃k:Nat,k<=l1.length/\i=.int .i64 k/\(∃n,wr=w.drewN n)/\l1.take k=l2.take k) (λi _=>l1.length-(intOf i).toNat);case atStart=>exact ⟨0,zu _,rfl,⟨0,rfl⟩,rfl⟩
  case round=>
   obtain ⟨k,hk,rfl,hq,ht⟩:=hrel;replace h1:=h1.drawn hq
   replace h2:=h2.drawn hq
   have HQ:=aA hq;clear hq;by_cases hlt:k<l1.length
   ·obtain ⟨p1,o1,aa1,cp1,rfl,e1,f1,g1⟩:=h1.cell k hlt;have hlt2:(k:Int)<(l2.length:Int):=by have:=HL.out;omega
    have hlt3:k<l2.length:=by omega
    obtain ⟨p2,o2,aa2,cp2,rfl,e2,f2,g2⟩:=h2.cell k hlt3;have cS:=λm=>aH4 aa1 aa2 cp1 cp2 l1[k].2 l2[k].2 (wr.drewN m) (g1.drewN m) (g2.drewN m)
    clear h1 h2 g1 g2;by_cases hs:l1[k].2=l2[k].2
    ·rw [decide_eq_true hs] at cS;have HC:=aA cS;have HS:=aA hs;clear cS hs;go_wp2;go_quiet ((go_at_call 27;exact zt (aB HC _)));go_wp2;go_quiet (fail);go_wp2
     ·go_ret;refine ⟨?_,rD HQ.out (by first | exact jT _ _ _ | exact ⟨_,rfl⟩)⟩;have hne:(!l1[k].1 == l2[k].1)=true:=by assumption
      have:¬l1=l2:=λh=>by subst h;simp at hne
      simp [this]
     ·have heq:(!l1[k].1 == l2[k].1)=false:=by assumption
      have he:l1[k]=l2[k]:=Prod.ext (by simpa using heq) HS.out;go_roundw;case rel=>exact ⟨k+1,by omega,by go_num,rD HQ.out (by first | exact jT _ _ _ | exact ⟨_,rfl⟩),by rw [zy hlt,zy hlt3,ht,he]⟩
      case measure=>simp [intOf];omega
    ·rw [decide_eq_false hs] at cS;have HC:=aA cS;have HS:=aA hs;clear cS hs;go_wp2;go_quiet ((go_at_call 27;exact zt (aB HC _)));go_wp2;go_quiet (fail);go_wp2;go_ret;refine ⟨?_,rD HQ.out (by first | exact jT _ _ _ | exact ⟨_,rfl⟩)⟩;have:¬l1=l2:=λh=>HS.out (by subst h;rfl)
     simp [this]
   ·go_wp2;go_ret;refine ⟨?_,HQ.out⟩;have hk1:l1.take k=l1:=zx (by omega);have hk2:l2.take k=l2:=zx (by have:=HL.out;omega);rw [hk1,hk2] at ht;simp [ht]
 ·have hn:((l1.length:Int) != (l2.length:Int))=true:=by rw [bne_iff_ne];omega
  have hne:¬l1=l2:=λh=>hl (by rw [h])
  have HN:Hid (¬l1=l2):=hne;clear hne hl;go_enter Tryz.func14,Tryz.ntmps14;go_wp2;go_ret;exact ⟨by simp [HN.out],0,rfl⟩
def aK(c:List Lt):Nat:=(c.map λl=>l.2.length).sum
theorem oD(c:List Lt)(x:Lt):aK (c++[x])=aK c+x.2.length:=by simp [aK]
theorem aH6(c:List Lt)(h:∀k (h:k<c.length),(c[k]).2.length<=5864062014805):aK c<=c.length*5864062014805:=by
 induction c with
 | nil=>simp [aK]
 | cons x r ih=>
  have h0:=h 0 (by simp);have hr:=ih (λk hk=>by have:=h (k+1) (by simpa using hk);simpa using this);simp [aK] at h0 hr ⊢;omega
theorem rW(c:List Lt)(k:Nat):aK (c.take k)<=aK c:=by have h:=congrArg aK (List.take_append_drop k c);simp only [aK,List.map_append,List.sum_append] at h ⊢;omega
theorem aR9(a:Option Addr)(cp:Nat)(c:List Lt)(w:World)(h:bD w a c)(h8:c.length<=8) :
  Calls zv 46 #[.slice a c.length cp] w λe w'=>e=.returned (.int .i64 (aK c))/\w'=w:=by
 have hc:aK c<=8*5864062014805:=zm (aH6 c λk hk=>by obtain ⟨_,_,_,_,_,_,_,g⟩:=h.cell k hk;exact g.few) (zl _ h8);go_enter Tryz.func46,Tryz.ntmps46;go_wp2;go_loop [3,4] (λs i=>∃k:Nat,k<=c.length/\i=.int .i64 k/\s=.int .i64 (aK (c.take k))) (λ_ i=>c.length-(intOf i).toNat);case atStart=>exact ⟨0,zu _,rfl,rfl⟩
 case round=>
  obtain ⟨k,hk,rfl,rfl⟩:=hrel;have hct:=rW c k;by_cases hlt:k<c.length
  ·obtain ⟨p1,o1,aa1,cp1,rfl,e1,f1,g1⟩:=h.cell k hlt;have hg:=g1.few;have HS:Hid (aK (c.take (k+1))=aK (c.take k)+c[k].2.length):=by
    rw [zy hlt,oD];exact rfl
   clear h g1;go_wp2;go_round;case rel=>exact ⟨k+1,by omega,by go_num,by rw [HS.out];go_num⟩
   case measure=>simp [intOf];omega
  ·go_wp2;go_ret;have hk1:c.take k=c:=zx (by omega);rw [hk1];exact ⟨rfl,rfl⟩
def dL(c:List Lt):Bool:=decide (c.length<=8) && decide (aK c<=60)
theorem aRa(a:Option Addr)(cp:Nat)(c:List Lt)(w:World)(h:bD w a c) :
  Calls zv 41 #[.slice a c.length cp] w λe w'=>e=.returned (.bool (dL c))/\w'=w:=by
 have b:=h.few;by_cases h8:c.length<=8
 ·have cC:=aR9 a cp c w h h8;have HF:=aA (show dL c=decide ((aK c:Int)<=60) by simp [dL,h8];omega);go_enter Tryz.func41,Tryz.ntmps41;go_wp2_with (go_at_call 46;refine cC.mono ?_;rintro e w' ⟨rfl,rfl⟩);go_ret;exact ⟨cH HF.out.symm,rfl⟩
 ·have hf:dL c=false:=by simp [dL,h8]
  rw [hf];clear hf;go_enter Tryz.func41,Tryz.ntmps41;go_wp2;go_ret;exact ⟨rfl,rfl⟩
end
section
open Go.RowKit
def eK(acc:List Lt)(x:Lt):Bool:=acc.any λy=>decide (y=x)
theorem aH7(acc:List Lt)(x:Lt):eK acc x=true↔x∈acc:=by simp [eK]
theorem aH8(acc:List Lt)(y x:Lt):eK (acc++[y]) x=(eK acc x || decide (y=x)):=by simp [eK]
def eH(acc:List Lt)(x:Lt):List Lt:=if eK acc x then acc else acc++[x]
def cJ(c:List Lt):List Lt:=c.foldl eH []
theorem aH9(c:List Lt)(k:Nat)(h:k<c.length):cJ (c.take (k+1))=eH (cJ (c.take k)) c[k]:=by rw [zy h];simp only [cJ,zi,zq,List.foldl_nil]
theorem qG(c:List Lt):(cJ c).length<=c.length/\aK (cJ c)<=aK c/\∀x∈cJ c,x∈c:=by
 suffices ∀(c:List Lt) (acc:List Lt),(c.foldl eH acc).length<=acc.length+c.length/\aK (c.foldl eH acc)<=aK acc+aK c/\∀x∈c.foldl eH acc,x∈acc\/x∈c by
  have h:=this c [];exact ⟨by have:=h.1;simpa [cJ] using this,by have:=h.2.1;simpa [aK,cJ] using this,λx hx=>by rcases h.2.2 x hx with h | h <;> simp_all⟩
 intro c;induction c with
 | nil=>intro acc;simp [aK]
 | cons x r ih=>
  intro acc;have h:=ih (eH acc x);have h1:(eH acc x).length<=acc.length+1/\aK (eH acc x)<=aK acc+x.2.length/\∀y∈eH acc x,y∈acc\/y=x:=by
   unfold eH;split
   ·exact ⟨by omega,by omega,λy hy=>Or.inl hy⟩
   ·exact ⟨by simp,by simp [aK],λy hy=>by simpa using hy⟩
  have h2:aK (x :: r)=x.2.length+aK r:=by simp [aK]
  simp only [zq,zh];refine ⟨by omega,by omega,λy hy=>?_⟩;rcases h.2.2 y hy with hy | hy
  ·rcases h1.2.2 y hy with hy | rfl
   ·exact Or.inl hy
   ·exact Or.inr (by simp)
  ·exact Or.inr (by simp [hy])
def eB(st:List Lt×List Int)(x:Lt):List Lt×List Int:=(st.1++[(x.1,(cE x.2 st.2).1)],(cE x.2 st.2).2)
def cL(c:List Lt):List Lt×List Int:=c.foldl eB ([],[])
def aR(c:List Lt):List Lt:=(cL (cJ c)).1
theorem aHa(c:List Lt)(k:Nat)(h:k<c.length):cL (c.take (k+1))=eB (cL (c.take k)) c[k]:=by rw [zy h];simp only [cL,zi,zq,List.foldl_nil]
theorem pA(c:List Lt):(cL c).1.length=c.length/\(cL c).2.length<=aK c:=by
 suffices ∀(c:List Lt) (st:List Lt×List Int),(c.foldl eB st).1.length=st.1.length+c.length/\(c.foldl eB st).2.length<=st.2.length+aK c by
  have h:=this c ([],[]);simpa [cL] using h
 intro c;induction c with
 | nil=>intro st;simp [aK]
 | cons x r ih=>
  intro st;have h:=ih (eB st x);have h1:=sT x.2 st.2;have h2:aK (x :: r)=x.2.length+aK r:=by simp [aK]
  simp only [zq,zh];have h3:(eB st x).1.length=st.1.length+1:=by simp [eB]
  have h4:(eB st x).2.length<=st.2.length+x.2.length:=h1.2;exact ⟨by omega,by omega⟩
theorem zF(c:List Lt)(x:Lt)(h:x∈c):x.2.length<=aK c:=by
 induction c with
 | nil=>simp at h
 | cons y r ih=>
  simp only [aK,List.map_cons,List.sum_cons] at ih ⊢;rcases List.mem_cons.1 h with rfl | h
  ·omega
  ·have:=ih h;omega
def bA(P:List (Lt×Value)):List Value:=P.flatMap λp=>[.bool p.1.1,p.2]
theorem aHb(P:List (Lt×Value)):(bA P).length=P.length*2:=by
 induction P with
 | nil=>rfl
 | cons x r ih=>simp [bA] at ih ⊢;omega
theorem aC2(P:List (Lt×Value))(x:Lt×Value):bA (P++[x])=bA P++[.bool x.1.1,x.2]:=by simp [bA]
theorem wO(P:List (Lt×Value)):∀k (h:k<P.length),(bA P)[k*2]?=some (.bool P[k].1.1)/\(bA P)[k*2+1]?=some P[k].2:=by
 induction P with
 | nil=>intro k h;simp at h
 | cons x r ih=>
  intro k h;cases k with
  | zero=>simp [bA]
  | succ k=>
   have:=ih k (by simpa using h);have e1:(k+1)*2=k*2+2:=by omega
   have e2:(k+1)*2+1=k*2+1+2:=by omega
   rw [e1];simp only [bA,List.flatMap_cons,List.cons_append,List.nil_append,List.getElem?_cons_succ,List.getElem_cons_succ] at this ⊢;exact this
theorem qH{w:World}{B:Nat}{v:Value}{P:List (Lt×Value)}(h:w.ownsRow B 39 2 v P.length (bA P)) :
  ∃a cap,v=.slice a P.length cap/\∀k (h:k<P.length),∃g,a=some ⟨g,0,none⟩/\w.cell? ⟨g,k*2,none⟩=some (.bool P[k].1.1)/\w.cell? ⟨g,k*2+1,none⟩=some P[k].2:=by
 obtain ⟨h1,⟨rfl,h2⟩ | ⟨g,cap,cur,rfl,hb,hh,hc,hm,hz,ht⟩⟩:=h
 ·exact ⟨none,0,by rw [h2],λk hk=>by omega⟩
 ·have ho:w.ownsRow B 39 2 (.slice (some ⟨g,0,none⟩) P.length cap) P.length (bA P):=⟨h1,Or.inr ⟨g,cap,cur,rfl,hb,hh,hc,hm,hz,ht⟩⟩;refine ⟨_,_,rfl,λk hk=>⟨g,rfl,?_,?_⟩⟩
  ·rw [ho.cellAt (k*2) (by omega),(wO P k hk).1]
  ·rw [ho.cellAt (k*2+1) (by omega),(wO P k hk).2]
theorem aS{w:World}{B:Nat}{e:TypeId}{size:Nat}{v:Value}{n:Nat}{xs:List Value}(h:w.ownsRow B e size v n xs):∃a cap,v=.slice a n cap:=by
 obtain ⟨_,⟨rfl,rfl⟩ | ⟨g,cap,cur,rfl,_⟩⟩:=h
 ·exact ⟨_,_,rfl⟩
 ·exact ⟨_,_,rfl⟩
def jX(w:World)(v:Value)(l:List Nd):Prop:=∃a cap,v=.slice a l.length cap/\cM w a l
theorem rX:(zv.info? 39).map (λi=>(i.zero,i.size,i.bytes))=some (some (.agg #[.bool false,.slice none 0 0]),2,32):=by kernel_rfl
theorem rY(b:Bool)(a:Option Addr)(n c:Nat):∀u∈[Value.bool b,Value.slice a n c],u.oneCell'=true:=by intro u hu;simp at hu;rcases hu with rfl | rfl <;> rfl
theorem aHc{w:World}{P:List (Lt×Value)}{x:Lt}{v:Value}(hA:∀p∈P,jX w p.2 p.1.2)(hx:jX w v x.2):∀p∈P++[(x,v)],jX w p.2 p.1.2:=by
 intro p hp;rcases List.mem_append.1 hp with hp | hp
 ·exact hA p hp
 ·simp at hp;subst hp;exact hx
theorem aRb(yb xb:Bool)(yl xl:List Nd)(h:yl=xl):(yb == xb)=(false || decide ((yb,yl)=(xb,xl))):=by subst h;cases yb <;> cases xb <;> simp
theorem aHd{B:Nat}{wm w1:World}{o v' v s:Value}{Q:List (Lt×Value)}{sn:List Int}{x:Lt}(hQ:∀q∈Q,wm.ownsRow B 36 2 q.2 q.1.2.length (aH q.1.2))(ho:wm.ownsRow B 39 2 o Q.length (bA Q))(hs:wm.ownsRow B 3 1 s sn.length (sn.map (Value.int .i64)))
  (hv:wm.ownsRow B 36 2 v x.2.length (aH x.2)) (ho':w1.ownsRow B 39 2 v' (Q.length+1) (bA Q++[.bool x.1,v])) (hg:wm.grownBy w1 o.ownBlock) :
  (∀q∈Q++[(x,v)],w1.ownsRow B 36 2 q.2 q.1.2.length (aH q.1.2))/\w1.ownsRow B 39 2 v' (Q++[(x,v)]).length (bA (Q++[(x,v)]))/\w1.ownsRow B 3 1 s sn.length (sn.map (Value.int .i64)):=by
 refine ⟨λq hq=>?_,?_,hs.kept hg (bV hs ho (by decide))⟩
 ·rcases List.mem_append.1 hq with hq | hq
  ·exact (hQ q hq).kept hg (bV (hQ q hq) ho (by decide))
  ·simp at hq;subst hq;exact hv.kept hg (bV hv ho (by decide))
 ·rw [aC2,zj];exact ho'
theorem aHe{w wm w1:World}{o v' v:Value}{P:List (Lt×Value)}{x:Lt}(ho:wm.ownsRow w.heap.size 39 2 o P.length (bA P))(hb:Below w.heap.size w wm)
  (ho':w1.ownsRow w.heap.size 39 2 v' (P.length+1) (bA P++[.bool x.1,v])) (hg:wm.grownBy w1 o.ownBlock) :
  w1.ownsRow w.heap.size 39 2 v' (P++[(x,v)]).length (bA (P++[(x,v)]))/\Below w.heap.size w w1:=by
 refine ⟨?_,hb.grown hg hb.size λk e=>(aT ho k e).1⟩;rw [aC2,zj];exact ho'
theorem aHf(a:Option Addr)(cp:Nat)(c:List Lt)(w:World)(h:bD w a c)(hfew:aK c<=1000000) :
  Calls zv 43 #[.slice a c.length cp] w λe w'=>∃v Q,e=.returned v/\Q.map zw=aR c/\w'.ownsRow w.heap.size 39 2 v Q.length (bA Q)/\
   (∀q∈Q,w'.ownsRow w.heap.size 36 2 q.2 q.1.2.length (aH q.1.2))/\Below w.heap.size w w':=by
 obtain ⟨iL,hL,hL0,hL1,hL2⟩:=info_parts rX;have hf:=h.few;go_enter Tryz.func43,Tryz.ntmps43;go_wp2;go_loopw [3,4] (λo i wr=>∃(k:Nat) (P:List (Lt×Value)),k<=c.length/\i=.int .i64 k/\P.map zw=cJ (c.take k)/\(∀p∈P,jX w p.2 p.1.2)/\wr.ownsRow w.heap.size 39 2 o P.length (bA P)/\Below w.heap.size w wr)
  (λ_ i _=>c.length-(intOf i).toNat)
 case atStart=>exact ⟨0,[],zu _,rfl,rfl,λp hp=>by simp at hp,zs _ _ _ _,Below.refl _ _⟩
 case round=>
  obtain ⟨k,P,hk,rfl,hP,hA,ho,hb⟩:=hrel;have hPl:P.length<=k:=by
   have h1:=(qG (c.take k)).1;have h2:P.length=(cJ (c.take k)).length:=by rw [<-hP];simp
   have h3:(c.take k).length<=k:=zp _ _;omega
  by_cases hlt:k<c.length
  ·obtain ⟨b,q,aa,acp,rfl,e1,f1,g1⟩:=h.cell k hlt;have e2:=Below.at' hb (zz _) e1;have f2:=Below.at' hb (zz _) f1;have hst:=aH9 c k hlt;rw [<-hP] at hst;generalize c[k]=x at *;obtain ⟨xb,xl⟩:=x;simp only at e2 f2 g1;obtain ⟨oa,ocp,rfl,hoc⟩:=qH ho;have HOC:=aA hoc;have HST:=aA hst;have HA:=aA hA;have HP:=aA hP;have HG:=aA g1;have HB:=aA hb;have hbs:=hb.size;clear e1 f1 h hst hP hA hoc hb g1;go_wp2;go_loopw [5,6] (λkn j wi=>∃n:Nat,n<=P.length/\j=.int .i64 n/\kn=.bool (eK ((P.map zw).take n) (xb,xl))/\∃d,wi=wr.drewN d) (λ_ j _=>P.length-(intOf j).toNat);case atStart=>exact ⟨0,zu _,rfl,rfl,0,rfl⟩
   case round=>
    obtain ⟨n,hn,rfl,rfl,hd⟩:=hrel;by_cases hnl:n<P.length
    ·obtain ⟨g,rfl,hc1,hc2⟩:=HOC.out n hnl;obtain ⟨pa,pcp,hpv,hpn⟩:=HA.out P[n] (zr _);rw [hpv] at hc2;have HM:=aA (show eK ((P.map zw).take (n+1)) (xb,xl)=(eK ((P.map zw).take n) (xb,xl) || decide (P[n].1=(xb,xl))) by
      rw [zy (by simpa using hnl),aH8];simp)
     generalize P[n].1=y at *;obtain ⟨yb,yl⟩:=y;simp only at hc1 hc2 hpn;have q1:=Below.at' (aJ hd) (zz _) hc1;have q2:=Below.at' (aJ hd) (zz _) hc2;have q3:=Below.at' (aJ hd) (zz _) e2;have q4:=Below.at' (aJ hd) (zz _) f2;have cS:=λm=>aH4 pa aa pcp acp yl xl (wr.drewN m) (((hpn.below HB.out (zz _)).drawn hd).drewN m) (((HG.out.below HB.out (zz _)).drawn hd).drewN m)
     have HD:=aA hd;clear hd hc1 hc2 hpv hpn e2 f2;generalize hkn:eK ((P.map zw).take n) (xb,xl)=kn at *;clear hkn;by_cases hs:yl=xl
     ·rw [decide_eq_true hs] at cS;have HC:=aA cS;have HS:=aA hs;clear cS hs;cases kn
      ·go_wp2;go_quiet ((go_at_call 27;exact zt (aB HC _)));go_wp2;go_quiet (fail);go_wp2;go_roundw;case rel=>exact ⟨n+1,by omega,by go_num,by rw [HM.out];exact congrArg Value.bool (aRb _ _ _ _ HS.out),rD HD.out (by first | exact jT _ _ _ | exact ⟨_,rfl⟩)⟩
       case measure=>simp [intOf];omega
      ·go_wp2;go_quiet ((go_at_call 27;exact zt (aB HC _)));go_wp2;go_quiet (fail);go_wp2;go_roundw;case rel=>exact ⟨n+1,by omega,by go_num,by rw [HM.out];simp,rD HD.out (by first | exact jT _ _ _ | exact ⟨_,rfl⟩)⟩
       case measure=>simp [intOf];omega
     ·rw [decide_eq_false hs] at cS;have HC:=aA cS;have HS:=aA hs;clear cS hs;cases kn;all_goals
       go_wp2;go_quiet ((go_at_call 27;exact zt (aB HC _)));go_wp2;go_quiet (fail);go_wp2;go_roundw;case rel=>exact ⟨n+1,by omega,by go_num,by rw [HM.out];simp [Prod.ext_iff,HS.out],rD HD.out (by first | exact jT _ _ _ | exact ⟨_,rfl⟩)⟩
       case measure=>simp [intOf];omega
    ·have hPn:(P.map zw).take n=P.map zw:=zx (by simp;omega);rw [hPn];clear hPn HOC;have q3:=Below.at' (aJ hd) (zz _) e2;have q4:=Below.at' (aJ hd) (zz _) f2;have hod:=aU ho (aJ hd) (zz _);have hbd:=HB.out.trans ((aJ hd).mono hbs);have HBD:=aA hbd;have hbds:=hbd.size;clear hd e2 f2 ho hbd;cases hkn:eK (P.map zw) (xb,xl)
     ·have HST':Hid (cJ (c.take (k+1))=P.map zw++[(xb,xl)]):=aA (by rw [HST.out];simp [eH,hkn]);have HOD:=aA hod;clear hkn HST;go_wp2_with (first
       | (at_builtin;refine wpList_append_own _ rfl (.tmp 55) (.tmp 60) 22 rfl w.heap.size 39 iL (.agg #[.bool false,.slice none 0 0]) 2 32 zo hL hL0 hL1 hL2 rfl (by decide) _ _ _ rfl (hod.alloc _) ⟨wr.heap.size,0,none⟩ 1 1 [.bool xb,.slice aa xl.length acp] rfl rfl ?c1 ?c2 ?c3 ?c4 ?c5 ?_)
       | go_in)
      case c1=>exact gF _ _ _ _ _ (by simp)
      case c2=>first | exact rY _ _ _ _ | exact ⟨rfl,rfl⟩
      case c3=>unfold maxLen;omega
      case c4=>omega
      case c5=>first | omega | (simp;omega)
      intro v' w1 ho' hg' _;have R:=aHe (x:=(xb,xl)) (HOD.out.alloc _) (HBD.out.alloc hbds _) ho' hg';clear ho' hg' hod;go_wp2;go_roundw;case rel=>exact ⟨k+1,P++[((xb,xl),.slice aa xl.length acp)],by omega,by go_num,by rw [HST'.out];simp,aHc HA.out ⟨aa,acp,rfl,HG.out⟩,R.1,R.2⟩
      case measure=>simp [intOf];omega
     ·have HST':Hid (cJ (c.take (k+1))=P.map zw):=aA (by rw [HST.out];simp [eH,hkn]);have HOD:=aA hod;clear hkn HST hod;go_wp2;go_roundw;case rel=>exact ⟨k+1,P,by omega,by go_num,HST'.out.symm,HA.out,HOD.out,HBD.out⟩
      case measure=>simp [intOf];omega
  ·have hk1:c.take k=c:=zx (by omega);rw [hk1] at hP;have hPb:=qG c;rw [<-hP] at hPb;obtain ⟨oa,ocp,rfl,hoc⟩:=qH ho;have HOC:=aA hoc;have HO':Hid (aR c=(cL (P.map zw)).1):=by unfold aR;rw [<-hP];exact rfl
   have HA:=aA hA;have HB:=aA hb;have HPB:=aA hPb;have hbs:=hb.size;clear hk1 hP hPb hoc hA hb ho h;go_wp2;go_loopw [8,9,10] (λo s i w4=>∃(n:Nat) (Q:List (Lt×Value)),n<=P.length/\i=.int .i64 n/\Q.map zw=(cL ((P.map zw).take n)).1/\(∀q∈Q,w4.ownsRow wr.heap.size 36 2 q.2 q.1.2.length (aH q.1.2))/\
     w4.ownsRow wr.heap.size 39 2 o Q.length (bA Q)/\w4.ownsRow wr.heap.size 3 1 s (cL ((P.map zw).take n)).2.length ((cL ((P.map zw).take n)).2.map (Value.int .i64))/\Below wr.heap.size wr w4)
    (λ_ _ i _=>P.length-(intOf i).toNat)
   case atStart=>exact ⟨0,[],zu _,rfl,rfl,λq hq=>by simp at hq,zs _ _ _ _,zs _ _ _ _,Below.refl _ _⟩
   case round=>
    obtain ⟨n,Q,hn,rfl,hQ,hQA,hQo,hQs,hQb⟩:=hrel;have hQl:Q.length<=n:=by
     have h1:=(pA ((P.map zw).take n)).1;have h2:Q.length=(cL ((P.map zw).take n)).1.length:=by rw [<-hQ];simp
     have h3:((P.map zw).take n).length<=n:=zp _ _;omega
    have hsb:(cL ((P.map zw).take n)).2.length<=1000000:=by have h1:=(pA ((P.map zw).take n)).2;have h2:=rW (P.map zw) n;have h3:=HPB.out.2.1;omega
    by_cases hnl:n<P.length
    ·obtain ⟨g,rfl,hc1,hc2⟩:=HOC.out n hnl;obtain ⟨pa,pcp,hpv,hpn⟩:=HA.out P[n] (zr _);rw [hpv] at hc2;have hst:=aHa (P.map zw) n (by simpa using hnl);have hlen:P[n].1.2.length<=1000000:=by
      have h2:=zF (P.map zw) P[n].1 (List.mem_map.2 ⟨P[n],zr _,rfl⟩);have h3:=HPB.out.2.1;omega
     rw [List.getElem_map] at hst;generalize P[n].1=y at *;obtain ⟨yb,yl⟩:=y;generalize cL ((P.map zw).take n)=ST at *;obtain ⟨so,sn⟩:=ST;simp only at hc1 hc2 hpn hQ hQs hsb hlen;have q1:=Below.at' hQb (zz _) hc1;have q2:=Below.at' hQb (zz _) hc2;have hpw:=hpn.below HB.out (zz _);have hQbs:=hQb.size;have cR:=aLv _ pa pcp yl u9 sn _ wr hpw hQb (zz _) hQbs hQs (by omega);have hst':cL ((P.map zw).take (n+1))=(so++[(yb,(cE yl sn).1)],(cE yl sn).2):=hst;have hrb:=sT yl sn;generalize cE yl sn=RL at *;obtain ⟨rl,rs⟩:=RL;simp only at cR hst' hrb;have HST:=aA hst';have HQ:=aA hQ;have HR:=aA cR;have HQA:=aA hQA;have HRB:=aA hrb;clear hrb hst hst' hpv hpn hpw hQ cR hQs hQA;go_wp2_with (first
      | (go_at_call 68;refine (aB HR).mono ?_;rintro e w5 ⟨vo,vs',rfl,hvo,hvs,hkp⟩;obtain ⟨va,vcp,rfl⟩:=aS hvo;have q5:=Below.at' (hQb.trans (hkp.below hQbs)) (zz _) hc1;have ho5:=hkp.own (by decide) hQo;have HB5:=aA (hQb.trans (hkp.below hQbs));have h5s:=HB5.out.size;have HQA5:=aA (λq hq=>hkp.own (by decide) (HQA.out q hq));clear hkp)
      | (at_builtin;refine wpList_append_own _ rfl (.tmp 79) (.tmp 87) 22 rfl _ 39 iL (.agg #[.bool false,.slice none 0 0]) 2 32 zo hL hL0 hL1 hL2 rfl (by decide) _ _ _ rfl (ho5.alloc _) ⟨w5.heap.size,0,none⟩ 1 1 [.bool yb,.slice va rl.length vcp] rfl rfl ?c1 ?c2 ?c3 ?c4 ?c5 ?_)
      | go_in)
     case c1=>exact gF _ _ _ _ _ (by simp)
     case c2=>first | exact rY _ _ _ _ | exact ⟨rfl,rfl⟩
     case c3=>unfold maxLen;omega
     case c4=>omega
     case c5=>exact zm h5s (zk _ _ none).size
     intro v' w1 ho' hg' _;have R:=aHd (x:=(yb,rl)) (λq hq=>(HQA5.out q hq).alloc _) (ho5.alloc _) (hvs.alloc _) ((dI hvo hQbs).alloc _) ho' hg';have HB1:=aA ((HB5.out.alloc h5s _).grown hg' (by simp;omega) λk e=>(aT ho5 k e).1);have HR1:=aA R;clear ho' hg' ho5 hvs hvo R;go_wp2;go_roundw;case rel=>exact ⟨n+1,Q++[((yb,rl),.slice va rl.length vcp)],by omega,by go_num,by rw [HST.out,List.map_append,HQ.out];rfl,HR1.out.1,HR1.out.2.1,by rw [HST.out];exact HR1.out.2.2,HB1.out⟩
     case measure=>simp [intOf];omega
    ·have hPn:(P.map zw).take n=P.map zw:=zx (by simp;omega);rw [hPn] at hQ;rw [<-HO'.out] at hQ;have F:=aA (zn hQ (zn (dI hQo hbs) (zn (λq hq=>dI (hQA q hq) hbs) (HB.out.trans (hQb.mono hbs)))));clear hQ hQA hQo hQs hQb hPn;go_wp2;go_ret;exact ⟨_,Q,rfl,F.out⟩
end
section
open Go.RowKit Go.Shelf
theorem qI(s:ByteArray)(x:Int)(w:World) :
  Calls zv 83 #[.agg #[.string s,.int .i64 x]] w λe w'=>e=.returned (.bool s.toList.isEmpty)/\Below w.heap.size w w':=by
 go_enter Tryz.func83,Tryz.ntmps83;go_wp2;go_ret;exact ⟨rfl,(Below.refl _ _).alloc (zz _) _⟩
theorem jL{w w1:World}{s x:Value}{t:TypeId}(hb:Below (w.alloc (.cells #[s,x] t)).heap.size (w.alloc (.cells #[s,x] t)) w1) :
  w1.cell? ⟨w.heap.size,0,none⟩=some s/\w1.cell? ⟨w.heap.size,1,none⟩=some x/\Below w.heap.size w w1:=
 ⟨Below.at' hb (zz _) (by simp),Below.at' hb (zz _) (by simp),((Below.refl _ _).alloc (zz _) _).trans (hb.mono (by simp))⟩
theorem aC3(a:Option Addr)(cp:Nat)(c:List Lt)(w:World)(h:bD w a c)(h8:c.length<=100000) :
  Calls zv 57 #[.slice a c.length cp] w λe w'=>e=.returned (.int .i64 (aK c))/\Below w.heap.size w w':=by
 have hc:aK c<=100000*5864062014805:=zm (aH6 c λk hk=>by obtain ⟨_,_,_,_,_,_,_,g⟩:=h.cell k hk;exact g.few) (zl _ h8);go_enter Tryz.func57,Tryz.ntmps57;go_wp2;go_loopw [3,8] (λs i wr=>∃k:Nat,k<=c.length/\i=.int .i64 k/\s=.int .i64 (aK (c.take k))/\Below w.heap.size w wr) (λ_ i _=>c.length-(intOf i).toNat);case atStart=>exact ⟨0,zu _,rfl,rfl,Below.refl _ _⟩
 case round=>
  obtain ⟨k,hk,rfl,rfl,hb⟩:=hrel;have hct:=rW c k;by_cases hlt:k<c.length
  ·obtain ⟨p1,o1,aa1,cp1,rfl,e1,f1,g1⟩:=h.cell k hlt;have hg:=g1.few;have HS:Hid (aK (c.take (k+1))=aK (c.take k)+c[k].2.length):=by
    rw [zy hlt,oD];exact rfl
   have e2:=Below.at' hb (zz _) e1;have f2:=Below.at' hb (zz _) f1;have HB:=aA hb;clear h g1 e1 f1 hb;go_wp2;go_roundw;case rel=>exact ⟨k+1,by omega,by go_num,by rw [HS.out];go_num,HB.out.alloc HB.out.size _⟩
   case measure=>simp [intOf];omega
  ·have HB:=aA hb;clear hb;go_wp2;go_ret;have hk1:c.take k=c:=zx (by omega);rw [hk1];exact ⟨rfl,HB.out⟩
theorem zG(a:Option Addr)(cp:Nat)(c:List Lt)(w:World)(h:bD w a c)(h8:c.length<=8) :
 Calls zv 57 #[.slice a c.length cp] w λe w'=>e=.returned (.int .i64 (aK c))/\Below w.heap.size w w':=aC3 a cp c w h (by omega)
theorem zH(a:Option Addr)(cp:Nat)(c:List Lt)(w:World)(h:bD w a c) :
  Calls zv 53 #[.slice a c.length cp] w λe w'=>e=.returned (.bool (dL c))/\Below w.heap.size w w':=by
 have b:=h.few;by_cases h8:c.length<=8
 ·have CC:=aA (zG a cp c w h h8);have HF:=aA (show dL c=decide ((aK c:Int)<=60) by simp [dL,h8];omega);clear h;go_enter Tryz.func53,Tryz.ntmps53;go_wp2_with (go_at_call 57;refine (aB CC).mono ?_;rintro e w' ⟨rfl,hb⟩;have HB:=aA hb;clear hb);go_ret;exact ⟨cH HF.out.symm,HB.out⟩
 ·have hf:dL c=false:=by simp [dL,h8]
  rw [hf];clear hf h;go_enter Tryz.func53,Tryz.ntmps53;go_wp2;go_ret;exact ⟨rfl,Below.refl _ _⟩
theorem aRc(a1 a2:Option Addr)(c1 c2:Nat)(l1 l2:List (ByteArray×Int))(w:World)(h1:cM w a1 l1)(h2:cM w a2 l2) :
  Calls zv 130 #[.slice a1 l1.length c1,.slice a2 l2.length c2] w λe w'=>e=.returned (.bool (decide (l1=l2)))/\∃n,w'=w.drewN n:=by
 have b1:=h1.few;have b2:=h2.few;by_cases hl:l1.length=l2.length
 ·have hn:((l1.length:Int) != (l2.length:Int))=false:=by rw [hl];simp
  have HL:Hid (l1.length=l2.length):=hl;clear hl;go_enter Tryz.func130,Tryz.ntmps130;go_wp2;go_loopw [13] (λi wr=>∃k:Nat,k<=l1.length/\i=.int .i64 k/\(∃n,wr=w.drewN n)/\l1.take k=l2.take k) (λi _=>l1.length-(intOf i).toNat);case atStart=>exact ⟨0,zu _,rfl,⟨0,rfl⟩,rfl⟩
  case round=>
   obtain ⟨k,hk,rfl,⟨n,rfl⟩,ht⟩:=hrel;by_cases hlt:k<l1.length
   ·obtain ⟨p1,o1,rfl,e1,f1⟩:=h1.cell k hlt;have hlt2:(k:Int)<(l2.length:Int):=by have:=HL.out;omega
    have hlt3:k<l2.length:=by omega
    obtain ⟨p2,o2,rfl,e2,f2⟩:=h2.cell k hlt3;have hb:=rE l1[k] l2[k];have g:=sP;have q:=rF l1[k].1 l2[k].1 l1[k].2 l2[k].2;clear h1 h2;by_cases he:l1[k]=l2[k]
    ·rw [decide_eq_true he] at hb;have HE:Hid (l1[k]=l2[k]):=he;clear he;go_wp2;go_quiet (fail);go_wp2;go_roundw;case rel=>exact ⟨k+1,by omega,by go_num,(by first | exact jT _ _ _ | exact ⟨_,rfl⟩),by rw [zy hlt,zy hlt3,ht,HE.out]⟩
     case measure=>simp [intOf];omega
    ·rw [decide_eq_false he] at hb;have HE:Hid (¬l1[k]=l2[k]):=he;clear he;go_wp2;go_quiet (fail);go_wp2;go_ret;refine ⟨?_,(by first | exact jT _ _ _ | exact ⟨_,rfl⟩)⟩;have:¬l1=l2:=λh=>HE.out (by subst h;rfl)
     simp [this]
   ·go_wp2;go_ret;refine ⟨?_,⟨_,rfl⟩⟩;have hk1:l1.take k=l1:=zx (by omega);have hk2:l2.take k=l2:=zx (by have:=HL.out;omega);rw [hk1,hk2] at ht;simp [ht]
 ·have hn:((l1.length:Int) != (l2.length:Int))=true:=by rw [bne_iff_ne];omega
  have hne:¬l1=l2:=λh=>hl (by rw [h])
  have HN:Hid (¬l1=l2):=hne;clear hne hl;go_enter Tryz.func130,Tryz.ntmps130;go_wp2;go_ret;exact ⟨by simp [HN.out],0,rfl⟩
theorem aHg(xb yb:Bool)(a1 a2:Option Addr)(c1 c2:Nat)(xl yl:List Nd)(w:World)(h1:cM w a1 xl)(h2:cM w a2 yl) :
  Calls zv 111 #[.agg #[.bool xb,.slice a1 xl.length c1],.agg #[.bool yb,.slice a2 yl.length c2]] w λe w'=>e=.returned (.bool (mY (xb,xl) (yb,yl)))/\Below w.heap.size w w':=by
 have hb0:Below w.heap.size w ((w.alloc (.cells #[.bool xb,.slice a1 xl.length c1] 39)).alloc (.cells #[.bool yb,.slice a2 yl.length c2] 39)):=((Below.refl _ _).alloc (zz _) _).alloc (by simp) _;have CE:=aA (aRc a1 a2 c1 c2 xl yl _ (h1.below hb0 (zz _)) (h2.below hb0 (zz _)));have HB0:=aA hb0;clear hb0 h1 h2;by_cases hb:xb=yb
 ·subst hb;have HE:=aA (show mY (xb,xl) (xb,yl)=decide (xl=yl) by simp [mY]);go_enter Tryz.func111,Tryz.ntmps111;go_wp2_with (go_at_call 130;refine (aB CE).mono ?_;rintro e w1 ⟨rfl,hd⟩;have HB1:=aA (HB0.out.trans ((aJ hd).mono (by simp;omega)));clear hd);go_ret;exact ⟨cH HE.out.symm,HB1.out⟩
 ·have HE:=aA (show mY (xb,xl) (yb,yl)=false by simp [mY,hb]);have hbe:(xb == yb)=false:=by simp [hb]
  clear hb;go_enter Tryz.func111,Tryz.ntmps111;go_wp2;go_ret;exact ⟨cH HE.out.symm,HB0.out⟩
theorem aRd(xb yb:Bool)(a1 a2:Option Addr)(c1 c2 g:Nat)(xl yl:List Nd)(w:World)(h1:cM w a1 xl)(h2:cM w a2 yl)(g0:w.cell? ⟨g,0,none⟩=some (.bool yb))(g1:w.cell? ⟨g,1,none⟩=some (.slice a2 yl.length c2)) :
  Calls zv 110 #[.agg #[.bool xb,.slice a1 xl.length c1],.pointer (some ⟨g,0,none⟩)] w λe w'=>e=.returned (.bool (mY (xb,xl) (yb,yl)))/\Below w.heap.size w w':=by
 have hb0:Below w.heap.size w (w.alloc (.cells #[.bool xb,.slice a1 xl.length c1] 39)):=(Below.refl _ _).alloc (zz _) _;have CS:=aA (aHg xb yb a1 a2 c1 c2 xl yl _ (h1.below hb0 (zz _)) (h2.below hb0 (zz _)));have q0:=Below.at' hb0 (zz _) g0;have q1:=Below.at' hb0 (zz _) g1;have HB0:=aA hb0;clear hb0 h1 h2;go_enter Tryz.func110,Tryz.ntmps110;go_wp2_with (go_at_call 111;refine (aB CS).mono ?_;rintro e w1 ⟨rfl,hb⟩;have HB1:=aA (HB0.out.trans (hb.mono (by simp)));clear hb);go_ret;exact ⟨rfl,HB1.out⟩
theorem jX.below{w w1:World}{v:Value}{l:List Nd}(h:jX w v l){B:Nat}(k:Below B w w1)(hB:w.heap.size<=B):jX w1 v l:=by obtain ⟨a,cap,h1,h2⟩:=h;exact ⟨a,cap,h1,h2.below k hB⟩
theorem aHh(P:List (Lt×Value))(y:Lt)(k:Nat)(h:k<P.length):eK ((P.map zw).take (k+1)) y=(eK ((P.map zw).take k) y || mY P[k].1 y):=by rw [zy (by simpa using h),aH8,aR8];simp
theorem aHi(P:List (Lt×Value))(y:Lt)(k:Nat)(h:eK ((P.map zw).take k) y=true):eK (P.map zw) y=true:=by rw [aH7] at h ⊢;exact List.mem_of_mem_take h
theorem aRe(a a2:Option Addr)(cap c2 g:Nat)(P:List (Lt×Value))(yb:Bool)(yl:List Nd)(w:World)(hf:P.length<=4398046511104)
  (hc:∀k (h:k<P.length),∃g',a=some ⟨g',0,none⟩/\w.cell? ⟨g',k*2,none⟩=some (.bool P[k].1.1)/\w.cell? ⟨g',k*2+1,none⟩=some P[k].2)
  (hA:∀p∈P,jX w p.2 p.1.2) (h2:cM w a2 yl) (g0:w.cell? ⟨g,0,none⟩=some (.bool yb)) (g1:w.cell? ⟨g,1,none⟩=some (.slice a2 yl.length c2)) :
  Calls zv 131 #[.slice a P.length cap,.func (Fn.func 110) #[] #[.pointer (some ⟨g,0,none⟩)]] w λe w'=>∃r:Int,e=.returned (.int .i64 r)/\decide (0<=r)=eK (P.map zw) (yb,yl)/\Below w.heap.size w w':=by
 have HC:=aA hc;have HA:=aA hA;have H2:=aA h2;clear hc hA h2;go_enter Tryz.func131,Tryz.ntmps131;go_wp2;go_loopw [8] (λi wr=>∃k:Nat,k<=P.length/\i=.int .i64 k/\eK ((P.map zw).take k) (yb,yl)=false/\Below w.heap.size w wr) (λi _=>P.length-(intOf i).toNat);case atStart=>exact ⟨0,zu _,rfl,rfl,Below.refl _ _⟩
 case round=>
  obtain ⟨k,hk,rfl,hm,hb⟩:=hrel;have HM:=aA hm;clear hm;by_cases hlt:k<P.length
  ·obtain ⟨g',rfl,e1,f1⟩:=HC.out k hlt;obtain ⟨pa,pcp,hpv,hpn⟩:=HA.out P[k] (zr _);rw [hpv] at f1;have hmt:=aHh P (yb,yl) k hlt;rw [HM.out,Bool.false_or] at hmt;have hmx:=aHi P (yb,yl) (k+1);rw [hmt] at hmx;generalize P[k].1=x at *;obtain ⟨xb,xl⟩:=x;simp only at e1 f1 hpn;have e2:=Below.at' hb (zz _) e1;have f2:=Below.at' hb (zz _) f1;have CL:=aA (aRd xb yb pa a2 pcp c2 g xl yl wr (hpn.below hb (zz _)) (H2.out.below hb (zz _)) (Below.at' hb (zz _) g0) (Below.at' hb (zz _) g1));have HMT:=aA hmt;have HMX:=aA hmx;have HB:=aA hb;have hbs:=hb.size;clear hmt hmx hb hpv hpn e1 f1;cases hl:mY (xb,xl) (yb,yl)
   ·rw [hl] at CL HMT;clear hl;go_wp2_with (go_at_call 110;refine (aB CL).mono ?_;rintro e w1 ⟨rfl,hb1⟩;have HB1:=aA (HB.out.trans (hb1.mono hbs));clear hb1);go_roundw;case rel=>exact ⟨k+1,by omega,by go_num,HMT.out,HB1.out⟩
    case measure=>simp [intOf];omega
   ·rw [hl] at CL HMX;clear hl;go_wp2_with (go_at_call 110;refine (aB CL).mono ?_;rintro e w1 ⟨rfl,hb1⟩;have HB1:=aA (HB.out.trans (hb1.mono hbs));clear hb1);go_ret;exact ⟨_,rfl,by rw [HMX.out (by first | rfl | trivial)];simp,HB1.out⟩
  ·have hk1:(P.map zw).take k=P.map zw:=zx (by simp;omega);rw [hk1] at HM;have HB:=aA hb;clear hk1 hb;go_wp2;go_ret;exact ⟨_,rfl,by rw [HM.out];rfl,HB.out⟩
theorem aRf(a a2:Option Addr)(cap c2 g:Nat)(P:List (Lt×Value))(yb:Bool)(yl:List Nd)(w:World)(hf:P.length<=4398046511104)
  (hc:∀k (h:k<P.length),∃g',a=some ⟨g',0,none⟩/\w.cell? ⟨g',k*2,none⟩=some (.bool P[k].1.1)/\w.cell? ⟨g',k*2+1,none⟩=some P[k].2)
  (hA:∀p∈P,jX w p.2 p.1.2) (h2:cM w a2 yl) (g0:w.cell? ⟨g,0,none⟩=some (.bool yb)) (g1:w.cell? ⟨g,1,none⟩=some (.slice a2 yl.length c2)) :
  Calls zv 112 #[.slice a P.length cap,.func (Fn.func 110) #[] #[.pointer (some ⟨g,0,none⟩)]] w λe w'=>e=.returned (.bool (eK (P.map zw) (yb,yl)))/\Below w.heap.size w w':=by
 have CI:=aA (aRe a a2 cap c2 g P yb yl w hf hc hA h2 g0 g1);clear hc hA h2 g0 g1;go_enter Tryz.func112,Tryz.ntmps112;go_wp2_with (go_at_call 131;refine (aB CI).mono ?_;rintro e w1 ⟨r,rfl,hr,hb⟩;have HR:=aA hr;have HB:=aA hb;clear hr hb);go_ret;exact ⟨cH HR.out,HB.out⟩
theorem aHj(a:Option Addr)(cp:Nat)(c:List Lt)(w:World)(h:bD w a c) :
  Calls zv 85 #[.slice a c.length cp] w λe w'=>∃v P,e=.returned v/\P.map zw=cJ c/\(∀p∈P,jX w p.2 p.1.2)/\w'.ownsRow w.heap.size 39 2 v P.length (bA P)/\Below w.heap.size w w':=by
 obtain ⟨iL,hL,hL0,hL1,hL2⟩:=info_parts rX;have hf:=h.few;go_enter Tryz.func85,Tryz.ntmps85;go_wp2;go_loopw [3,9] (λo i wr=>∃(k:Nat) (P:List (Lt×Value)),k<=c.length/\i=.int .i64 k/\P.map zw=cJ (c.take k)/\(∀p∈P,jX w p.2 p.1.2)/\wr.ownsRow w.heap.size 39 2 o P.length (bA P)/\Below w.heap.size w wr)
  (λ_ i _=>c.length-(intOf i).toNat)
 case atStart=>exact ⟨0,[],zu _,rfl,rfl,λp hp=>by simp at hp,zs _ _ _ _,Below.refl _ _⟩
 case round=>
  obtain ⟨k,P,hk,rfl,hP,hA,ho,hb⟩:=hrel;have hPl:P.length<=k:=by
   have h1:=(qG (c.take k)).1;have h2:P.length=(cJ (c.take k)).length:=by rw [<-hP];simp
   have h3:(c.take k).length<=k:=zp _ _;omega
  by_cases hlt:k<c.length
  ·obtain ⟨b,q,aa,acp,rfl,e1,f1,g1⟩:=h.cell k hlt;have e2:=Below.at' hb (zz _) e1;have f2:=Below.at' hb (zz _) f1;have hst:=aH9 c k hlt;rw [<-hP] at hst;generalize c[k]=x at *;obtain ⟨xb,xl⟩:=x;simp only at e2 f2 g1;obtain ⟨oa,ocp,rfl,hoc⟩:=qH ho;have hbs:=hb.size;have hbx:Below w.heap.size w (wr.alloc (.cells #[.bool xb,.slice aa xl.length acp] 39)):=hb.alloc hbs _;have hbw:Below wr.heap.size wr (wr.alloc (.cells #[.bool xb,.slice aa xl.length acp] 39)):=(Below.refl _ _).alloc (zz _) _;have CC:=aA (aRf oa aa ocp acp wr.heap.size P xb xl (wr.alloc (.cells #[.bool xb,.slice aa xl.length acp] 39)) (by omega)
    (λj hj=>by obtain ⟨g',h1,h2,h3⟩:=hoc j hj;exact ⟨g',h1,Below.at' hbw (zz _) h2,Below.at' hbw (zz _) h3⟩)
    (λp hp=>(hA p hp).below hbx (zz _)) (g1.below hbx (zz _)) (by simp) (by simp))
   have HST:=aA hst;have HA:=aA hA;have HG:=aA g1;have HBX:=aA hbx;have HO:=aA ho;clear e1 f1 h hst hP hA hoc hb g1 hbx hbw;cases hm:eK (P.map zw) (xb,xl)
   ·have HST':Hid (cJ (c.take (k+1))=P.map zw++[(xb,xl)]):=aA (by rw [HST.out];simp [eH,hm]);rw [hm] at CC;clear hm HST;go_wp2_with (first
     | (go_at_call 112;refine (aB CC).mono ?_;rintro e w1 ⟨rfl,hb1⟩;obtain ⟨q1,q2,q3⟩:=jL hb1;have ho1:=aU (ho.alloc (.cells #[.bool xb,.slice aa xl.length acp] 39)) hb1 (zz _);have HB1:=aA (HBX.out.trans (hb1.mono HBX.out.size));have h1s:=HB1.out.size;clear hb1 q3)
     | (at_builtin;refine wpList_append_own _ rfl _ _ 22 rfl w.heap.size 39 iL (.agg #[.bool false,.slice none 0 0]) 2 32 zo hL hL0 hL1 hL2 rfl (by decide) _ _ _ rfl (ho1.alloc _) ⟨w1.heap.size,0,none⟩ 1 1 [.bool xb,.slice aa xl.length acp] rfl rfl ?c1 ?c2 ?c3 ?c4 ?c5 ?_)
     | go_in)
    case c1=>exact gF _ _ _ _ _ (by simp)
    case c2=>first | exact rY _ _ _ _ | exact ⟨rfl,rfl⟩
    case c3=>unfold maxLen;omega
    case c4=>omega
    case c5=>exact zm h1s (zk _ _ none).size
    intro v' w2 ho' hg' _;have R:=aHe (x:=(xb,xl)) (ho1.alloc _) (HB1.out.alloc h1s _) ho' hg';clear ho' hg' ho1;go_wp2;go_roundw;case rel=>exact ⟨k+1,P++[((xb,xl),.slice aa xl.length acp)],by omega,by go_num,by rw [HST'.out];simp,aHc HA.out ⟨aa,acp,rfl,HG.out⟩,R.1,R.2⟩
    case measure=>simp [intOf];omega
   ·have HST':Hid (cJ (c.take (k+1))=P.map zw):=aA (by rw [HST.out];simp [eH,hm]);rw [hm] at CC;clear hm HST;go_wp2_with (first
     | (go_at_call 112;refine (aB CC).mono ?_;rintro e w1 ⟨rfl,hb1⟩;have HO1:=aA (aU (HO.out.alloc (.cells #[.bool xb,.slice aa xl.length acp] 39)) hb1 (zz _));have HB1:=aA (HBX.out.trans (hb1.mono HBX.out.size));clear hb1)
     | go_in)
    go_roundw;case rel=>exact ⟨k+1,P,by omega,by go_num,HST'.out.symm,HA.out,HO1.out,HB1.out⟩
    case measure=>simp [intOf];omega
  ·have hk1:c.take k=c:=zx (by omega);rw [hk1] at hP;have F:=aA (zn hP (zn hA (zn ho hb)));clear hk1 hP hA ho hb;go_wp2;go_ret;exact ⟨_,P,rfl,F.out⟩
end
end Go.Proofs.YtcldkjcpofjmhaaGreatDoor
