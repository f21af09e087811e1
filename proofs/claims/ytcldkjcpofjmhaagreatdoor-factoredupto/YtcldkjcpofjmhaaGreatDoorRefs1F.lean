import Derived.Test.YtcldkjcpofjmhaaGreatDoorBase0F
import Derived.Shelf.Abstract
open List renaming take_succ_eq_append_getElem→zz,take_of_length_le→zx,foldl_cons→zs,getElem_mem→zq,length_take_le→zo,length_append→zn,foldl_append→zl,length_cons→zj
open Nat renaming le_refl→zy,zero_le→zu,mul_le_mul_right→zp,le_trans→zm
open Prod renaming fst→zw
namespace Go.Proofs.YtcldkjcpofjmhaaGreatDoor
open Calls renaming quiet_of→zt
open _root_.Go.Proofs.Tryz renaming prog→zv,underlying22→zk
open World renaming ownsRow_nil→zr
set_option maxHeartbeats 2000000
set_option maxRecDepth 100000
variable{P:List (Lt×Value)}{v:Value}{w w1:World}
section
open Go.RowKit
theorem aHv(a1 a2:Option Addr)(c1 c2:Nat)(l1 l2:List (ByteArray×Int))(w:World)(h1:cU w a1 l1)(h2:cU w a2 l2) :
  Calls zv 27 #[.slice a1 l1.length c1,.slice a2 l2.length c2] w λe w'=>e=.returned (.bool (decide (l1=l2)))/\∃n,w'=w.drewN n:=by
 have b1:=h1.few;have b2:=h2.few;by_cases hl:l1.length=l2.length
 ·have hn:((l1.length:Int) != (l2.length:Int))=false:=by rw [hl];simp
  have HL:Hid (l1.length=l2.length):=hl;clear hl;go_enter Tryz.func27,Tryz.ntmps27;go_wp2;go_loopw [5] (λi wr=>∃k:Nat,k<=l1.length/\i=.int .i64 k/\(∃n,wr=w.drewN n)/\l1.take k=l2.take k) (λi _=>l1.length-(intOf i).toNat);case atStart=>exact ⟨0,zu _,rfl,⟨0,rfl⟩,rfl⟩
  case round=>
   obtain ⟨k,hk,rfl,⟨n,rfl⟩,ht⟩:=hrel;by_cases hlt:k<l1.length
   ·obtain ⟨p1,o1,rfl,e1,f1⟩:=h1.cell k hlt;have hlt2:(k:Int)<(l2.length:Int):=by have:=HL.out;omega
    have hlt3:k<l2.length:=by omega
    obtain ⟨p2,o2,rfl,e2,f2⟩:=h2.cell k hlt3;have hb:=rQ l1[k] l2[k];have g:=tJ;have q:=rR l1[k].1 l2[k].1 l1[k].2 l2[k].2;clear h1 h2;by_cases he:l1[k]=l2[k]
    ·rw [decide_eq_true he] at hb;have HE:Hid (l1[k]=l2[k]):=he;clear he;go_wp2;go_quiet (fail);go_wp2;go_roundw;case rel=>exact ⟨k+1,by omega,by go_num,(by first | exact jZ _ _ _ | exact ⟨_,rfl⟩),by rw [zz hlt,zz hlt3,ht,HE.out]⟩
     case measure=>simp [intOf];omega
    ·rw [decide_eq_false he] at hb;have HE:Hid (¬l1[k]=l2[k]):=he;clear he;go_wp2;go_quiet (fail);go_wp2;go_ret;refine ⟨?_,(by first | exact jZ _ _ _ | exact ⟨_,rfl⟩)⟩;have:¬l1=l2:=λh=>HE.out (by subst h;rfl)
     simp [this]
   ·go_wp2;go_ret;refine ⟨?_,⟨_,rfl⟩⟩;have hk1:l1.take k=l1:=zx (by omega);have hk2:l2.take k=l2:=zx (by have:=HL.out;omega);rw [hk1,hk2] at ht;simp [ht]
 ·have hn:((l1.length:Int) != (l2.length:Int))=true:=by rw [bne_iff_ne];omega
  have hne:¬l1=l2:=λh=>hl (by rw [h])
  have HN:Hid (¬l1=l2):=hne;clear hne hl;go_enter Tryz.func27,Tryz.ntmps27;go_wp2;go_ret;exact ⟨by simp [HN.out],0,rfl⟩
def nL(x y:Lt):Bool:=decide (x.2=y.2) && x.1 == y.1
theorem aSx(x y:Lt):nL x y=decide (x=y):=by rw [Bool.eq_iff_iff];simp [nL,Prod.ext_iff,and_comm]
theorem aHw(a1 a2:Option Addr)(c1 c2:Nat)(l1 l2:List Lt)(w:World)(h1:bE w a1 l1)(h2:bE w a2 l2) :
  Calls zv 14 #[.slice a1 l1.length c1,.slice a2 l2.length c2] w λe w'=>e=.returned (.bool (decide (l1=l2)))/\∃n,w'=w.drewN n:=by
 have b1:=h1.few;have b2:=h2.few;by_cases hl:l1.length=l2.length
 ·have hn:((l1.length:Int) != (l2.length:Int))=false:=by rw [hl];simp
  have HL:Hid (l1.length=l2.length):=hl;clear hl;go_enter Tryz.func14,Tryz.ntmps14;go_wp2;go_loopw [5] (λi wr=>∃k:Nat,k<=l1.length/\i=.int .i64 k/\(∃n,wr=w.drewN n)/\l1.take k=l2.take k) (λi _=>l1.length-(intOf i).toNat);case atStart=>exact ⟨0,zu _,rfl,⟨0,rfl⟩,rfl⟩
  case round=>
   obtain ⟨k,hk,rfl,hq,ht⟩:=hrel;replace h1:=h1.drawn hq
   replace h2:=h2.drawn hq
   have HQ:=aA hq;clear hq;by_cases hlt:k<l1.length
   ·obtain ⟨p1,o1,aa1,cp1,rfl,e1,f1,g1⟩:=h1.cell k hlt;have hlt2:(k:Int)<(l2.length:Int):=by have:=HL.out;omega
    have hlt3:k<l2.length:=by omega
    obtain ⟨p2,o2,aa2,cp2,rfl,e2,f2,g2⟩:=h2.cell k hlt3;have cS:=λm=>aHv aa1 aa2 cp1 cp2 l1[k].2 l2[k].2 (wr.drewN m) (g1.drewN m) (g2.drewN m)
    clear h1 h2 g1 g2;by_cases hs:l1[k].2=l2[k].2
    ·rw [decide_eq_true hs] at cS;have HC:=aA cS;have HS:=aA hs;clear cS hs;go_wp2;go_quiet ((go_at_call 27;exact zt (aB HC _)));go_wp2;go_quiet (fail);go_wp2
     ·go_ret;refine ⟨?_,rP HQ.out (by first | exact jZ _ _ _ | exact ⟨_,rfl⟩)⟩;have hne:(!l1[k].1 == l2[k].1)=true:=by assumption
      have:¬l1=l2:=λh=>by subst h;simp at hne
      simp [this]
     ·have heq:(!l1[k].1 == l2[k].1)=false:=by assumption
      have he:l1[k]=l2[k]:=Prod.ext (by simpa using heq) HS.out;go_roundw;case rel=>exact ⟨k+1,by omega,by go_num,rP HQ.out (by first | exact jZ _ _ _ | exact ⟨_,rfl⟩),by rw [zz hlt,zz hlt3,ht,he]⟩
      case measure=>simp [intOf];omega
    ·rw [decide_eq_false hs] at cS;have HC:=aA cS;have HS:=aA hs;clear cS hs;go_wp2;go_quiet ((go_at_call 27;exact zt (aB HC _)));go_wp2;go_quiet (fail);go_wp2;go_ret;refine ⟨?_,rP HQ.out (by first | exact jZ _ _ _ | exact ⟨_,rfl⟩)⟩;have:¬l1=l2:=λh=>HS.out (by subst h;rfl)
     simp [this]
   ·go_wp2;go_ret;refine ⟨?_,HQ.out⟩;have hk1:l1.take k=l1:=zx (by omega);have hk2:l2.take k=l2:=zx (by have:=HL.out;omega);rw [hk1,hk2] at ht;simp [ht]
 ·have hn:((l1.length:Int) != (l2.length:Int))=true:=by rw [bne_iff_ne];omega
  have hne:¬l1=l2:=λh=>hl (by rw [h])
  have HN:Hid (¬l1=l2):=hne;clear hne hl;go_enter Tryz.func14,Tryz.ntmps14;go_wp2;go_ret;exact ⟨by simp [HN.out],0,rfl⟩
def aK(c:List Lt):Nat:=(c.map λl=>l.2.length).sum
theorem oM(c:List Lt)(x:Lt):aK (c++[x])=aK c+x.2.length:=by simp [aK]
theorem aHx(c:List Lt)(h:∀k (h:k<c.length),(c[k]).2.length<=5864062014805):aK c<=c.length*5864062014805:=by
 induction c with
 | nil=>simp [aK]
 | cons x r ih=>
  have h0:=h 0 (by simp);have hr:=ih (λk hk=>by have:=h (k+1) (by simpa using hk);simpa using this);simp [aK] at h0 hr ⊢;omega
theorem sE(c:List Lt)(k:Nat):aK (c.take k)<=aK c:=by have h:=congrArg aK (List.take_append_drop k c);simp only [aK,List.map_append,List.sum_append] at h ⊢;omega
theorem aSy(a:Option Addr)(cp:Nat)(c:List Lt)(w:World)(h:bE w a c)(h8:c.length<=8) :
  Calls zv 46 #[.slice a c.length cp] w λe w'=>e=.returned (.int .i64 (aK c))/\w'=w:=by
 have hc:aK c<=8*5864062014805:=zm (aHx c λk hk=>by obtain ⟨_,_,_,_,_,_,_,g⟩:=h.cell k hk;exact g.few) (zp _ h8);go_enter Tryz.func46,Tryz.ntmps46;go_wp2;go_loop [3,4] (λs i=>∃k:Nat,k<=c.length/\i=.int .i64 k/\s=.int .i64 (aK (c.take k))) (λ_ i=>c.length-(intOf i).toNat);case atStart=>exact ⟨0,zu _,rfl,rfl⟩
 case round=>
  obtain ⟨k,hk,rfl,rfl⟩:=hrel;have hct:=sE c k;by_cases hlt:k<c.length
  ·obtain ⟨p1,o1,aa1,cp1,rfl,e1,f1,g1⟩:=h.cell k hlt;have hg:=g1.few;have HS:Hid (aK (c.take (k+1))=aK (c.take k)+c[k].2.length):=by
    rw [zz hlt,oM];exact rfl
   clear h g1;go_wp2;go_round;case rel=>exact ⟨k+1,by omega,by go_num,by rw [HS.out];go_num⟩
   case measure=>simp [intOf];omega
  ·go_wp2;go_ret;have hk1:c.take k=c:=zx (by omega);rw [hk1];exact ⟨rfl,rfl⟩
def dP(c:List Lt):Bool:=decide (c.length<=8) && decide (aK c<=60)
theorem aSz(a:Option Addr)(cp:Nat)(c:List Lt)(w:World)(h:bE w a c) :
  Calls zv 41 #[.slice a c.length cp] w λe w'=>e=.returned (.bool (dP c))/\w'=w:=by
 have b:=h.few;by_cases h8:c.length<=8
 ·have cC:=aSy a cp c w h h8;have HF:=aA (show dP c=decide ((aK c:Int)<=60) by simp [dP,h8];omega);go_enter Tryz.func41,Tryz.ntmps41;go_wp2_with (go_at_call 46;refine cC.mono ?_;rintro e w' ⟨rfl,rfl⟩);go_ret;exact ⟨cI HF.out.symm,rfl⟩
 ·have hf:dP c=false:=by simp [dP,h8]
  rw [hf];clear hf;go_enter Tryz.func41,Tryz.ntmps41;go_wp2;go_ret;exact ⟨rfl,rfl⟩
end
section
open Go.RowKit
def eS(acc:List Lt)(x:Lt):Bool:=acc.any λy=>decide (y=x)
theorem aHy(acc:List Lt)(x:Lt):eS acc x=true↔x∈acc:=by simp [eS]
theorem aHz(acc:List Lt)(y x:Lt):eS (acc++[y]) x=(eS acc x || decide (y=x)):=by simp [eS]
def eO(acc:List Lt)(x:Lt):List Lt:=if eS acc x then acc else acc++[x]
def cK(c:List Lt):List Lt:=c.foldl eO []
theorem aI0(c:List Lt)(k:Nat)(h:k<c.length):cK (c.take (k+1))=eO (cK (c.take k)) c[k]:=by rw [zz h];simp only [cK,zl,zs,List.foldl_nil]
theorem qQ(c:List Lt):(cK c).length<=c.length/\aK (cK c)<=aK c/\∀x∈cK c,x∈c:=by
 suffices ∀(c:List Lt) (acc:List Lt),(c.foldl eO acc).length<=acc.length+c.length/\aK (c.foldl eO acc)<=aK acc+aK c/\∀x∈c.foldl eO acc,x∈acc\/x∈c by
  have h:=this c [];exact ⟨by have:=h.1;simpa [cK] using this,by have:=h.2.1;simpa [aK,cK] using this,λx hx=>by rcases h.2.2 x hx with h | h <;> simp_all⟩
 intro c;induction c with
 | nil=>intro acc;simp [aK]
 | cons x r ih=>
  intro acc;have h:=ih (eO acc x);have h1:(eO acc x).length<=acc.length+1/\aK (eO acc x)<=aK acc+x.2.length/\∀y∈eO acc x,y∈acc\/y=x:=by
   unfold eO;split
   ·exact ⟨by omega,by omega,λy hy=>Or.inl hy⟩
   ·exact ⟨by simp,by simp [aK],λy hy=>by simpa using hy⟩
  have h2:aK (x :: r)=x.2.length+aK r:=by simp [aK]
  simp only [zs,zj];refine ⟨by omega,by omega,λy hy=>?_⟩;rcases h.2.2 y hy with hy | hy
  ·rcases h1.2.2 y hy with hy | rfl
   ·exact Or.inl hy
   ·exact Or.inr (by simp)
  ·exact Or.inr (by simp [hy])
def eE(st:List Lt×List Int)(x:Lt):List Lt×List Int:=(st.1++[(x.1,(cG x.2 st.2).1)],(cG x.2 st.2).2)
def cQ(c:List Lt):List Lt×List Int:=c.foldl eE ([],[])
def aR(c:List Lt):List Lt:=(cQ (cK c)).1
theorem aI1(c:List Lt)(k:Nat)(h:k<c.length):cQ (c.take (k+1))=eE (cQ (c.take k)) c[k]:=by rw [zz h];simp only [cQ,zl,zs,List.foldl_nil]
theorem pG(c:List Lt):(cQ c).1.length=c.length/\(cQ c).2.length<=aK c:=by
 suffices ∀(c:List Lt) (st:List Lt×List Int),(c.foldl eE st).1.length=st.1.length+c.length/\(c.foldl eE st).2.length<=st.2.length+aK c by
  have h:=this c ([],[]);simpa [cQ] using h
 intro c;induction c with
 | nil=>intro st;simp [aK]
 | cons x r ih=>
  intro st;have h:=ih (eE st x);have h1:=tM x.2 st.2;have h2:aK (x :: r)=x.2.length+aK r:=by simp [aK]
  simp only [zs,zj];have h3:(eE st x).1.length=st.1.length+1:=by simp [eE]
  have h4:(eE st x).2.length<=st.2.length+x.2.length:=h1.2;exact ⟨by omega,by omega⟩
theorem zO(c:List Lt)(x:Lt)(h:x∈c):x.2.length<=aK c:=by
 induction c with
 | nil=>simp at h
 | cons y r ih=>
  simp only [aK,List.map_cons,List.sum_cons] at ih ⊢;rcases List.mem_cons.1 h with rfl | h
  ·omega
  ·have:=ih h;omega
def bA(P:List (Lt×Value)):List Value:=P.flatMap λp=>[.bool p.1.1,p.2]
theorem aI2(P:List (Lt×Value)):(bA P).length=P.length*2:=by
 induction P with
 | nil=>rfl
 | cons x r ih=>simp [bA] at ih ⊢;omega
theorem aCe(P:List (Lt×Value))(x:Lt×Value):bA (P++[x])=bA P++[.bool x.1.1,x.2]:=by simp [bA]
theorem wW(P:List (Lt×Value)):∀k (h:k<P.length),(bA P)[k*2]?=some (.bool P[k].1.1)/\(bA P)[k*2+1]?=some P[k].2:=by
 induction P with
 | nil=>intro k h;simp at h
 | cons x r ih=>
  intro k h;cases k with
  | zero=>simp [bA]
  | succ k=>
   have:=ih k (by simpa using h);have e1:(k+1)*2=k*2+2:=by omega
   have e2:(k+1)*2+1=k*2+1+2:=by omega
   rw [e1];simp only [bA,List.flatMap_cons,List.cons_append,List.nil_append,List.getElem?_cons_succ,List.getElem_cons_succ] at this ⊢;exact this
theorem qR{B:Nat}(h:w.ownsRow B 39 2 v P.length (bA P)) :
  ∃a cap,v=.slice a P.length cap/\∀k (h:k<P.length),∃g,a=some ⟨g,0,none⟩/\w.cell? ⟨g,k*2,none⟩=some (.bool P[k].1.1)/\w.cell? ⟨g,k*2+1,none⟩=some P[k].2:=by
 obtain ⟨h1,⟨rfl,h2⟩ | ⟨g,cap,cur,rfl,hb,hh,hc,hm,hz,ht⟩⟩:=h
 ·exact ⟨none,0,by rw [h2],λk hk=>by omega⟩
 ·have ho:w.ownsRow B 39 2 (.slice (some ⟨g,0,none⟩) P.length cap) P.length (bA P):=⟨h1,Or.inr ⟨g,cap,cur,rfl,hb,hh,hc,hm,hz,ht⟩⟩;refine ⟨_,_,rfl,λk hk=>⟨g,rfl,?_,?_⟩⟩
  ·rw [ho.cellAt (k*2) (by omega),(wW P k hk).1]
  ·rw [ho.cellAt (k*2+1) (by omega),(wW P k hk).2]
theorem aS{B:Nat}{e:TypeId}{size:Nat}{n:Nat}{xs:List Value}(h:w.ownsRow B e size v n xs):∃a cap,v=.slice a n cap:=by
 obtain ⟨_,⟨rfl,rfl⟩ | ⟨g,cap,cur,rfl,_⟩⟩:=h
 ·exact ⟨_,_,rfl⟩
 ·exact ⟨_,_,rfl⟩
def kC(w:World)(v:Value)(l:List Nd):Prop:=∃a cap,v=.slice a l.length cap/\cU w a l
theorem sF:(zv.info? 39).map (λi=>(i.zero,i.size,i.bytes))=some (some (.agg #[.bool false,.slice none 0 0]),2,32):=by kernel_rfl
theorem sG(b:Bool)(a:Option Addr)(n c:Nat):∀u∈[Value.bool b,Value.slice a n c],u.oneCell'=true:=by intro u hu;simp at hu;rcases hu with rfl | rfl <;> rfl
theorem aI3{x:Lt}(hA:∀p∈P,kC w p.2 p.1.2)(hx:kC w v x.2):∀p∈P++[(x,v)],kC w p.2 p.1.2:=by
 intro p hp;rcases List.mem_append.1 hp with hp | hp
 ·exact hA p hp
 ·simp at hp;subst hp;exact hx
theorem aT0(yb xb:Bool)(yl xl:List Nd)(h:yl=xl):(yb == xb)=(false || decide ((yb,yl)=(xb,xl))):=by subst h;cases yb <;> cases xb <;> simp
theorem aI4{B:Nat}{wm:World}{o v' s:Value}{Q:List (Lt×Value)}{sn:List Int}{x:Lt}(hQ:∀q∈Q,wm.ownsRow B 36 2 q.2 q.1.2.length (aG q.1.2))(ho:wm.ownsRow B 39 2 o Q.length (bA Q))(hs:wm.ownsRow B 3 1 s sn.length (sn.map (Value.int .i64)))
  (hv:wm.ownsRow B 36 2 v x.2.length (aG x.2)) (ho':w1.ownsRow B 39 2 v' (Q.length+1) (bA Q++[.bool x.1,v])) (hg:wm.grownBy w1 o.ownBlock) :
  (∀q∈Q++[(x,v)],w1.ownsRow B 36 2 q.2 q.1.2.length (aG q.1.2))/\w1.ownsRow B 39 2 v' (Q++[(x,v)]).length (bA (Q++[(x,v)]))/\w1.ownsRow B 3 1 s sn.length (sn.map (Value.int .i64)):=by
 refine ⟨λq hq=>?_,?_,hs.kept hg (bW hs ho (by decide))⟩
 ·rcases List.mem_append.1 hq with hq | hq
  ·exact (hQ q hq).kept hg (bW (hQ q hq) ho (by decide))
  ·simp at hq;subst hq;exact hv.kept hg (bW hv ho (by decide))
 ·rw [aCe,zn];exact ho'
theorem aI5{wm:World}{o v':Value}{x:Lt}(ho:wm.ownsRow w.heap.size 39 2 o P.length (bA P))(hb:Below w.heap.size w wm)
  (ho':w1.ownsRow w.heap.size 39 2 v' (P.length+1) (bA P++[.bool x.1,v])) (hg:wm.grownBy w1 o.ownBlock) :
  w1.ownsRow w.heap.size 39 2 v' (P++[(x,v)]).length (bA (P++[(x,v)]))/\Below w.heap.size w w1:=by
 refine ⟨?_,hb.grown hg hb.size λk e=>(aT ho k e).1⟩;rw [aCe,zn];exact ho'
theorem aI6(a:Option Addr)(cp:Nat)(c:List Lt)(w:World)(h:bE w a c)(hfew:aK c<=1000000) :
  Calls zv 43 #[.slice a c.length cp] w λe w'=>∃v Q,e=.returned v/\Q.map zw=aR c/\w'.ownsRow w.heap.size 39 2 v Q.length (bA Q)/\
   (∀q∈Q,w'.ownsRow w.heap.size 36 2 q.2 q.1.2.length (aG q.1.2))/\Below w.heap.size w w':=by
 obtain ⟨iL,hL,hL0,hL1,hL2⟩:=info_parts sF;have hf:=h.few;go_enter Tryz.func43,Tryz.ntmps43;go_wp2;go_loopw [3,4] (λo i wr=>∃(k:Nat) (P:List (Lt×Value)),k<=c.length/\i=.int .i64 k/\P.map zw=cK (c.take k)/\(∀p∈P,kC w p.2 p.1.2)/\wr.ownsRow w.heap.size 39 2 o P.length (bA P)/\Below w.heap.size w wr)
  (λ_ i _=>c.length-(intOf i).toNat)
 case atStart=>exact ⟨0,[],zu _,rfl,rfl,λp hp=>by simp at hp,zr _ _ _ _,Below.refl _ _⟩
 case round=>
  obtain ⟨k,P,hk,rfl,hP,hA,ho,hb⟩:=hrel;have hPl:P.length<=k:=by
   have h1:=(qQ (c.take k)).1;have h2:P.length=(cK (c.take k)).length:=by rw [<-hP];simp
   have h3:(c.take k).length<=k:=zo _ _;omega
  by_cases hlt:k<c.length
  ·obtain ⟨b,q,aa,acp,rfl,e1,f1,g1⟩:=h.cell k hlt;have e2:=Below.at' hb (zy _) e1;have f2:=Below.at' hb (zy _) f1;have hst:=aI0 c k hlt;rw [<-hP] at hst;generalize c[k]=x at *;obtain ⟨xb,xl⟩:=x;simp only at e2 f2 g1;obtain ⟨oa,ocp,rfl,hoc⟩:=qR ho;have HOC:=aA hoc;have HST:=aA hst;have HA:=aA hA;have HP:=aA hP;have HG:=aA g1;have HB:=aA hb;have hbs:=hb.size;clear e1 f1 h hst hP hA hoc hb g1;go_wp2;go_loopw [5,6] (λkn j wi=>∃n:Nat,n<=P.length/\j=.int .i64 n/\kn=.bool (eS ((P.map zw).take n) (xb,xl))/\∃d,wi=wr.drewN d) (λ_ j _=>P.length-(intOf j).toNat);case atStart=>exact ⟨0,zu _,rfl,rfl,0,rfl⟩
   case round=>
    obtain ⟨n,hn,rfl,rfl,hd⟩:=hrel;by_cases hnl:n<P.length
    ·obtain ⟨g,rfl,hc1,hc2⟩:=HOC.out n hnl;obtain ⟨pa,pcp,hpv,hpn⟩:=HA.out P[n] (zq _);rw [hpv] at hc2;have HM:=aA (show eS ((P.map zw).take (n+1)) (xb,xl)=(eS ((P.map zw).take n) (xb,xl) || decide (P[n].1=(xb,xl))) by
      rw [zz (by simpa using hnl),aHz];simp)
     generalize P[n].1=y at *;obtain ⟨yb,yl⟩:=y;simp only at hc1 hc2 hpn;have q1:=Below.at' (aI hd) (zy _) hc1;have q2:=Below.at' (aI hd) (zy _) hc2;have q3:=Below.at' (aI hd) (zy _) e2;have q4:=Below.at' (aI hd) (zy _) f2;have cS:=λm=>aHv pa aa pcp acp yl xl (wr.drewN m) (((hpn.below HB.out (zy _)).drawn hd).drewN m) (((HG.out.below HB.out (zy _)).drawn hd).drewN m)
     have HD:=aA hd;clear hd hc1 hc2 hpv hpn e2 f2;generalize hkn:eS ((P.map zw).take n) (xb,xl)=kn at *;clear hkn;by_cases hs:yl=xl
     ·rw [decide_eq_true hs] at cS;have HC:=aA cS;have HS:=aA hs;clear cS hs;cases kn
      ·go_wp2;go_quiet ((go_at_call 27;exact zt (aB HC _)));go_wp2;go_quiet (fail);go_wp2;go_roundw;case rel=>exact ⟨n+1,by omega,by go_num,by rw [HM.out];exact congrArg Value.bool (aT0 _ _ _ _ HS.out),rP HD.out (by first | exact jZ _ _ _ | exact ⟨_,rfl⟩)⟩
       case measure=>simp [intOf];omega
      ·go_wp2;go_quiet ((go_at_call 27;exact zt (aB HC _)));go_wp2;go_quiet (fail);go_wp2;go_roundw;case rel=>exact ⟨n+1,by omega,by go_num,by rw [HM.out];simp,rP HD.out (by first | exact jZ _ _ _ | exact ⟨_,rfl⟩)⟩
       case measure=>simp [intOf];omega
     ·rw [decide_eq_false hs] at cS;have HC:=aA cS;have HS:=aA hs;clear cS hs;cases kn;all_goals
       go_wp2;go_quiet ((go_at_call 27;exact zt (aB HC _)));go_wp2;go_quiet (fail);go_wp2;go_roundw;case rel=>exact ⟨n+1,by omega,by go_num,by rw [HM.out];simp [Prod.ext_iff,HS.out],rP HD.out (by first | exact jZ _ _ _ | exact ⟨_,rfl⟩)⟩
       case measure=>simp [intOf];omega
    ·have hPn:(P.map zw).take n=P.map zw:=zx (by simp;omega);rw [hPn];clear hPn HOC;have q3:=Below.at' (aI hd) (zy _) e2;have q4:=Below.at' (aI hd) (zy _) f2;have hod:=aU ho (aI hd) (zy _);have hbd:=HB.out.trans ((aI hd).mono hbs);have HBD:=aA hbd;have hbds:=hbd.size;clear hd e2 f2 ho hbd;cases hkn:eS (P.map zw) (xb,xl)
     ·have HST':Hid (cK (c.take (k+1))=P.map zw++[(xb,xl)]):=aA (by rw [HST.out];simp [eO,hkn]);have HOD:=aA hod;clear hkn HST;go_wp2_with (first
       | (at_builtin;refine wpList_append_own _ rfl (.tmp 55) (.tmp 60) 22 rfl w.heap.size 39 iL (.agg #[.bool false,.slice none 0 0]) 2 32 zk hL hL0 hL1 hL2 rfl (by decide) _ _ _ rfl (hod.alloc _) ⟨wr.heap.size,0,none⟩ 1 1 [.bool xb,.slice aa xl.length acp] rfl rfl ?c1 ?c2 ?c3 ?c4 ?c5 ?_)
       | go_in)
      case c1=>exact gK _ _ _ _ _ (by simp)
      case c2=>first | exact sG _ _ _ _ | exact ⟨rfl,rfl⟩
      case c3=>unfold maxLen;omega
      case c4=>omega
      case c5=>first | omega | (simp;omega)
      intro v' w1 ho' hg' _;have R:=aI5 (x:=(xb,xl)) (HOD.out.alloc _) (HBD.out.alloc hbds _) ho' hg';clear ho' hg' hod;go_wp2;go_roundw;case rel=>exact ⟨k+1,P++[((xb,xl),.slice aa xl.length acp)],by omega,by go_num,by rw [HST'.out];simp,aI3 HA.out ⟨aa,acp,rfl,HG.out⟩,R.1,R.2⟩
      case measure=>simp [intOf];omega
     ·have HST':Hid (cK (c.take (k+1))=P.map zw):=aA (by rw [HST.out];simp [eO,hkn]);have HOD:=aA hod;clear hkn HST hod;go_wp2;go_roundw;case rel=>exact ⟨k+1,P,by omega,by go_num,HST'.out.symm,HA.out,HOD.out,HBD.out⟩
      case measure=>simp [intOf];omega
  ·have hk1:c.take k=c:=zx (by omega);rw [hk1] at hP;have hPb:=qQ c;rw [<-hP] at hPb;obtain ⟨oa,ocp,rfl,hoc⟩:=qR ho;have HOC:=aA hoc;have HO':Hid (aR c=(cQ (P.map zw)).1):=by unfold aR;rw [<-hP];exact rfl
   have HA:=aA hA;have HB:=aA hb;have HPB:=aA hPb;have hbs:=hb.size;clear hk1 hP hPb hoc hA hb ho h;go_wp2;go_loopw [8,9,10] (λo s i w4=>∃(n:Nat) (Q:List (Lt×Value)),n<=P.length/\i=.int .i64 n/\Q.map zw=(cQ ((P.map zw).take n)).1/\(∀q∈Q,w4.ownsRow wr.heap.size 36 2 q.2 q.1.2.length (aG q.1.2))/\
     w4.ownsRow wr.heap.size 39 2 o Q.length (bA Q)/\w4.ownsRow wr.heap.size 3 1 s (cQ ((P.map zw).take n)).2.length ((cQ ((P.map zw).take n)).2.map (Value.int .i64))/\Below wr.heap.size wr w4)
    (λ_ _ i _=>P.length-(intOf i).toNat)
   case atStart=>exact ⟨0,[],zu _,rfl,rfl,λq hq=>by simp at hq,zr _ _ _ _,zr _ _ _ _,Below.refl _ _⟩
   case round=>
    obtain ⟨n,Q,hn,rfl,hQ,hQA,hQo,hQs,hQb⟩:=hrel;have hQl:Q.length<=n:=by
     have h1:=(pG ((P.map zw).take n)).1;have h2:Q.length=(cQ ((P.map zw).take n)).1.length:=by rw [<-hQ];simp
     have h3:((P.map zw).take n).length<=n:=zo _ _;omega
    have hsb:(cQ ((P.map zw).take n)).2.length<=1000000:=by have h1:=(pG ((P.map zw).take n)).2;have h2:=sE (P.map zw) n;have h3:=HPB.out.2.1;omega
    by_cases hnl:n<P.length
    ·obtain ⟨g,rfl,hc1,hc2⟩:=HOC.out n hnl;obtain ⟨pa,pcp,hpv,hpn⟩:=HA.out P[n] (zq _);rw [hpv] at hc2;have hst:=aI1 (P.map zw) n (by simpa using hnl);have hlen:P[n].1.2.length<=1000000:=by
      have h2:=zO (P.map zw) P[n].1 (List.mem_map.2 ⟨P[n],zq _,rfl⟩);have h3:=HPB.out.2.1;omega
     rw [List.getElem_map] at hst;generalize P[n].1=y at *;obtain ⟨yb,yl⟩:=y;generalize cQ ((P.map zw).take n)=ST at *;obtain ⟨so,sn⟩:=ST;simp only at hc1 hc2 hpn hQ hQs hsb hlen;have q1:=Below.at' hQb (zy _) hc1;have q2:=Below.at' hQb (zy _) hc2;have hpw:=hpn.below HB.out (zy _);have hQbs:=hQb.size;have cR:=aMw _ pa pcp yl u9 sn _ wr hpw hQb (zy _) hQbs hQs (by omega);have hst':cQ ((P.map zw).take (n+1))=(so++[(yb,(cG yl sn).1)],(cG yl sn).2):=hst;have hrb:=tM yl sn;generalize cG yl sn=RL at *;obtain ⟨rl,rs⟩:=RL;simp only at cR hst' hrb;have HST:=aA hst';have HQ:=aA hQ;have HR:=aA cR;have HQA:=aA hQA;have HRB:=aA hrb;clear hrb hst hst' hpv hpn hpw hQ cR hQs hQA;go_wp2_with (first
      | (go_at_call 68;refine (aB HR).mono ?_;rintro e w5 ⟨vo,vs',rfl,hvo,hvs,hkp⟩;obtain ⟨va,vcp,rfl⟩:=aS hvo;have q5:=Below.at' (hQb.trans (hkp.below hQbs)) (zy _) hc1;have ho5:=hkp.own (by decide) hQo;have HB5:=aA (hQb.trans (hkp.below hQbs));have h5s:=HB5.out.size;have HQA5:=aA (λq hq=>hkp.own (by decide) (HQA.out q hq));clear hkp)
      | (at_builtin;refine wpList_append_own _ rfl (.tmp 79) (.tmp 87) 22 rfl _ 39 iL (.agg #[.bool false,.slice none 0 0]) 2 32 zk hL hL0 hL1 hL2 rfl (by decide) _ _ _ rfl (ho5.alloc _) ⟨w5.heap.size,0,none⟩ 1 1 [.bool yb,.slice va rl.length vcp] rfl rfl ?c1 ?c2 ?c3 ?c4 ?c5 ?_)
      | go_in)
     case c1=>exact gK _ _ _ _ _ (by simp)
     case c2=>first | exact sG _ _ _ _ | exact ⟨rfl,rfl⟩
     case c3=>unfold maxLen;omega
     case c4=>omega
     case c5=>exact zm h5s (World.grownBy_alloc _ _ none).size
     intro v' w1 ho' hg' _;have R:=aI4 (x:=(yb,rl)) (λq hq=>(HQA5.out q hq).alloc _) (ho5.alloc _) (hvs.alloc _) ((dN hvo hQbs).alloc _) ho' hg';have HB1:=aA ((HB5.out.alloc h5s _).grown hg' (by simp;omega) λk e=>(aT ho5 k e).1);have HR1:=aA R;clear ho' hg' ho5 hvs hvo R;go_wp2;go_roundw;case rel=>exact ⟨n+1,Q++[((yb,rl),.slice va rl.length vcp)],by omega,by go_num,by rw [HST.out,List.map_append,HQ.out];rfl,HR1.out.1,HR1.out.2.1,by rw [HST.out];exact HR1.out.2.2,HB1.out⟩
     case measure=>simp [intOf];omega
    ·have hPn:(P.map zw).take n=P.map zw:=zx (by simp;omega);rw [hPn] at hQ;rw [<-HO'.out] at hQ;have F:=aA (And.intro hQ (And.intro (dN hQo hbs) (And.intro (λq hq=>dN (hQA q hq) hbs) (HB.out.trans (hQb.mono hbs)))));clear hQ hQA hQo hQs hQb hPn;go_wp2;go_ret;exact ⟨_,Q,rfl,F.out⟩
end
section
open Go.RowKit Go.Shelf
theorem qS(s:ByteArray)(x:Int)(w:World) :
  Calls zv 83 #[.agg #[.string s,.int .i64 x]] w λe w'=>e=.returned (.bool s.toList.isEmpty)/\Below w.heap.size w w':=by
 go_enter Tryz.func83,Tryz.ntmps83;go_wp2;go_ret;exact ⟨rfl,(Below.refl _ _).alloc (zy _) _⟩
theorem jR{s x:Value}{t:TypeId}(hb:Below (w.alloc (.cells #[s,x] t)).heap.size (w.alloc (.cells #[s,x] t)) w1) :
  w1.cell? ⟨w.heap.size,0,none⟩=some s/\w1.cell? ⟨w.heap.size,1,none⟩=some x/\Below w.heap.size w w1:=
 ⟨Below.at' hb (zy _) (by simp),Below.at' hb (zy _) (by simp),((Below.refl _ _).alloc (zy _) _).trans (hb.mono (by simp))⟩
theorem aCf(a:Option Addr)(cp:Nat)(c:List Lt)(w:World)(h:bE w a c)(h8:c.length<=100000) :
  Calls zv 57 #[.slice a c.length cp] w λe w'=>e=.returned (.int .i64 (aK c))/\Below w.heap.size w w':=by
 have hc:aK c<=100000*5864062014805:=zm (aHx c λk hk=>by obtain ⟨_,_,_,_,_,_,_,g⟩:=h.cell k hk;exact g.few) (zp _ h8);go_enter Tryz.func57,Tryz.ntmps57;go_wp2;go_loopw [3,8] (λs i wr=>∃k:Nat,k<=c.length/\i=.int .i64 k/\s=.int .i64 (aK (c.take k))/\Below w.heap.size w wr) (λ_ i _=>c.length-(intOf i).toNat);case atStart=>exact ⟨0,zu _,rfl,rfl,Below.refl _ _⟩
 case round=>
  obtain ⟨k,hk,rfl,rfl,hb⟩:=hrel;have hct:=sE c k;by_cases hlt:k<c.length
  ·obtain ⟨p1,o1,aa1,cp1,rfl,e1,f1,g1⟩:=h.cell k hlt;have hg:=g1.few;have HS:Hid (aK (c.take (k+1))=aK (c.take k)+c[k].2.length):=by
    rw [zz hlt,oM];exact rfl
   have e2:=Below.at' hb (zy _) e1;have f2:=Below.at' hb (zy _) f1;have HB:=aA hb;clear h g1 e1 f1 hb;go_wp2;go_roundw;case rel=>exact ⟨k+1,by omega,by go_num,by rw [HS.out];go_num,HB.out.alloc HB.out.size _⟩
   case measure=>simp [intOf];omega
  ·have HB:=aA hb;clear hb;go_wp2;go_ret;have hk1:c.take k=c:=zx (by omega);rw [hk1];exact ⟨rfl,HB.out⟩
theorem zP(a:Option Addr)(cp:Nat)(c:List Lt)(w:World)(h:bE w a c)(h8:c.length<=8) :
 Calls zv 57 #[.slice a c.length cp] w λe w'=>e=.returned (.int .i64 (aK c))/\Below w.heap.size w w':=aCf a cp c w h (by omega)
theorem zQ(a:Option Addr)(cp:Nat)(c:List Lt)(w:World)(h:bE w a c) :
  Calls zv 53 #[.slice a c.length cp] w λe w'=>e=.returned (.bool (dP c))/\Below w.heap.size w w':=by
 have b:=h.few;by_cases h8:c.length<=8
 ·have CC:=aA (zP a cp c w h h8);have HF:=aA (show dP c=decide ((aK c:Int)<=60) by simp [dP,h8];omega);clear h;go_enter Tryz.func53,Tryz.ntmps53;go_wp2_with (go_at_call 57;refine (aB CC).mono ?_;rintro e w' ⟨rfl,hb⟩;have HB:=aA hb;clear hb);go_ret;exact ⟨cI HF.out.symm,HB.out⟩
 ·have hf:dP c=false:=by simp [dP,h8]
  rw [hf];clear hf h;go_enter Tryz.func53,Tryz.ntmps53;go_wp2;go_ret;exact ⟨rfl,Below.refl _ _⟩
theorem aT1(a1 a2:Option Addr)(c1 c2:Nat)(l1 l2:List (ByteArray×Int))(w:World)(h1:cU w a1 l1)(h2:cU w a2 l2) :
  Calls zv 130 #[.slice a1 l1.length c1,.slice a2 l2.length c2] w λe w'=>e=.returned (.bool (decide (l1=l2)))/\∃n,w'=w.drewN n:=by
 have b1:=h1.few;have b2:=h2.few;by_cases hl:l1.length=l2.length
 ·have hn:((l1.length:Int) != (l2.length:Int))=false:=by rw [hl];simp
  have HL:Hid (l1.length=l2.length):=hl;clear hl;go_enter Tryz.func130,Tryz.ntmps130;go_wp2;go_loopw [13] (λi wr=>∃k:Nat,k<=l1.length/\i=.int .i64 k/\(∃n,wr=w.drewN n)/\l1.take k=l2.take k) (λi _=>l1.length-(intOf i).toNat);case atStart=>exact ⟨0,zu _,rfl,⟨0,rfl⟩,rfl⟩
  case round=>
   obtain ⟨k,hk,rfl,⟨n,rfl⟩,ht⟩:=hrel;by_cases hlt:k<l1.length
   ·obtain ⟨p1,o1,rfl,e1,f1⟩:=h1.cell k hlt;have hlt2:(k:Int)<(l2.length:Int):=by have:=HL.out;omega
    have hlt3:k<l2.length:=by omega
    obtain ⟨p2,o2,rfl,e2,f2⟩:=h2.cell k hlt3;have hb:=rQ l1[k] l2[k];have g:=tJ;have q:=rR l1[k].1 l2[k].1 l1[k].2 l2[k].2;clear h1 h2;by_cases he:l1[k]=l2[k]
    ·rw [decide_eq_true he] at hb;have HE:Hid (l1[k]=l2[k]):=he;clear he;go_wp2;go_quiet (fail);go_wp2;go_roundw;case rel=>exact ⟨k+1,by omega,by go_num,(by first | exact jZ _ _ _ | exact ⟨_,rfl⟩),by rw [zz hlt,zz hlt3,ht,HE.out]⟩
     case measure=>simp [intOf];omega
    ·rw [decide_eq_false he] at hb;have HE:Hid (¬l1[k]=l2[k]):=he;clear he;go_wp2;go_quiet (fail);go_wp2;go_ret;refine ⟨?_,(by first | exact jZ _ _ _ | exact ⟨_,rfl⟩)⟩;have:¬l1=l2:=λh=>HE.out (by subst h;rfl)
     simp [this]
   ·go_wp2;go_ret;refine ⟨?_,⟨_,rfl⟩⟩;have hk1:l1.take k=l1:=zx (by omega);have hk2:l2.take k=l2:=zx (by have:=HL.out;omega);rw [hk1,hk2] at ht;simp [ht]
 ·have hn:((l1.length:Int) != (l2.length:Int))=true:=by rw [bne_iff_ne];omega
  have hne:¬l1=l2:=λh=>hl (by rw [h])
  have HN:Hid (¬l1=l2):=hne;clear hne hl;go_enter Tryz.func130,Tryz.ntmps130;go_wp2;go_ret;exact ⟨by simp [HN.out],0,rfl⟩
theorem aI7(xb yb:Bool)(a1 a2:Option Addr)(c1 c2:Nat)(xl yl:List Nd)(w:World)(h1:cU w a1 xl)(h2:cU w a2 yl) :
  Calls zv 111 #[.agg #[.bool xb,.slice a1 xl.length c1],.agg #[.bool yb,.slice a2 yl.length c2]] w λe w'=>e=.returned (.bool (nL (xb,xl) (yb,yl)))/\Below w.heap.size w w':=by
 have hb0:Below w.heap.size w ((w.alloc (.cells #[.bool xb,.slice a1 xl.length c1] 39)).alloc (.cells #[.bool yb,.slice a2 yl.length c2] 39)):=((Below.refl _ _).alloc (zy _) _).alloc (by simp) _;have CE:=aA (aT1 a1 a2 c1 c2 xl yl _ (h1.below hb0 (zy _)) (h2.below hb0 (zy _)));have HB0:=aA hb0;clear hb0 h1 h2;by_cases hb:xb=yb
 ·subst hb;have HE:=aA (show nL (xb,xl) (xb,yl)=decide (xl=yl) by simp [nL]);go_enter Tryz.func111,Tryz.ntmps111;go_wp2_with (go_at_call 130;refine (aB CE).mono ?_;rintro e w1 ⟨rfl,hd⟩;have HB1:=aA (HB0.out.trans ((aI hd).mono (by simp;omega)));clear hd);go_ret;exact ⟨cI HE.out.symm,HB1.out⟩
 ·have HE:=aA (show nL (xb,xl) (yb,yl)=false by simp [nL,hb]);have hbe:(xb == yb)=false:=by simp [hb]
  clear hb;go_enter Tryz.func111,Tryz.ntmps111;go_wp2;go_ret;exact ⟨cI HE.out.symm,HB0.out⟩
theorem aT2(xb yb:Bool)(a1 a2:Option Addr)(c1 c2 g:Nat)(xl yl:List Nd)(w:World)(h1:cU w a1 xl)(h2:cU w a2 yl)(g0:w.cell? ⟨g,0,none⟩=some (.bool yb))(g1:w.cell? ⟨g,1,none⟩=some (.slice a2 yl.length c2)) :
  Calls zv 110 #[.agg #[.bool xb,.slice a1 xl.length c1],.pointer (some ⟨g,0,none⟩)] w λe w'=>e=.returned (.bool (nL (xb,xl) (yb,yl)))/\Below w.heap.size w w':=by
 have hb0:Below w.heap.size w (w.alloc (.cells #[.bool xb,.slice a1 xl.length c1] 39)):=(Below.refl _ _).alloc (zy _) _;have CS:=aA (aI7 xb yb a1 a2 c1 c2 xl yl _ (h1.below hb0 (zy _)) (h2.below hb0 (zy _)));have q0:=Below.at' hb0 (zy _) g0;have q1:=Below.at' hb0 (zy _) g1;have HB0:=aA hb0;clear hb0 h1 h2;go_enter Tryz.func110,Tryz.ntmps110;go_wp2_with (go_at_call 111;refine (aB CS).mono ?_;rintro e w1 ⟨rfl,hb⟩;have HB1:=aA (HB0.out.trans (hb.mono (by simp)));clear hb);go_ret;exact ⟨rfl,HB1.out⟩
end
end Go.Proofs.YtcldkjcpofjmhaaGreatDoor
