import Derived.Test.YtcldkjcpofjmhaaGreatDoorStepAppF
import Derived.Test.YtcldkjcpofjmhaaGreatDoorONumberF
open Array renaming getElem?_eq_some_iff→zz
open List renaming findIdx_lt_length→zw,any_eq_true→zu,getElem_mem→zt
open Nat renaming le_refl→zx,lt_of_lt_of_le→zv
namespace Go.Proofs.YtcldkjcpofjmhaaGreatDoor
open _root_.Go.Proofs.Tryz renaming prog→zy
set_option maxHeartbeats 2000000
set_option maxRecDepth 100000
open Go.RowKit
variable{ks:List Nat}{B cap g hp n:Nat}{v:Value}{w:World}
theorem aO4(l r:List Nd)(k n:Nat)(h:k<l.length):dT (l++r) k n=dT l k n++r:=by
 induction l generalizing k with
 | nil=>simp at h
 | cons x t ih=>
  cases k with
  | zero=>rfl
  | succ k=>
   have:=ih k (by simpa using h);unfold dT at this ⊢;simpa using this
theorem aO5(l r:List Nd)(k n:Nat):dT (l++r) (l.length+k) n=l++dT r k n:=by
 induction l with
 | nil=>simp
 | cons x t ih=>
  unfold dT at ih ⊢;simp only [List.length_cons,List.cons_append];rw [show t.length+1+k=t.length+k+1 by omega];simpa using ih
theorem uT(l:List Nd)(k n:Nat):(dT l k n).length=l.length:=by simp [dT]
theorem aO6(l:List Nd)(k n m:Nat):dT (dT l k n) k m=dT l k m:=by
 induction l generalizing k with
 | nil=>simp [dT]
 | cons x t ih=>
  cases k with
  | zero=>rfl
  | succ k=>
   have:=ih k;unfold dT at this ⊢;simpa using this
theorem aFy(T:List Tk):∀f,(∀atom st l,cX T f atom st l=match cX T f atom st [] with | .error p=>.error p | .ok (s,r)=>.ok (s,l++r))/\(∀st l n,eP T f st l n=match eP T f st [] n with | .error p=>.error p | .ok (s,r,k)=>.ok (s,l++r,k)):=by
 intro f;induction f with
 | zero=>exact ⟨λatom st l=>by simp [cX],λst l n=>by simp [eP]⟩
 | succ f ih=>
  obtain ⟨ih1,ih2⟩:=ih;constructor
  ·intro atom st l;rw [cX,cX];split
   ·simp
   ·split
    ·simp
    ·split
     ·rw [ih2 _ (l++[((aE T st.i).txt,0)]) 0,ih2 _ ([]++[((aE T st.i).txt,0)]) 0];cases eP T f ⟨st.i+1,st.vars,st.places++[((aE T st.i).txt,atom,0,((aE T st.i).pos:Int))]⟩ [] 0 with
      | error p=>rfl
      | ok r=>
       obtain ⟨s1,r1,n1⟩:=r;simp only [List.nil_append,List.length_nil];have:=aO5 l ([((aE T st.i).txt,0)]++r1) 0 n1;rw [List.append_assoc,show l.length=l.length+0 from rfl,this]
     ·simp
  ·intro st l n;rw [eP,eP,ih1 false _ l];cases hq:cX T f false ⟨st.i+1,st.vars,st.places⟩ [] with
   | error p=>rfl
   | ok r=>
    obtain ⟨s1,r1⟩:=r;simp only;split
    ·rw [ih2 s1 (l++r1) (n+1),ih2 s1 r1 (n+1)];cases eP T f s1 [] (n+1) with
     | error p=>rfl
     | ok r=>simp
    ·split
     ·rfl
     ·rfl
def lX(l:List Pl):List Value:=l.map λp=>.int .i64 p.2.2.2
theorem aO7(l:List Pl)(p:Pl):lX (l++[p])=lX l++[.int .i64 p.2.2.2]:=by simp [lX]
theorem aO8(l:List Pl)(k n:Nat):lX (pL l k n)=lX l:=by
 induction l generalizing k with
 | nil=>simp [pL]
 | cons x t ih=>
  cases k with
  | zero=>rfl
  | succ k=>
   have:=ih k;unfold pL lX at this ⊢;simpa using this
theorem aO9(l:List Pl)(k n:Nat):(pL l k n).length=l.length:=by simp [pL]
def dH(B:Nat)(w:World)(v:Value)(ks:List Nat):Prop:=w.ownsRow B 3 1 v ks.length (ks.map λk=>Value.int .i64 (k:Nat))
theorem dH.cell{a:Option Addr}(h:dH B w (.slice a n cap) ks){i:Nat}(hi:i<ks.length):∃g,a=some ⟨g,0,none⟩/\w.cell? ⟨g,i,none⟩=some (.int .i64 (ks[i]:Nat)):=by
 have h':w.ownsRow B 3 1 (.slice a n cap) ks.length (ks.map λk=>Value.int .i64 (k:Nat)):=h;obtain ⟨_,⟨_,e⟩ | ⟨g,cap',cur,e,_⟩⟩:=h
 ·omega
 ·simp at e;refine ⟨g,e.1,?_⟩;obtain ⟨rfl,rfl,rfl⟩:=e;rw [h'.cellAt i (by simpa using hi)];simp [hi]
theorem dH.shape(h:dH B w v ks):∃a cap,v=.slice a ks.length cap:=aS h
def nC(p:Nat->Bool)(ks:List Nat):Int:=if ks.findIdx p<ks.length then (ks.findIdx p:Nat) else -1
theorem aFz{p:Nat->Bool}{k:Nat}(hk:k<ks.length)(h:p ks[k]=true)(ho:∀j (hj:j<k),p (ks[j]'(by omega))=false):nC p ks=(k:Nat):=by have e:ks.findIdx p=k:=(List.findIdx_eq hk).2 ⟨h,λj hj=>by simpa using ho j hj⟩;unfold nC;rw [e,if_pos hk]
theorem aBg{p:Nat->Bool}(ho:∀j (hj:j<ks.length),p ks[j]=false):nC p ks=-1:=by
 have e:ks.findIdx p=ks.length:=List.findIdx_eq_length.2 (λx hx=>by
  obtain ⟨j,hj,rfl⟩:=List.getElem_of_mem hx;exact ho j hj)
 unfold nC;rw [e,if_neg (by omega)]
theorem aOa{p:Nat->Bool}:decide (0<=nC p ks)=ks.any p:=by
 unfold nC;split
 ·rename_i h;rw [show decide (0<=((ks.findIdx p:Nat):Int))=true by simp];rw [zw] at h;exact (zu.2 h).symm
 ·rename_i h;rw [zw] at h;have:ks.any p=false:=by
   rw [Bool.eq_false_iff];exact λhh=>h (zu.1 hh)
  rw [this];rfl
def aG0(w:World)(b1 b2:Nat)(p:Nat->Bool)(ks:List Nat):Prop:=∀k∈ks,∀wx,Below w.heap.size w wx->Calls zy 121 #[.int .i64 (k:Nat),.pointer (some ⟨b1,0,none⟩),.pointer (some ⟨b2,0,none⟩)] wx λe w'=>e=.returned (.bool (p k))/\Below wx.heap.size wx w'
theorem aOb(B b1 b2:Nat)(p:Nat->Bool)(a:Option Addr)(cap:Nat)(ks:List Nat)(w:World)(h:dH B w (.slice a ks.length cap) ks)(hl:ks.length<=1000000)(hs:aG0 w b1 b2 p ks) :
  Calls zy 125 #[.slice a ks.length cap,.func (.func 121) #[] #[.pointer (some ⟨b1,0,none⟩),.pointer (some ⟨b2,0,none⟩)]] w λe w'=>e=.returned (.int .i64 (nC p ks))/\Below w.heap.size w w':=by
 have HS:=aA hs;have HH:=aA h;clear hs h;go_enter Tryz.func125,Tryz.ntmps125;go_wp2;go_loopw [8] (λi wr=>∃k:Nat,k<=ks.length/\i=.int .i64 k/\(∀j (hj:j<ks.length),j<k->p ks[j]=false)/\Below w.heap.size w wr) (λi _=>ks.length-(intOf i).toNat);case atStart=>exact ⟨0,Nat.zero_le _,rfl,λj _ h=>by omega,Below.refl _ _⟩
 case round=>
  obtain ⟨k,hk,rfl,hm,hb⟩:=hrel;have HM:=aA hm;have HB:=aA hb;clear hm;by_cases hlt:k<ks.length
  ·obtain ⟨g,rfl,hc⟩:=HH.out.cell hlt;have hc2:=Below.at' hb (zx _) hc;have hki:(k:Int)<(ks.length:Int):=by omega
   obtain ⟨x,hx⟩ : ∃x,ks[k]=x:=⟨_,rfl⟩;rw [hx] at hc hc2;have CP:=aA (HS.out x (by rw [<-hx];exact zt hlt) wr hb);have HX:=aA hx;have hbs:=hb.size;clear hc hx hb;cases hp:p x
   ·rw [hp] at CP;have HP:=aA hp;clear hp;go_wp2_with (first
     | (go_at_call 121;refine (aB CP).mono ?_;rintro e w1 ⟨rfl,hb1⟩;have HB1:=aA (HB.out.trans (hb1.mono hbs));clear hb1)
     | go_in)
    go_roundw;case rel=>exact ⟨k+1,by omega,by go_num,λj hj hjk=>by
     rcases (show j<k\/j=k by omega) with h | rfl
     ·exact HM.out j hj h
     ·rw [HX.out];exact HP.out,HB1.out⟩
    case measure=>simp [intOf];omega
   ·rw [hp] at CP;have HP:=aA hp;clear hp;go_wp2_with (first
     | (go_at_call 121;refine (aB CP).mono ?_;rintro e w1 ⟨rfl,hb1⟩;have HB1:=aA (HB.out.trans (hb1.mono hbs));clear hb1)
     | go_in)
    go_ret;have hf:=aFz hlt (by rw [HX.out];exact HP.out) (λj hj=>HM.out j (by omega) hj);exact ⟨by rw [hf];rfl,HB1.out⟩
  ·have hke:k=ks.length:=by omega
   clear hb;go_wp2;go_ret;have hf:=aBg (λj hj=>HM.out j hj (by omega));exact ⟨by rw [hf];rfl,HB.out⟩
theorem aOc(B b1 b2:Nat)(p:Nat->Bool)(a:Option Addr)(cap:Nat)(ks:List Nat)(w:World)(h:dH B w (.slice a ks.length cap) ks)(hl:ks.length<=1000000)(hs:aG0 w b1 b2 p ks) :
  Calls zy 120 #[.slice a ks.length cap,.func (.func 121) #[] #[.pointer (some ⟨b1,0,none⟩),.pointer (some ⟨b2,0,none⟩)]] w λe w'=>e=.returned (.bool (ks.any p))/\Below w.heap.size w w':=by
 have CI:=aA (aOb B b1 b2 p a cap ks w h hl hs);have hany:=aOa (p:=p) (ks:=ks);clear h hs;generalize nC p ks=r at *;generalize ks.any p=q at *;have HA:=aA hany;clear hany;go_enter Tryz.func120,Tryz.ntmps120;go_wp2_with (go_at_call 125;refine (aB CI).mono ?_;rintro e w1 ⟨rfl,hb⟩;have HB:=aA hb;clear hb);go_ret;exact ⟨by rw [<-HA.out];rfl,HB.out⟩
def aG1(w:World)(b1 b2:Nat)(p:Nat->Bool)(ks:List Nat):Prop:=∀k∈ks,∀wx,Below w.heap.size w wx->Calls zy 99 #[.int .i64 (k:Nat),.pointer (some ⟨b1,0,none⟩),.pointer (some ⟨b2,0,none⟩)] wx λe w'=>e=.returned (.bool (p k))/\Below wx.heap.size wx w'
theorem aG2(B b1 b2:Nat)(p:Nat->Bool)(a:Option Addr)(cap:Nat)(ks:List Nat)(w:World)(h:dH B w (.slice a ks.length cap) ks)(hl:ks.length<=1000000)(hs:aG1 w b1 b2 p ks) :
  Calls zy 125 #[.slice a ks.length cap,.func (.func 99) #[] #[.pointer (some ⟨b1,0,none⟩),.pointer (some ⟨b2,0,none⟩)]] w λe w'=>e=.returned (.int .i64 (nC p ks))/\Below w.heap.size w w':=by
 have HS:=aA hs;have HH:=aA h;clear hs h;go_enter Tryz.func125,Tryz.ntmps125;go_wp2;go_loopw [8] (λi wr=>∃k:Nat,k<=ks.length/\i=.int .i64 k/\(∀j (hj:j<ks.length),j<k->p ks[j]=false)/\Below w.heap.size w wr) (λi _=>ks.length-(intOf i).toNat);case atStart=>exact ⟨0,Nat.zero_le _,rfl,λj _ h=>by omega,Below.refl _ _⟩
 case round=>
  obtain ⟨k,hk,rfl,hm,hb⟩:=hrel;have HM:=aA hm;have HB:=aA hb;clear hm;by_cases hlt:k<ks.length
  ·obtain ⟨g,rfl,hc⟩:=HH.out.cell hlt;have hc2:=Below.at' hb (zx _) hc;have hki:(k:Int)<(ks.length:Int):=by omega
   obtain ⟨x,hx⟩ : ∃x,ks[k]=x:=⟨_,rfl⟩;rw [hx] at hc hc2;have CP:=aA (HS.out x (by rw [<-hx];exact zt hlt) wr hb);have HX:=aA hx;have hbs:=hb.size;clear hc hx hb;cases hp:p x
   ·rw [hp] at CP;have HP:=aA hp;clear hp;go_wp2_with (first
     | (go_at_call 99;refine (aB CP).mono ?_;rintro e w1 ⟨rfl,hb1⟩;have HB1:=aA (HB.out.trans (hb1.mono hbs));clear hb1)
     | go_in)
    go_roundw;case rel=>exact ⟨k+1,by omega,by go_num,λj hj hjk=>by
     rcases (show j<k\/j=k by omega) with h | rfl
     ·exact HM.out j hj h
     ·rw [HX.out];exact HP.out,HB1.out⟩
    case measure=>simp [intOf];omega
   ·rw [hp] at CP;have HP:=aA hp;clear hp;go_wp2_with (first
     | (go_at_call 99;refine (aB CP).mono ?_;rintro e w1 ⟨rfl,hb1⟩;have HB1:=aA (HB.out.trans (hb1.mono hbs));clear hb1)
     | go_in)
    go_ret;have hf:=aFz hlt (by rw [HX.out];exact HP.out) (λj hj=>HM.out j (by omega) hj);exact ⟨by rw [hf];rfl,HB1.out⟩
  ·have hke:k=ks.length:=by omega
   clear hb;go_wp2;go_ret;have hf:=aBg (λj hj=>HM.out j hj (by omega));exact ⟨by rw [hf];rfl,HB.out⟩
structure Cd where
 r:Int
 a:Int
 b:Int
 i:Int
 j:Int
 ad:Option Addr
 ln:Nat
 cp:Nat
 wt:Int
 nm:Int
 c:List Lt
def Cd.cells(x:Cd):List Value:=[.int .i64 x.r,.int .i64 x.a,.int .i64 x.b,.int .i64 x.i,.int .i64 x.j,.slice x.ad x.ln x.cp,.int .i64 x.wt,.int .i64 x.nm]
def Cd.agg(x:Cd):Value:=.agg #[.int .i64 x.r,.int .i64 x.a,.int .i64 x.b,.int .i64 x.i,.int .i64 x.j,.slice x.ad x.ln x.cp,.int .i64 x.wt,.int .i64 x.nm]
def gL(L:List Cd):List Value:=L.flatMap Cd.cells
theorem aOd:(zy.info? 116).map (λi=>(i.zero,i.size,i.bytes))=some (some (.agg #[.int .i64 0,.int .i64 0,.int .i64 0,.int .i64 0,.int .i64 0,.slice none 0 0,.int .i64 0,.int .i64 0]),8,80):=by kernel_rfl
theorem aG3(L:List Cd):(gL L).length=L.length*8:=by
 induction L with
 | nil=>rfl
 | cons x r ih=>simp [gL,Cd.cells] at ih ⊢;omega
theorem uU(x:Cd)(L:List Cd):gL (x :: L)=x.cells++gL L:=rfl
theorem aOe(L M:List Cd):gL (L++M)=gL L++gL M:=by simp [gL]
theorem yU(x:Cd):x.cells.length=8:=rfl
theorem qG:∀(L:List Cd) (k:Nat) (h:k<L.length) (t:Nat),t<8->(gL L)[k*8+t]?=(L[k]).cells[t]?
 | [],k,h,_,_=>by simp at h
 | x :: L,0,_,t,ht=>by rw [uU,List.getElem?_append_left (by rw [yU];omega)];simp
 | x :: L,k+1,h,t,ht=>by
  have:=qG L k (by simpa using h) t ht;rw [uU,List.getElem?_append_right (by rw [yU];omega),yU,show (k+1)*8+t-8=k*8+t by omega,this];simp
def yV(X:List Value)(o:Nat)(x:Cd):List Value:=(((((((X.set o (.int .i64 x.r)).set (o+1) (.int .i64 x.a)).set (o+2) (.int .i64 x.b)).set (o+3) (.int .i64 x.i)).set (o+4) (.int .i64 x.j)).set (o+5) (.slice x.ad x.ln x.cp)).set (o+6) (.int .i64 x.wt)).set (o+7) (.int .i64 x.nm)
theorem aG4:∀(L:List Cd) (k:Nat) (x:Cd),k<L.length->yV (gL L) (k*8) x=gL (L.set k x)
 | [],k,_,h=>by simp at h
 | y :: L,0,x,_=>by simp [yV,gL,Cd.cells]
 | y :: L,k+1,x,h=>by
  have:=aG4 L k x (by simpa using h);rw [List.set_cons_succ,uU,uU,<-this];have e0:(k+1)*8=k*8+8:=by omega
  simp only [yV,e0];simp [Cd.cells]
theorem qH{e:TypeId}{z:Nat}{xs:List Value}(h:w.ownsRow B e z (.slice (some ⟨g,0,none⟩) n cap) n xs)(k:Nat)(u:Value):(w.setCell ⟨g,k,none⟩ u).ownsRow B e z (.slice (some ⟨g,0,none⟩) n cap) n (xs.set k u):=by
 obtain ⟨h1,⟨e1,_⟩ | ⟨g',cap',cur,e1,hb,hh,hc,hm,hz,ht⟩⟩:=h
 ·cases e1
 ·simp at e1;obtain ⟨rfl,rfl⟩:=e1;refine ⟨by simpa using h1,Or.inr ⟨g,cap,cur.setIfInBounds k u,rfl,hb,?_,hc,hm,by simpa using hz,?_⟩⟩
  ·have hlt:=(zz.1 hh).1;show (w.heap.modify g _)[g]?=_;rw [Array.getElem?_eq_getElem (by rw [Array.size_modify];exact hlt),Array.getElem_modify_self];rw [(zz.1 hh).2];rfl
  ·rw [<-ht];simp [List.take_set]
structure bY(B:Nat)(w:World)(hp:Nat)(v:Value)(L:List Cd):Prop where
 box:w.heap[hp]?=some (.cells #[v,.func (.func 62) #[] #[]] 147 (0,0))
 row:w.ownsRow B 116 8 v L.length (gL L)
 base:B<=hp
theorem bY.c0{L:List Cd}(h:bY B w hp v L):w.cell? ⟨hp,0,none⟩=some v/\w.cell? ⟨hp,1,none⟩=some (.func (.func 62) #[] #[]):=⟨by simp [World.cell?,h.box],by simp [World.cell?,h.box]⟩
theorem bY.cells{L:List Cd}(h:bY B w hp v L){k:Nat}(hk:k<L.length) :
  ∃g cap,v=.slice (some ⟨g,0,none⟩) L.length cap/\w.cell? ⟨g,k*8,none⟩=some (.int .i64 L[k].r)/\w.cell? ⟨g,k*8+1,none⟩=some (.int .i64 L[k].a)/\w.cell? ⟨g,k*8+2,none⟩=some (.int .i64 L[k].b)/\w.cell? ⟨g,k*8+3,none⟩=some (.int .i64 L[k].i)/\
   w.cell? ⟨g,k*8+4,none⟩=some (.int .i64 L[k].j)/\w.cell? ⟨g,k*8+5,none⟩=some (.slice L[k].ad L[k].ln L[k].cp)/\w.cell? ⟨g,k*8+6,none⟩=some (.int .i64 L[k].wt)/\w.cell? ⟨g,k*8+7,none⟩=some (.int .i64 L[k].nm):=by
 obtain ⟨h1,⟨_,e⟩ | ⟨g,cap,cur,rfl,hb,hh,hr⟩⟩:=h.row
 ·omega
 ·have ho:=h.row;have hl:=aG3 L;refine ⟨g,cap,rfl,?_,?_,?_,?_,?_,?_,?_,?_⟩
  ·rw [ho.cellAt (k*8) (by omega)];exact qG L k hk 0 (by omega)
  ·rw [ho.cellAt (k*8+1) (by omega)];exact qG L k hk 1 (by omega)
  ·rw [ho.cellAt (k*8+2) (by omega)];exact qG L k hk 2 (by omega)
  ·rw [ho.cellAt (k*8+3) (by omega)];exact qG L k hk 3 (by omega)
  ·rw [ho.cellAt (k*8+4) (by omega)];exact qG L k hk 4 (by omega)
  ·rw [ho.cellAt (k*8+5) (by omega)];exact qG L k hk 5 (by omega)
  ·rw [ho.cellAt (k*8+6) (by omega)];exact qG L k hk 6 (by omega)
  ·rw [ho.cellAt (k*8+7) (by omega)];exact qG L k hk 7 (by omega)
def gF(w:World)(g o:Nat)(x:Cd):World:=(((((((w.setCell ⟨g,o,none⟩ (.int .i64 x.r)).setCell ⟨g,o+1,none⟩ (.int .i64 x.a)).setCell ⟨g,o+2,none⟩ (.int .i64 x.b)).setCell ⟨g,o+3,none⟩ (.int .i64 x.i)).setCell ⟨g,o+4,none⟩ (.int .i64 x.j)).setCell ⟨g,o+5,none⟩ (.slice x.ad x.ln x.cp)).setCell ⟨g,o+6,none⟩ (.int .i64 x.wt)).setCell ⟨g,o+7,none⟩ (.int .i64 x.nm)
theorem aOf{k:Nat}{e:TypeId}{L:List Cd}{x:Cd}(h:w.ownsRow B e 8 (.slice (some ⟨g,0,none⟩) n cap) n (gL L))(hk:k<L.length):(gF w g (k*8) x).ownsRow B e 8 (.slice (some ⟨g,0,none⟩) n cap) n (gL (L.set k x)):=by rw [<-aG4 L k x hk];unfold gF yV;exact qH (qH (qH (qH (qH (qH (qH (qH h _ _) _ _) _ _) _ _) _ _) _ _) _ _) _ _
theorem aG5(w:World)(g o:Nat)(x:Cd):w.grownBy (gF w g o x) (some g):=by
 unfold gF;have h:∀(u:World) (k:Nat) (v:Value),w.grownBy u (some g)->w.grownBy (u.setCell ⟨g,k,none⟩ v) (some g):=λu k v hu=>by
  have h2:=bR u ⟨g,k,none⟩ v;exact ⟨h2.os.trans hu.os,h2.tape.trans hu.tape,h2.output.trans hu.output,Nat.le_trans hu.size h2.size,λj hj hne=>(h2.block j (zv hj hu.size) hne).trans (hu.block j hj hne)⟩
 refine h _ _ _ (h _ _ _ (h _ _ _ (h _ _ _ (h _ _ _ (h _ _ _ (h _ _ _ (h _ _ _ ?_)))))));exact ⟨rfl,rfl,rfl,zx _,λ_ _ _=>rfl⟩
theorem aOg(w:World)(g o q:Nat)(x:Cd)(h:q<o\/o+8<=q):(gF w g o x).cell? ⟨g,q,none⟩=w.cell? ⟨g,q,none⟩:=by unfold gF;iterate 8 rw [World.cell?_setCell_other _ _ _ _ (by intro h;simp only [Addr.mk.injEq] at h;omega)]
theorem bY.frozen{L:List Cd}(h:bY B w hp (.slice (some ⟨g,0,none⟩) n cap) L)(q:Nat):w.frozen? ⟨g,q,none⟩=false:=by
 obtain ⟨_,⟨e,_⟩ | ⟨g',cap',cur,e,hb,hh,_⟩⟩:=h.row
 ·cases e
 ·simp at e;obtain ⟨rfl,_⟩:=e;simp [World.frozen?,hh]
def jD(x y:Cd):Bool:=if x.wt=y.wt then decide (x.nm<y.nm) else decide (x.wt<y.wt)
theorem aG6(x y:Cd)(w:World):Calls zy 62 #[x.agg,y.agg] w λe w'=>e=.returned (.bool (jD x y))/\Below w.heap.size w w':=by
 unfold Cd.agg;go_enter Tryz.func62,Tryz.ntmps62;go_wp2
 ·have hne:x.wt≠y.wt:=by simpa using ‹(x.wt != y.wt)=true›
  go_ret;exact ⟨by simp [jD,hne],((Below.refl _ w).alloc (zx _) _).alloc (by simp) _⟩
 ·have heq:x.wt=y.wt:=by simpa using ‹(x.wt != y.wt)=false›
  go_ret;exact ⟨by simp [jD,heq],((Below.refl _ w).alloc (zx _) _).alloc (by simp) _⟩
theorem bY.below{w':World}{L:List Cd}(h:bY B w hp v L)(hb:Below w.heap.size w w'):bY B w' hp v L:=
 ⟨(hb.block _ (zz.1 h.box).1).trans h.box,aU h.row hb (zx _),h.base⟩
theorem bY.put{k:Nat}{L:List Cd}{x:Cd}(h:bY B w hp (.slice (some ⟨g,0,none⟩) n cap) L)(hn:n=L.length)(hk:k<L.length):bY B (gF w g (k*8) x) hp (.slice (some ⟨g,0,none⟩) n cap) (L.set k x)/\w.grownBy (gF w g (k*8) x) (some g):=by
 subst hn;obtain ⟨_,⟨e,_⟩ | ⟨g',cap',cur,e,_,hh,_⟩⟩:=h.row
 ·cases e
 ·simp at e;obtain ⟨rfl,rfl⟩:=e;have hgr:=aG5 w g (k*8) x;refine ⟨⟨?_,?_,h.base⟩,hgr⟩
  ·rw [hgr.block hp (zz.1 h.box).1 (by
    intro e;cases e;rw [h.box] at hh;cases hh)]
   exact h.box
  ·have:=aOf (x:=x) h.row hk;simpa using this
theorem kA{a b c:World}{r:Option Nat}(h:a.grownBy b r)(k:b.grownBy c r):a.grownBy c r:=
 ⟨k.os.trans h.os,k.tape.trans h.tape,k.output.trans h.output,Nat.le_trans h.size k.size,λj hj hne=>(k.block j (zv hj h.size) hne).trans (h.block j hj hne)⟩
theorem bY.mv{w':World}{L:List Cd}(h:bY B w hp v L)(hg:w.grownBy w' v.ownBlock):Mv [116] B w w':=by
 refine Mv.of_grown hg (λk hk=>?_);obtain ⟨_,⟨rfl,_⟩ | ⟨g,cap,cur,rfl,hb,hh,_⟩⟩:=h.row
 ·cases hk
 ·cases hk;exact ⟨hb,cur,_,hh,by simp⟩
def nD(L:List Cd)(a b:Nat)(ha:a<L.length)(hb:b<L.length):List Cd:=(L.set a L[b]).set b L[a]
theorem wM{L:List Cd}{a b:Nat}(ha:a<L.length)(hb:b<L.length):(nD L a b ha hb).length=L.length:=by simp [nD]
theorem aG7(B hp:Nat)(v:Value)(L:List Cd)(a b:Nat)(w:World)(h:bY B w hp v L)(ha:a<L.length)(hb:b<L.length)(hne:a≠b) :
  Calls zy 134 #[.pointer (some ⟨hp,0,none⟩),.int .i64 a,.int .i64 b] w λe w'=>(∃u,e=.returned u)/\bY B w' hp v (nD L a b ha hb)/\w.grownBy w' v.ownBlock:=by
 obtain ⟨g,cap,rfl,x0,x1,x2,x3,x4,x5,x6,x7⟩:=h.cells ha;obtain ⟨g',cap',e,y0,y1,y2,y3,y4,y5,y6,y7⟩:=h.cells hb;cases e;have c0:=h.c0.1;have hf:=h.frozen;have hai:(a:Int)<(L.length:Int):=by omega
 have hbi:(b:Int)<(L.length:Int):=by omega
 have z:=λt (ht:t<8)=>aOg w g (a*8) (b*8+t) L[b] (by omega)
 have z0:=(z 0 (by omega)).trans y0;have z1:=(z 1 (by omega)).trans y1;have z2:=(z 2 (by omega)).trans y2;have z3:=(z 3 (by omega)).trans y3;have z4:=(z 4 (by omega)).trans y4;have z5:=(z 5 (by omega)).trans y5;have z6:=(z 6 (by omega)).trans y6;have z7:=(z 7 (by omega)).trans y7;clear z;unfold gF at z0 z1 z2 z3 z4 z5 z6 z7;simp only [Nat.add_zero] at z0;have HH:=aA h;clear h;go_enter Tryz.func134,Tryz.ntmps134;have hmix:zy.follows .mixedOrders=true:=by kernel_rfl
 go_region;go_end0;have h1:=HH.out.put (x:=L[b]) rfl ha;have h2:=h1.1.put (k:=b) (x:=L[a]) (by simp) (by simpa using hb);refine ⟨⟨_,rfl⟩,?_,?_⟩
 ·exact h2.1.below (aI ⟨1,rfl⟩)
 ·exact kA (kA h1.2 h2.2) (fV (aI ⟨1,rfl⟩))
end Go.Proofs.YtcldkjcpofjmhaaGreatDoor
