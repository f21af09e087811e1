/- The heap: a thing rises; a thing is laid to those that wait. The heap: a thing sinks. The heap: a thing is laid to those that wait; the first one is taken out. The heap: the first one is taken out. -/
import Derived.Test.YtbddofieljiihaaGreatDoorXRngI
import Derived.Test.YtbddofieljiihaaGreatDoorStepAppI
namespace Go.Proofs.YtbddofieljiihaaGreatDoor
open Go.RowKit
set_option maxRecDepth 100000
def gF:Nat→List Cd→Nat→List Cd
 | 0,L,_=>L
 | f+1,L,k=>if h:0 < k∧k < L.length then (if jJ (L[k]'h.2) (L[(k - 1) / 2]'(by omega)) then gF f (mT L k ((k - 1) / 2) h.2 (by omega)) ((k - 1) / 2) else L) else L
theorem aHh:∀(f:Nat) (L:List Cd) (k:Nat),(gF f L k).length=L.length
 | 0,_,_=>rfl
 | f+1,L,k=>by
  unfold gF
  split
  ·split
   ·rw [aHh f];exact vA _ _
   ·rfl
  ·rfl
def aHi (w:World) (g k:Nat) (x:Cd):Prop:=w.cell? ⟨g,k * 8,none⟩=some (.int .i64 x.r)∧w.cell? ⟨g,k * 8+1,none⟩=some (.int .i64 x.a)∧w.cell? ⟨g,k * 8+2,none⟩=some (.int .i64 x.b)∧w.cell? ⟨g,k * 8+3,none⟩=some (.int .i64 x.i)∧
 w.cell? ⟨g,k * 8+4,none⟩=some (.int .i64 x.j)∧w.cell? ⟨g,k * 8+5,none⟩=some (.slice x.ad x.ln x.cp)∧w.cell? ⟨g,k * 8+6,none⟩=some (.int .i64 x.wt)∧w.cell? ⟨g,k * 8+7,none⟩=some (.int .i64 x.nm)
theorem bT.at {B:Nat} {w:World} {hp:Nat} {v:Value} {L:List Cd} (h:bT B w hp v L) {k:Nat} (hk:k < L.length):∃g cap,v=.slice (some ⟨g,0,none⟩) L.length cap∧aHi w g k L[k]:=h.cells hk
theorem aU7 {f:Nat} {L:List Cd} {k:Nat} (h0:0 < k) (hk:k < L.length):∃(up:Nat) (hu:up < L.length),((k:Int) - 1).tdiv 2=(up:Int)∧up < k∧gF (f+1) L k=if jJ L[k] L[up] then gF f (mT L k up hk hu) up else L:=by
 refine ⟨(k - 1) / 2,by omega,?_,by omega,?_⟩
 ·rw [show ((k:Int) - 1)=((k - 1:Nat):Int) by omega]
  rfl
 ·conv=>lhs;unfold gF
  rw [dif_pos ⟨h0,hk⟩]
def xP (hp g n cap q up:Nat) (x y:Cd) (w':World):Prop:=w'.cell? ⟨hp,0,none⟩=some (.slice (some ⟨g,0,none⟩) n cap)∧w'.cell? ⟨hp,1,none⟩=some (.func (.func 34) #[] #[])∧w'.cell? ⟨g,q * 8,none⟩=some (.int .i64 x.r)∧w'.cell? ⟨g,q * 8+1,none⟩=some (.int .i64 x.a)∧w'.cell? ⟨g,q * 8+2,none⟩=some (.int .i64 x.b)∧w'.cell? ⟨g,q * 8+3,none⟩=some (.int .i64 x.i)∧w'.cell? ⟨g,q * 8+4,none⟩=some (.int .i64 x.j)∧w'.cell? ⟨g,q * 8+5,none⟩=some (.slice x.ad x.ln x.cp)∧w'.cell? ⟨g,q * 8+6,none⟩=some (.int .i64 x.wt)∧w'.cell? ⟨g,q * 8+7,none⟩=some (.int .i64 x.nm)∧w'.cell? ⟨g,up * 8,none⟩=some (.int .i64 y.r)∧w'.cell? ⟨g,up * 8+1,none⟩=some (.int .i64 y.a)∧w'.cell? ⟨g,up * 8+2,none⟩=some (.int .i64 y.b)∧w'.cell? ⟨g,up * 8+3,none⟩=some (.int .i64 y.i)∧w'.cell? ⟨g,up * 8+4,none⟩=some (.int .i64 y.j)∧w'.cell? ⟨g,up * 8+5,none⟩=some (.slice y.ad y.ln y.cp)∧w'.cell? ⟨g,up * 8+6,none⟩=some (.int .i64 y.wt)∧w'.cell? ⟨g,up * 8+7,none⟩=some (.int .i64 y.nm)
theorem xP.below {hp g n cap q up:Nat} {x y:Cd} {w w':World} (h:xP hp g n cap q up x y w) (hb:Below w.heap.size w w'):xP hp g n cap q up x y w':=by
 obtain ⟨h0,h1,h2,h3,h4,h5,h6,h7,h8,h9,h10,h11,h12,h13,h14,h15,h16,h17⟩:=h
 exact ⟨Below.at' hb (Nat.le_refl _) h0,Below.at' hb (Nat.le_refl _) h1,Below.at' hb (Nat.le_refl _) h2,Below.at' hb (Nat.le_refl _) h3,Below.at' hb (Nat.le_refl _) h4,Below.at' hb (Nat.le_refl _) h5,Below.at' hb (Nat.le_refl _) h6,Below.at' hb (Nat.le_refl _) h7,Below.at' hb (Nat.le_refl _) h8,Below.at' hb (Nat.le_refl _) h9,Below.at' hb (Nat.le_refl _) h10,Below.at' hb (Nat.le_refl _) h11,Below.at' hb (Nat.le_refl _) h12,Below.at' hb (Nat.le_refl _) h13,Below.at' hb (Nat.le_refl _) h14,Below.at' hb (Nat.le_refl _) h15,Below.at' hb (Nat.le_refl _) h16,Below.at' hb (Nat.le_refl _) h17⟩
theorem bT.two {B:Nat} {w:World} {hp g cap:Nat} {L:List Cd} {q up:Nat} (h:bT B w hp (.slice (some ⟨g,0,none⟩) L.length cap) L) (hq:q < L.length) (hu:up < L.length):xP hp g L.length cap q up L[q] L[up] w:=by
 obtain ⟨g1,c1,e1,x0,x1,x2,x3,x4,x5,x6,x7⟩:=h.cells hq
 obtain ⟨g2,c2,e2,y0,y1,y2,y3,y4,y5,y6,y7⟩:=h.cells hu
 cases e1
 cases e2
 exact ⟨h.c0.1,h.c0.2,x0,x1,x2,x3,x4,x5,x6,x7,y0,y1,y2,y3,y4,y5,y6,y7⟩
set_option maxHeartbeats 4000000 in
theorem aU8 (B hp:Nat) (v:Value) (L:List Cd) (k:Nat) (w:World) (h:bT B w hp v L) (hk:k < L.length) (hL:L.length≤1000000000) :
  Calls Tryz.prog 87 #[.pointer (some ⟨hp,0,none⟩),.int .i64 k] w fun e w'=>(∃u,e=.returned u)∧bT B w' hp v (gF k L k)∧w.grownBy w' v.ownBlock:=by
 have HH:=aA h
 clear h
 go_enter Tryz.func87,Tryz.ntmps87
 go_wp2
 go_loopw [1] (fun p wr=>∃(q f:Nat) (M:List Cd),p=.int .i64 q∧q < M.length∧q≤f∧M.length=L.length∧bT B wr hp v M∧w.grownBy wr v.ownBlock∧gF f M q=gF k L k) (fun p _=>(intOf p).toNat)
 case atStart=>exact ⟨k,k,L,rfl,hk,Nat.le_refl _,rfl,HH.out,⟨rfl,rfl,rfl,Nat.le_refl _,fun _ _ _=>rfl⟩,rfl⟩
 case round=>
  obtain ⟨q,f,M,rfl,hq,hf,hM,hI,hm,he⟩:=hrel
  by_cases h0:0 < q
  ·obtain ⟨f,rfl⟩ : ∃f',f=f'+1:=⟨f - 1,by omega⟩
   obtain ⟨up,hu,hdiv,huq,hst⟩:=aU7 (f:=f) h0 hq
   rw [hst] at he
   obtain ⟨g,cap,rfl,_⟩:=hI.at hq
   have hS:=hI.two hq hu
   have CSW:=aA (fun (wx:World) (hx:bT B wx hp (.slice (some ⟨g,0,none⟩) M.length cap) M)=>aIa B hp _ M q up wx hx hq hu (by omega))
   generalize hM':mT M q up hq hu=M' at *
   have hMl:M'.length=M.length:=by rw [←hM'];exact vA _ _
   have CL:=aA (fun (wx:World) (hwx:∃d,wx=wr.drewN d)=>(aI9 M[q] M[up] wx).mono (R':=fun e w2=>e=.returned (.bool (jJ M[q] M[up]))∧Below wr.heap.size wr w2) (fun e w2 he=>by
    obtain ⟨d,rfl⟩:=hwx
    exact ⟨he.1,(aJ ⟨d,rfl⟩).trans he.2⟩))
   generalize M[q]=x at *
   generalize M[up]=y at *
   unfold Cd.agg at CL
   have HS:=aA hS
   obtain ⟨x0,x1,x2,x3,x4,x5,x6,x7,x8,x9,x10,x11,x12,x13,x14,x15,x16,x17⟩:=hS
   have HI:=aA hI
   have HM:=aA hm
   have HE:=aA he
   have HMM:=aA (show M.length=L.length from hM)
   have hqi:(0:Int) < (q:Int):=by omega
   have hqz:(0:Int)≤(q:Int):=by omega
   have huz:(0:Int)≤(up:Int):=by omega
   have hq2:(q:Int) < (M.length:Int):=by omega
   have hu2:(up:Int) < (M.length:Int):=by omega
   have hw1:wrap64 ((q:Int) - 1)=(q:Int) - 1:=by unfold wrap64;omega
   have hw3:wrap64 (up:Int)=(up:Int):=by unfold wrap64;omega
   have hw2:wrap64 (((q:Int) - 1).tdiv 2)=(up:Int):=by rw [hdiv];unfold wrap64;omega
   clear he hst hI hm hM' hM
   generalize hml:M.length=ml at *
   have HML:=aA hml
   clear hml
   go_wp2
   go_region_held3 (fun w'=>w'.cell? ⟨hp,0,none⟩=some (.slice (some ⟨g,0,none⟩) ml cap)∧w'.cell? ⟨hp,1,none⟩=some (.func (.func 34) #[] #[])∧w'.cell? ⟨g,q * 8,none⟩=some (.int .i64 x.r)∧w'.cell? ⟨g,q * 8+1,none⟩=some (.int .i64 x.a)∧w'.cell? ⟨g,q * 8+2,none⟩=some (.int .i64 x.b)∧w'.cell? ⟨g,q * 8+3,none⟩=some (.int .i64 x.i)∧w'.cell? ⟨g,q * 8+4,none⟩=some (.int .i64 x.j)∧w'.cell? ⟨g,q * 8+5,none⟩=some (.slice x.ad x.ln x.cp)∧w'.cell? ⟨g,q * 8+6,none⟩=some (.int .i64 x.wt)∧w'.cell? ⟨g,q * 8+7,none⟩=some (.int .i64 x.nm)∧w'.cell? ⟨g,up * 8,none⟩=some (.int .i64 y.r)∧w'.cell? ⟨g,up * 8+1,none⟩=some (.int .i64 y.a)∧w'.cell? ⟨g,up * 8+2,none⟩=some (.int .i64 y.b)∧w'.cell? ⟨g,up * 8+3,none⟩=some (.int .i64 y.i)∧w'.cell? ⟨g,up * 8+4,none⟩=some (.int .i64 y.j)∧w'.cell? ⟨g,up * 8+5,none⟩=some (.slice y.ad y.ln y.cp)∧w'.cell? ⟨g,up * 8+6,none⟩=some (.int .i64 y.wt)∧w'.cell? ⟨g,up * 8+7,none⟩=some (.int .i64 y.nm)) (go_keep)
    (first
     | (go_at_call 34;refine (aB CL _ (by first | exact ⟨0,rfl⟩ | exact ⟨1,rfl⟩ | exact ⟨_,rfl⟩)).mono ?_;rintro e w2 ⟨rfl,hb2⟩;obtain ⟨k0,k1,k2,k3,k4,k5,k6,k7,k8,k9,k10,k11,k12,k13,k14,k15,k16,k17⟩:=HS.out.below hb2;have HB2:=aA hb2;clear hb2)
     | go_in)
   have hI2:=HI.out.below HB2.out
   have HI2:=aA hI2
   have HM2:=aA (jK HM.out (fF HB2.out))
   clear hI2 hw1 hw2 hw3
   go_wp2_with (first
    | (go_at_call 115;refine (aB CSW w2 HI2.out).mono ?_;rintro e w3 ⟨⟨u,rfl⟩,h3,hm3⟩;have HI3:=aA h3;have HM3:=aA (jK HM2.out hm3);clear h3 hm3)
    | go_in)
   ·have hl:jJ x y=false:=by simpa using ‹(!jJ x y)=true›
    refine bodyPost_ret (results_none rfl _ _ _) rfl ?_
    have he:=HE.out
    rw [if_neg (by simp [hl])] at he
    rw [←he]
    exact ⟨⟨_,rfl⟩,by rw [HML.out];exact HI2.out,HM2.out⟩
   ·have hl:jJ x y=true:=by simpa using ‹(!jJ x y)=false›
    go_roundw
    case rel=>
     have he:=HE.out
     rw [if_pos hl] at he
     exact ⟨up,f,M',rfl,by rw [hMl];exact hu,by omega,by rw [hMl];exact HMM.out,HI3.out,HM3.out,he⟩
    case measure=>simp [intOf];omega
  ·have hq0:q=0:=by omega
   subst hq0
   have hz:gF f M 0=M:=by
    cases f with
    | zero=>rfl
    | succ f=>unfold gF;rw [dif_neg (by omega)]
   rw [hz] at he
   have HI:=aA hI
   have HM:=aA hm
   clear hI hm
   go_wp2
   go_end0
   rw [←he]
   exact ⟨⟨_,rfl⟩,HI.out,HM.out⟩
def dV (L:List Cd) (q:Nat):Nat→Nat
 | 0=>q
 | t+1=>if h:2 * q+1+t < L.length∧dV L q t < L.length then (if jJ (L[2 * q+1+t]'h.1) (L[dV L q t]'h.2) then 2 * q+1+t else dV L q t) else dV L q t
theorem aBs (L:List Cd) (q:Nat):∀t,dV L q t=q∨(q < dV L q t∧dV L q t < 2 * q+1+t∧dV L q t < L.length)
 | 0=>Or.inl rfl
 | t+1=>by
  unfold dV
  split
  ·split
   ·right;omega
   ·rcases aBs L q t with h | h
    ·exact Or.inl h
    ·right;omega
  ·rcases aBs L q t with h | h
   ·exact Or.inl h
   ·right;omega
theorem aHj {L:List Cd} {q t:Nat} (h:L.length≤2 * q+1+t):dV L q (t+1)=dV L q t:=by
 conv=>lhs;unfold dV
 rw [dif_neg (by omega)]
theorem aU9 {L:List Cd} {q t:Nat} (h1:2 * q+1+t < L.length) (h2:dV L q t < L.length):dV L q (t+1)=if jJ L[2 * q+1+t] L[dV L q t] then 2 * q+1+t else dV L q t:=by
 conv=>lhs;unfold dV
 rw [dif_pos ⟨h1,h2⟩]
def jW:Nat→List Cd→Nat→List Cd
 | 0,L,_=>L
 | f+1,L,q=>if h:dV L q 2≠q∧q < L.length∧dV L q 2 < L.length then jW f (mT L q (dV L q 2) h.2.1 h.2.2) (dV L q 2) else L
theorem aHk:∀(f:Nat) (L:List Cd) (q:Nat),(jW f L q).length=L.length
 | 0,_,_=>rfl
 | f+1,L,q=>by
  unfold jW
  split
  ·rw [aHk f];exact vA _ _
  ·rfl
theorem aHl {f:Nat} {L:List Cd} {q:Nat} (h:dV L q 2=q):jW f L q=L:=by
 cases f with
 | zero=>rfl
 | succ f=>unfold jW;rw [dif_neg (by omega)]
theorem aHm {f:Nat} {L:List Cd} {q b:Nat} (hb:dV L q 2=b) (hne:b≠q) (h1:q < L.length) (h2:b < L.length):jW (f+1) L q=jW f (mT L q b h1 h2) b:=by
 subst hb
 conv=>lhs;unfold jW
 rw [dif_pos ⟨hne,h1,h2⟩]
set_option maxHeartbeats 8000000 in
theorem aUa (B hp:Nat) (v:Value) (L:List Cd) (w:World) (h:bT B w hp v L) (hL:L.length≤1000000000) :
  Calls Tryz.prog 88 #[.pointer (some ⟨hp,0,none⟩),.int .i64 0] w fun e w'=>(∃u,e=.returned u)∧bT B w' hp v (jW L.length L 0)∧w.grownBy w' v.ownBlock:=by
 obtain ⟨va,vc,rfl⟩:=aR h.row
 have HH:=aA h
 clear h
 go_enter Tryz.func88,Tryz.ntmps88
 go_wp2
 go_loopw [1] (fun p wr=>∃(q f:Nat) (M:List Cd),p=.int .i64 q∧(q < M.length∨q=0)∧M.length≤q+f∧M.length=L.length∧bT B wr hp (.slice va L.length vc) M∧w.grownBy wr (Value.slice va L.length vc).ownBlock∧jW f M q=jW L.length L 0) (fun p _=>L.length - (intOf p).toNat)
 case atStart=>exact ⟨0,L.length,L,rfl,Or.inr rfl,by omega,rfl,HH.out,⟨rfl,rfl,rfl,Nat.le_refl _,fun _ _ _=>rfl⟩,rfl⟩
 case round=>
  obtain ⟨q,f,M,rfl,hq,hf,hM,hI,hm,he⟩:=hrel
  have hqL:q≤L.length:=by omega
  have HI:=aA hI
  have HM:=aA hm
  have HE:=aA he
  have HMM:=aA hM
  clear he hI hm hM
  go_wp2
  go_loopw [4,5] (fun b d wr=>∃t:Nat,t≤2∧b=.int .i64 (dV M q t)∧d=.int .i64 (2 * q+1+t:Nat)∧bT B wr hp (.slice va L.length vc) M∧w.grownBy wr (Value.slice va L.length vc).ownBlock) (fun _ d _=>2 * q+3 - (intOf d).toNat)
  case atStart=>exact ⟨0,by omega,rfl,by simp,HI.out,HM.out⟩
  case round=>
   obtain ⟨t,ht,rfl,rfl,hI,hm⟩:=hrel
   have hor:=aBs M q t
   have c0:=hI.c0.1
   have HI:=aA hI
   have HM:=aA hm
   clear hI hm
   by_cases hc:t≤1∧2 * q+1+t < L.length
   ·obtain ⟨hc1,hc2⟩:=hc
    have hMl:=HMM.out
    have hb2:dV M q t < M.length:=by omega
    have hd2:2 * q+1+t < M.length:=by omega
    have hstep:=aU9 hd2 hb2
    obtain ⟨d,hd⟩ : ∃d,2 * q+1+t=d:=⟨_,rfl⟩
    obtain ⟨b,hb⟩ : ∃b,dV M q t=b:=⟨_,rfl⟩
    have HST:Hid (∃x y,x=M[2 * q+1+t]∧y=M[dV M q t]∧dV M q (t+1)=if jJ x y then d else b):=aA ⟨_,_,rfl,rfl,by rw [←hd,←hb];exact hstep⟩
    obtain ⟨x,y,hx,hy,hbst⟩:=HST.out
    have hI2:=HI.out
    rw [←hMl] at hI2
    obtain ⟨g,cap,eg,hat⟩:=hI2.at hd2
    clear hat
    cases eg
    have hS:=hI2.two hd2 hb2
    rw [←hx,←hy,hMl] at hS
    simp only [hd,hb] at hS ⊢
    have CL:=aA (fun (wx:World) (hwx:∃e,wx=wr.drewN e)=>(aI9 x y wx).mono (R':=fun e w2=>e=.returned (.bool (jJ x y))∧Below wr.heap.size wr w2) (fun e w2 he=>by
     obtain ⟨e',rfl⟩:=hwx
     exact ⟨he.1,(aJ ⟨e',rfl⟩).trans he.2⟩))
    unfold Cd.agg at CL
    have HS:=aA hS
    obtain ⟨x0,x1,x2,x3,x4,x5,x6,x7,x8,x9,x10,x11,x12,x13,x14,x15,x16,x17⟩:=hS
    have HB2:=aA hb2
    have HBS:=aA hbst
    have hdq:(d:Int)≤2 * (q:Int)+2:=by omega
    have hdz:(0:Int)≤(d:Int):=by omega
    have hbz:(0:Int)≤(b:Int):=by omega
    have hdl:(d:Int) < (L.length:Int):=by omega
    have hbl:(b:Int) < (L.length:Int):=by omega
    have hdd:d≤2 * q+2:=by omega
    have HT:=aA (show d=2 * q+1+t from hd.symm)
    clear hstep hx hy hI2 hor hMl hd hb hbst HST hb2 hd2 hc2
    generalize hml:L.length=ml at *
    have HML:=aA hml
    clear hml
    go_wp2
    go_region_held3 (fun w'=>w'.cell? ⟨hp,0,none⟩=some (.slice (some ⟨g,0,none⟩) ml vc)∧w'.cell? ⟨hp,1,none⟩=some (.func (.func 34) #[] #[])∧w'.cell? ⟨g,d * 8,none⟩=some (.int .i64 x.r)∧w'.cell? ⟨g,d * 8+1,none⟩=some (.int .i64 x.a)∧w'.cell? ⟨g,d * 8+2,none⟩=some (.int .i64 x.b)∧w'.cell? ⟨g,d * 8+3,none⟩=some (.int .i64 x.i)∧w'.cell? ⟨g,d * 8+4,none⟩=some (.int .i64 x.j)∧w'.cell? ⟨g,d * 8+5,none⟩=some (.slice x.ad x.ln x.cp)∧w'.cell? ⟨g,d * 8+6,none⟩=some (.int .i64 x.wt)∧w'.cell? ⟨g,d * 8+7,none⟩=some (.int .i64 x.nm)∧w'.cell? ⟨g,b * 8,none⟩=some (.int .i64 y.r)∧w'.cell? ⟨g,b * 8+1,none⟩=some (.int .i64 y.a)∧w'.cell? ⟨g,b * 8+2,none⟩=some (.int .i64 y.b)∧w'.cell? ⟨g,b * 8+3,none⟩=some (.int .i64 y.i)∧w'.cell? ⟨g,b * 8+4,none⟩=some (.int .i64 y.j)∧w'.cell? ⟨g,b * 8+5,none⟩=some (.slice y.ad y.ln y.cp)∧w'.cell? ⟨g,b * 8+6,none⟩=some (.int .i64 y.wt)∧w'.cell? ⟨g,b * 8+7,none⟩=some (.int .i64 y.nm)) (go_keep)
     (first
      | (go_at_call 34;refine (aB CL _ (by first | exact ⟨0,rfl⟩ | exact ⟨1,rfl⟩ | exact ⟨_,rfl⟩)).mono ?_;rintro e w2 ⟨rfl,hb2⟩;obtain ⟨k0,k1,k2,k3,k4,k5,k6,k7,k8,k9,k10,k11,k12,k13,k14,k15,k16,k17⟩:=HS.out.below hb2;have HB3:=aA hb2;clear hb2)
      | go_in)
    have HI3:=aA (HI.out.below HB3.out)
    have HM3:=aA (jK HM.out (fF HB3.out))
    go_wp2
    ·have hl:jJ x y=true:=by assumption
     go_roundw
     case rel=>
      have hbs:=HBS.out
      rw [if_pos hl] at hbs
      have:=HT.out
      exact ⟨t+1,by omega,by rw [hbs],by have:(d:Int)+1=((2 * q+1+(t+1):Nat):Int):=(by omega);rw [←this],HI3.out,HM3.out⟩
     case measure=>simp [intOf];omega
    ·have hl:jJ x y=false:=by assumption
     go_roundw
     case rel=>
      have hbs:=HBS.out
      rw [if_neg (by simp [hl])] at hbs
      have:=HT.out
      exact ⟨t+1,by omega,by rw [hbs],by have:(d:Int)+1=((2 * q+1+(t+1):Nat):Int):=(by omega);rw [←this],HI3.out,HM3.out⟩
     case measure=>simp [intOf];omega
   ·have hMl:=HMM.out
    have hbe:dV M q 2=dV M q t:=by
     rcases Nat.lt_or_ge t 2 with h | h
     ·have h3:M.length≤2 * q+1+t:=by omega
      have e1:=aHj h3
      rcases (show t=0∨t=1 by omega) with rfl | rfl
      ·rw [aHj (t:=1) (by omega),e1]
      ·exact e1
     ·rw [show t=2 by omega]
    rw [←hbe] at hor ⊢
    obtain ⟨b,hb⟩ : ∃b,dV M q 2=b:=⟨_,rfl⟩
    rw [hb] at hor ⊢
    have hnn:¬(2 * q+1+t≤2 * q+2)∨¬(2 * q+1+t < L.length):=by omega
    obtain ⟨d,hd⟩ : ∃d,2 * q+1+t=d:=⟨_,rfl⟩
    rw [hd] at hnn ⊢
    have HHB:=aA hb
    clear hb hbe hc ht hd
    have CSW:=aA (fun (h1:q < M.length) (h2:b < M.length) (hne:q≠b)=>aIa B hp (.slice va L.length vc) M q b wr HI.out h1 h2 hne)
    by_cases h1:d≤2 * q+2
    ·have h2:¬d < L.length:=by omega
     have h1i:(d:Int)≤2 * (q:Int)+2:=by omega
     have h2i:¬(d:Int) < (L.length:Int):=by omega
     by_cases hbq:b=q
     ·subst hbq
      go_wp2
      refine bodyPost_ret (results_none rfl _ _ _) rfl ?_
      rw [←HE.out,aHl HHB.out]
      exact ⟨⟨_,rfl⟩,HI.out,HM.out⟩
     ·have hqM:q < M.length:=by omega
      have hbM:b < M.length:=by omega
      have hbqi:¬(b:Int)=(q:Int):=by omega
      obtain ⟨f,rfl⟩ : ∃f',f=f'+1:=⟨f - 1,by omega⟩
      have hgo:=aHm (f:=f) HHB.out hbq hqM hbM
      have hsl:=vA hqM hbM
      have CW:=aA (aB CSW hqM hbM (fun e=>hbq e.symm))
      generalize mT M q b hqM hbM=M' at *
      have HGO:=aA hgo
      have HSL:=aA hsl
      clear hgo hsl CSW
      go_wp2_with (first
       | (go_at_call 115;refine (aB CW).mono ?_;rintro e w3 ⟨⟨u,rfl⟩,h3,hm3⟩;have HI3:=aA h3;have HM3:=aA (jK HM.out hm3);clear h3 hm3)
       | go_in)
      go_roundw
      case rel=>exact ⟨b,f,M',rfl,Or.inl (by rw [HSL.out];exact hbM),by rw [HSL.out];omega,by rw [HSL.out];exact HMM.out,HI3.out,HM3.out,by rw [←HE.out,HGO.out]⟩
      case measure=>simp [intOf];omega
    ·have h1i:¬(d:Int)≤2 * (q:Int)+2:=by omega
     by_cases hbq:b=q
     ·subst hbq
      go_wp2
      refine bodyPost_ret (results_none rfl _ _ _) rfl ?_
      rw [←HE.out,aHl HHB.out]
      exact ⟨⟨_,rfl⟩,HI.out,HM.out⟩
     ·have hqM:q < M.length:=by omega
      have hbM:b < M.length:=by omega
      have hbqi:¬(b:Int)=(q:Int):=by omega
      obtain ⟨f,rfl⟩ : ∃f',f=f'+1:=⟨f - 1,by omega⟩
      have hgo:=aHm (f:=f) HHB.out hbq hqM hbM
      have hsl:=vA hqM hbM
      have CW:=aA (aB CSW hqM hbM (fun e=>hbq e.symm))
      generalize mT M q b hqM hbM=M' at *
      have HGO:=aA hgo
      have HSL:=aA hsl
      clear hgo hsl CSW
      go_wp2_with (first
       | (go_at_call 115;refine (aB CW).mono ?_;rintro e w3 ⟨⟨u,rfl⟩,h3,hm3⟩;have HI3:=aA h3;have HM3:=aA (jK HM.out hm3);clear h3 hm3)
       | go_in)
      go_roundw
      case rel=>exact ⟨b,f,M',rfl,Or.inl (by rw [HSL.out];exact hbM),by rw [HSL.out];omega,by rw [HSL.out];exact HMM.out,HI3.out,HM3.out,by rw [←HE.out,HGO.out]⟩
      case measure=>simp [intOf];omega
theorem aUb (x:Cd):∀u∈x.cells,u.oneCell'=true:=by
 intro u hu
 simp [Cd.cells] at hu
 rcases hu with rfl | rfl | rfl | rfl | rfl | rfl | rfl | rfl <;> rfl
theorem bT.frz {B:Nat} {w:World} {hp:Nat} {v:Value} {L:List Cd} (h:bT B w hp v L) (k:Nat):w.frozen? ⟨hp,k,none⟩=false:=by simp [World.frozen?,h.box]
theorem bT.more {B:Nat} {w w3:World} {hp:Nat} {v v3:Value} {L:List Cd} {x:Cd} (h:bT B w hp v L) (ho:w3.ownsRow B 82 8 v3 (L.length+1) (fJ L++x.cells)) (hg:w.grownBy w3 v.ownBlock) :
  w3.cell? ⟨hp,0,none⟩=some v∧w3.frozen? ⟨hp,0,none⟩=false∧bT B (w3.setCell ⟨hp,0,none⟩ v3) hp v3 (L++[x])∧Mv [82,112] B w (w3.setCell ⟨hp,0,none⟩ v3):=by
 have hbx:w3.heap[hp]?=some (.cells #[v,.func (.func 34) #[] #[]] 112 (0,0)):=by
  rw [hg.block hp (Array.getElem?_eq_some_iff.1 h.box).1 (fun e=>dD h.row h.box (by decide) e.symm)]
  exact h.box
 have hne:=dD ho hbx (by decide)
 have hlt:=(Array.getElem?_eq_some_iff.1 hbx).1
 refine ⟨by simp [World.cell?,hbx],by simp [World.frozen?,hbx],⟨?_,?_,h.base⟩,?_⟩
 ·show (w3.heap.modify hp _)[hp]?=_
  rw [Array.getElem?_eq_getElem (by rw [Array.size_modify];exact hlt),Array.getElem_modify_self,(Array.getElem?_eq_some_iff.1 hbx).2]
  rfl
 ·have:=cX ho (cB w3 ⟨hp,0,none⟩ v3) (Or.inr hne)
  rw [aVb]
  simpa [fJ] using this
 ·refine Mv.trans (V:=w3) (Mv.of_grown hg (fun k hk=>?_)) (Mv.of_grown (cB w3 ⟨hp,0,none⟩ v3) (fun k hk=>by cases hk;exact ⟨h.base,_,_,hbx,by simp⟩))
  obtain ⟨_,⟨rfl,_⟩ | ⟨g,cap,cur,rfl,hb,hh,_⟩⟩:=h.row
  ·cases hk
  ·cases hk
   exact ⟨hb,cur,_,hh,by simp⟩
set_option maxHeartbeats 4000000 in
theorem aUc (B hp:Nat) (v:Value) (L:List Cd) (x:Cd) (w:World) (h:bT B w hp v L) (hL:L.length≤1000000) (hB:B≤w.heap.size) :
  Calls Tryz.prog 55 #[.pointer (some ⟨hp,0,none⟩),x.agg] w fun e w'=>(∃u,e=.returned u)∧∃v',bT B w' hp v' (gF L.length (L++[x]) L.length)∧Mv [82,112] B w w':=by
 obtain ⟨va,vc,rfl⟩:=aR h.row
 have HH:=aA h
 clear h
 unfold Cd.agg
 go_enter Tryz.func55,Tryz.ntmps55
 go_wp2_with fail
 obtain ⟨w1,hw1,hb1,hx1⟩ : ∃w1,w.alloc (.cells #[.int .i64 x.r,.int .i64 x.a,.int .i64 x.b,.int .i64 x.i,.int .i64 x.j,.slice x.ad x.ln x.cp,.int .i64 x.wt,.int .i64 x.nm] 82)=w1∧Below w.heap.size w w1∧w1.heap[w.heap.size]?=some (.cells #[.int .i64 x.r,.int .i64 x.a,.int .i64 x.b,.int .i64 x.i,.int .i64 x.j,.slice x.ad x.ln x.cp,.int .i64 x.wt,.int .i64 x.nm] 82 (0,0)):=⟨_,rfl,(Below.refl _ w).alloc (Nat.le_refl _) _,World.alloc_heap_new w _⟩
 simp only [hw1]
 clear hw1
 have hI:=HH.out.below hb1
 have c0:=hI.c0.1
 have c0a:∀o,(w1.alloc o).cell? ⟨hp,0,none⟩=some (.slice va L.length vc):=fun o=>Below.at' ((Below.refl _ w1).alloc (Nat.le_refl _) o) (Nat.le_refl _) c0
 have b0:w1.cell? ⟨w.heap.size,0,none⟩=some (.int .i64 x.r):=by simp [World.cell?,hx1]
 have b1:w1.cell? ⟨w.heap.size,1,none⟩=some (.int .i64 x.a):=by simp [World.cell?,hx1]
 have b2:w1.cell? ⟨w.heap.size,2,none⟩=some (.int .i64 x.b):=by simp [World.cell?,hx1]
 have b3:w1.cell? ⟨w.heap.size,3,none⟩=some (.int .i64 x.i):=by simp [World.cell?,hx1]
 have b4:w1.cell? ⟨w.heap.size,4,none⟩=some (.int .i64 x.j):=by simp [World.cell?,hx1]
 have b5:w1.cell? ⟨w.heap.size,5,none⟩=some (.slice x.ad x.ln x.cp):=by simp [World.cell?,hx1]
 have b6:w1.cell? ⟨w.heap.size,6,none⟩=some (.int .i64 x.wt):=by simp [World.cell?,hx1]
 have b7:w1.cell? ⟨w.heap.size,7,none⟩=some (.int .i64 x.nm):=by simp [World.cell?,hx1]
 have hs1:=hb1.size
 have hId:=hI.below (aJ ⟨1,rfl⟩)
 have hrow:w1.drew.ownsRow B 82 8 (.slice va L.length vc) L.length (fJ L):=hId.row
 have HI:=aA hId
 have HB1:=aA hb1
 have hmix:Tryz.prog.follows .mixedOrders=true:=by kernel_rfl
 clear hI hx1 hId hb1
 go_region_law (refine mI ?g1 (.tmp 8) (.tmp 10) 110 82 ?g2 (.agg #[.int .i64 0,.int .i64 0,.int .i64 0,.int .i64 0,.int .i64 0,.slice none 0 0,.int .i64 0,.int .i64 0]) 8 80 Tryz.underlying110 aVa ?g3 ?g4 ?g5 B _ L.length (fJ L) ?g6 (hrow.alloc _) ?g7 ?g8 w1.heap.size 1 x.cells ?g9 ?g10 (aFi w1.drew #[.int .i64 x.r,.int .i64 x.a,.int .i64 x.b,.int .i64 x.i,.int .i64 x.j,.slice x.ad x.ln x.cp,.int .i64 x.wt,.int .i64 x.nm] 82) (aUb x) ?_;(case g1=>rfl);(case g2=>rfl);(case g3=>rfl);(case g4=>decide);(case g5=>decide);(case g6=>rfl);(case g7=>omega);(case g8=>simp;omega);(case g9=>rfl);(case g10=>rfl);intro v3 w3 ho3 hg3;obtain ⟨d0,f0,hI3,hm3⟩:=bT.more (HI.out.below ((Below.refl _ w1.drew).alloc (Nat.le_refl _) _)) ho3 hg3;have HI3:=aA hI3;have HM3:=aA hm3;obtain ⟨va3,vc3,rfl⟩:=aR ho3;clear ho3 hg3 hI3 hm3)
 all_goals
  have c4:=HI3.out.c0.1
  have HM4:=aA ((Mv.of_below (S:=[82,112]) (B:=B) (HB1.out.trans (((aJ ⟨1,rfl⟩).alloc (Nat.le_refl _) _).mono hs1))).trans HM3.out)
  clear d0 f0 HM3 HI HB1 b0 b1 b2 b3 b4 b5 b6 b7 c0 c0a hrow
  generalize w3.setCell ⟨hp,0,none⟩ (.slice va3 (L.length+1) vc3)=w4 at *
  have CR:=aA (aU8 B hp _ (L++[x]) L.length w4 HI3.out (by simp) (by simp;omega))
  have hll:((L.length:Int)+1) - 1=(L.length:Int):=by omega
  go_wp2_with (first
   | (go_at_call 87;refine (aB CR).mono ?_;rintro e w5 ⟨⟨u,rfl⟩,h5,hm5⟩)
   | go_in)
  go_end0
  exact ⟨⟨_,rfl⟩,_,h5,HM4.out.trans ((HI3.out.mv hm5).mono (by simp) (Nat.le_refl _))⟩
def fQ:Cd:=⟨0,0,0,0,0,none,0,0,0,0,[]⟩
def iO (L:List Cd):List Cd:=match L.getLast? with
 | none=>[]
 | some y=>jW (L.length - 1) ((L.set 0 y).take (L.length - 1)) 0
theorem aUd (w:World):∃w2,(w.alloc (.cells #[.int .i64 0,.int .i64 0,.int .i64 0,.int .i64 0,.int .i64 0,.slice none 0 0,.int .i64 0,.int .i64 0] 82)).alloc (.cells #[.int .i64 0,.int .i64 0,.int .i64 0,.int .i64 0,.int .i64 0,.slice none 0 0,.int .i64 0,.int .i64 0] 82)=w2∧Below w.heap.size w w2∧w2.heap.size=w.heap.size+2∧
  w2.heap[w.heap.size]?=some (.cells #[.int .i64 0,.int .i64 0,.int .i64 0,.int .i64 0,.int .i64 0,.slice none 0 0,.int .i64 0,.int .i64 0] 82 (0,0))∧w2.heap[w.heap.size+1]?=some (.cells #[.int .i64 0,.int .i64 0,.int .i64 0,.int .i64 0,.int .i64 0,.slice none 0 0,.int .i64 0,.int .i64 0] 82 (0,0)):=by
 refine ⟨_,rfl,((Below.refl _ w).alloc (Nat.le_refl _) _).alloc (by simp) _,by simp,(Below.heap_alloc _ _ _ (by simp)).trans (World.alloc_heap_new w _),?_⟩
 have:=World.alloc_heap_new (w.alloc (.cells #[.int .i64 0,.int .i64 0,.int .i64 0,.int .i64 0,.int .i64 0,.slice none 0 0,.int .i64 0,.int .i64 0] 82)) (.cells #[.int .i64 0,.int .i64 0,.int .i64 0,.int .i64 0,.int .i64 0,.slice none 0 0,.int .i64 0,.int .i64 0] 82)
 rwa [World.size_alloc] at this
set_option maxHeartbeats 4000000 in
theorem aUe (B hp:Nat) (v:Value) (w:World) (h:bT B w hp v []) :
  Calls Tryz.prog 56 #[.pointer (some ⟨hp,0,none⟩)] w fun e w'=>e=.returned (.tuple #[fQ.agg,.bool false])∧Below w.heap.size w w':=by
 obtain ⟨va,vc,rfl⟩:=aR h.row
 simp only [List.length_nil] at h
 have c0:=h.c0.1
 have c0a:∀o o',((w.alloc o).alloc o').cell? ⟨hp,0,none⟩=some (.slice va 0 vc):=fun o o'=>Below.at' (((Below.refl _ w).alloc (Nat.le_refl _) o).alloc (by simp) o') (Nat.le_refl _) c0
 clear h c0
 go_enter Tryz.func56,Tryz.ntmps56
 go_wp2
 refine bodyPost_ret (v:=.tuple #[fQ.agg,.bool false]) (by simp [results,Tryz.results56,go_sem,fQ,Cd.agg];try rfl) rfl ?_
 exact ⟨rfl,((Below.refl _ w).alloc (Nat.le_refl _) _).alloc (by simp) _⟩
def gG (w:World) (b:Nat) (x:Cd):Prop:=w.heap[b]?=some (.cells #[.int .i64 x.r,.int .i64 x.a,.int .i64 x.b,.int .i64 x.i,.int .i64 x.j,.slice x.ad x.ln x.cp,.int .i64 x.wt,.int .i64 x.nm] 82 (0,0))
theorem gG.cells {w:World} {b:Nat} {x:Cd} (h:gG w b x):w.cell? ⟨b,0,none⟩=some (.int .i64 x.r)∧w.cell? ⟨b,1,none⟩=some (.int .i64 x.a)∧w.cell? ⟨b,2,none⟩=some (.int .i64 x.b)∧w.cell? ⟨b,3,none⟩=some (.int .i64 x.i)∧w.cell? ⟨b,4,none⟩=some (.int .i64 x.j)∧w.cell? ⟨b,5,none⟩=some (.slice x.ad x.ln x.cp)∧w.cell? ⟨b,6,none⟩=some (.int .i64 x.wt)∧w.cell? ⟨b,7,none⟩=some (.int .i64 x.nm):=by
 refine ⟨?_,?_,?_,?_,?_,?_,?_,?_⟩ <;> simp [World.cell?,show w.heap[b]?=_ from h]
theorem gG.frz {w:World} {b:Nat} {x:Cd} (h:gG w b x) (k:Nat):w.frozen? ⟨b,k,none⟩=false:=by simp [World.frozen?,show w.heap[b]?=_ from h]
theorem gG.grown {w w':World} {b:Nat} {x:Cd} {r:Option Nat} (h:gG w b x) (hg:w.grownBy w' r) (hne:some b≠r):gG w' b x:=(hg.block b (Array.getElem?_eq_some_iff.1 h).1 hne).trans h
theorem gG.below {w w':World} {b:Nat} {x:Cd} (h:gG w b x) (hb:Below w.heap.size w w'):gG w' b x:=(hb.block b (Array.getElem?_eq_some_iff.1 h).1).trans h
theorem gG.put {w:World} {b:Nat} {x y:Cd} (h:gG w b x):gG (fE w b 0 y) b y:=by
 have hs:∀(u:World) (cs:Array Value) (k:Nat) (v:Value),u.heap[b]?=some (.cells cs 82 (0,0))→(u.setCell ⟨b,k,none⟩ v).heap[b]?=some (.cells (cs.setIfInBounds k v) 82 (0,0)):=fun u cs k v hu=>by
  have hlt:=(Array.getElem?_eq_some_iff.1 hu).1
  show (u.heap.modify b _)[b]?=_
  rw [Array.getElem?_eq_getElem (by rw [Array.size_modify];exact hlt),Array.getElem_modify_self,(Array.getElem?_eq_some_iff.1 hu).2]
  rfl
 unfold gG fE
 simp only [Nat.zero_add]
 rw [hs _ _ 7 _ (hs _ _ 6 _ (hs _ _ 5 _ (hs _ _ 4 _ (hs _ _ 3 _ (hs _ _ 2 _ (hs _ _ 1 _ (hs _ _ 0 _ h)))))))]
 simp
theorem aHn:∀(L:List Cd) (m:Nat),(fJ L).take (m * 8)=fJ (L.take m)
 | [],m=>by simp [fJ]
 | x :: L,0=>by simp [fJ]
 | x :: L,m+1=>by
  rw [sS,List.take_succ_cons,sS,←aHn L m,show (m+1) * 8=x.cells.length+m * 8 by rw [xS];omega,List.take_length_add_append]
theorem bT.other {B:Nat} {w w':World} {hp r:Nat} {v:Value} {L:List Cd} (h:bT B w hp v L) (hg:w.grownBy w' (some r)) (h1:hp≠r) (h2:v.ownBlock≠some r):bT B w' hp v L:=
 ⟨(hg.block hp (Array.getElem?_eq_some_iff.1 h.box).1 (by simp;omega)).trans h.box,cX h.row hg (Or.inr h2),h.base⟩
theorem bT.shrink {B:Nat} {w:World} {hp g n cap:Nat} {L:List Cd} (h:bT B w hp (.slice (some ⟨g,0,none⟩) n cap) L) {m:Nat} (hm:m≤L.length):bT B (w.setCell ⟨hp,0,none⟩ (.slice (some ⟨g,0,none⟩) m cap)) hp (.slice (some ⟨g,0,none⟩) m cap) (L.take m)∧w.grownBy (w.setCell ⟨hp,0,none⟩ (.slice (some ⟨g,0,none⟩) m cap)) (some hp):=by
 have hlt:=(Array.getElem?_eq_some_iff.1 h.box).1
 have hne:=dD h.row h.box (by decide)
 refine ⟨⟨?_,?_,h.base⟩,cB w ⟨hp,0,none⟩ _⟩
 ·show (w.heap.modify hp _)[hp]?=_
  rw [Array.getElem?_eq_getElem (by rw [Array.size_modify];exact hlt),Array.getElem_modify_self,(Array.getElem?_eq_some_iff.1 h.box).2]
  rfl
 ·refine cX ?_ (cB w ⟨hp,0,none⟩ _) (Or.inr (by simpa [Value.ownBlock] using hne))
  obtain ⟨h1,⟨e,_⟩ | ⟨g',cap',cur,e,hb,hh,hc,hml,hz,ht⟩⟩:=h.row
  ·cases e
  ·simp at e
   obtain ⟨rfl,_,rfl⟩:=e
   have hl:(L.take m).length=m:=by simp;omega
   rw [hl]
   refine ⟨by rw [aI6,hl],Or.inr ⟨g,cap,cur,rfl,hb,hh,by omega,hml,hz,?_⟩⟩
   rw [←aHn,←ht,List.take_take,Nat.min_eq_left (Nat.mul_le_mul_right 8 hm)]
theorem bT.get {B:Nat} {w:World} {hp g n cap:Nat} {L:List Cd} (h:bT B w hp (.slice (some ⟨g,0,none⟩) n cap) L) {k:Nat} {x:Cd} (hk:L[k]?=some x):aHi w g k x:=by
 obtain ⟨hlt,e⟩:=List.getElem?_eq_some_iff.1 hk
 obtain ⟨g',c',e',ha⟩:=h.at hlt
 simp at e'
 obtain ⟨rfl,_⟩:=e'
 rw [e] at ha
 exact ha
set_option maxHeartbeats 8000000 in
theorem aUf (B hp:Nat) (v:Value) (L:List Cd) (w:World) (h:bT B w hp v L) (h0:0 < L.length) (hL:L.length≤1000000) (hB:B≤w.heap.size) :
  Calls Tryz.prog 56 #[.pointer (some ⟨hp,0,none⟩)] w fun e w'=>e=.returned (.tuple #[L[0].agg,.bool true])∧∃v',bT B w' hp v' (iO L)∧Mv [82,112] B w w':=by
 obtain ⟨m,hm⟩ : ∃m,L.length=m+1:=⟨L.length - 1,by omega⟩
 obtain ⟨g,cap,rfl,hat⟩:=h.at h0
 clear hat
 obtain ⟨y,hy⟩ : ∃y,L[m]=y:=⟨_,rfl⟩
 obtain ⟨x,hx⟩ : ∃x,L[0]=x:=⟨_,rfl⟩
 have hpop:iO L=jW m ((L.set 0 y).take m) 0:=by
  unfold iO
  have:L.getLast?=some y:=by rw [List.getLast?_eq_getElem?,hm,Nat.add_sub_cancel,List.getElem?_eq_getElem (by omega),hy]
  rw [this,hm]
  rfl
 rw [hx,hpop]
 clear hpop
 have hy':L[m]?=some y:=by rw [List.getElem?_eq_getElem (by omega),hy]
 have hx':L[0]?=some x:=by rw [List.getElem?_eq_getElem h0,hx]
 have HX:=aA hx'
 have HY:=aA hy'
 have HM:=aA hm
 have hml:(L.length:Int) - 1=(m:Int):=by omega
 have hlz:¬((L.length:Int)=0):=by omega
 have hlp:(0:Int) < (L.length:Int):=by omega
 have hmm:(m:Int) < (L.length:Int):=by omega
 have hmle:(m:Int)≤(L.length:Int):=by omega
 have hmz:(0:Int)≤(m:Int):=by omega
 have hwr:wrap64 ((L.length:Int) - 1)=(m:Int):=by unfold wrap64;omega
 have HH:=aA h
 clear h hx hy hm hx' hy' h0
 generalize hle:L.length=ml at *
 have HLE:=aA hle
 clear hle
 go_enter Tryz.func56,Tryz.ntmps56
 obtain ⟨w2,hw2,hb2,hs2,hr2,hn2⟩:=aUd w
 have hI2:=HH.out.below hb2
 have c0:=hI2.c0.1
 have c0a:∀o,(w2.alloc o).cell? ⟨hp,0,none⟩=some (.slice (some ⟨g,0,none⟩) ml cap):=fun o=>Below.at' ((Below.refl _ w2).alloc (Nat.le_refl _) o) (Nat.le_refl _) c0
 obtain ⟨x0,x1,x2,x3,x4,x5,x6,x7⟩:=hI2.get HX.out
 simp only [Nat.zero_mul,Nat.zero_add] at x0 x1 x2 x3 x4 x5 x6 x7
 have a0:=fun o=>Below.at' ((Below.refl _ w2).alloc (Nat.le_refl _) o) (Nat.le_refl _) x0
 have a1:=fun o=>Below.at' ((Below.refl _ w2).alloc (Nat.le_refl _) o) (Nat.le_refl _) x1
 have a2:=fun o=>Below.at' ((Below.refl _ w2).alloc (Nat.le_refl _) o) (Nat.le_refl _) x2
 have a3:=fun o=>Below.at' ((Below.refl _ w2).alloc (Nat.le_refl _) o) (Nat.le_refl _) x3
 have a4:=fun o=>Below.at' ((Below.refl _ w2).alloc (Nat.le_refl _) o) (Nat.le_refl _) x4
 have a5:=fun o=>Below.at' ((Below.refl _ w2).alloc (Nat.le_refl _) o) (Nat.le_refl _) x5
 have a6:=fun o=>Below.at' ((Below.refl _ w2).alloc (Nat.le_refl _) o) (Nat.le_refl _) x6
 have a7:=fun o=>Below.at' ((Below.refl _ w2).alloc (Nat.le_refl _) o) (Nat.le_refl _) x7
 have HI2:=aA hI2
 clear hI2
 have hmix:Tryz.prog.follows .mixedOrders=true:=by kernel_rfl
 go_wp2
 clear hw2
 go_region
 have hgw:g < w.heap.size:=(bY HH.out.row g rfl).2
 have hhw:hp < w.heap.size:=(Array.getElem?_eq_some_iff.1 HH.out.box).1
 have hmc:(m:Int)≤(cap:Int):=by
  obtain ⟨_,⟨e,_⟩ | ⟨g',cap',cur,e,_,_,hc,_⟩⟩:=HH.out.row
  ·cases e
  ·simp at e
   have:=HLE.out
   omega
 have hst:∃w3,(w2.alloc (.cells #[.int .i64 x.r,.int .i64 x.a,.int .i64 x.b,.int .i64 x.i,.int .i64 x.j,.slice x.ad x.ln x.cp,.int .i64 x.wt,.int .i64 x.nm] 82)).drew=w3∧Below w2.heap.size w2 w3∧gG w3 (w.heap.size+2) x:=by
  refine ⟨_,rfl,((Below.refl _ w2).alloc (Nat.le_refl _) _).trans ((aJ ⟨1,rfl⟩).mono (by simp)),?_⟩
  rw [←hs2]
  exact World.alloc_heap_new w2 _
 obtain ⟨w3,hw3,hb3,hf3⟩:=hst
 simp only [hw3]
 clear hw3
 have hr3:gG w3 w.heap.size fQ:=gG.below (w:=w2) hr2 hb3
 have hn3:gG w3 (w.heap.size+1) fQ:=gG.below (w:=w2) hn2 hb3
 have hI3:=HI2.out.below hb3
 have HM3:=aA (Mv.of_below (S:=[82,112]) (B:=B) (hb2.trans (hb3.mono hb2.size)))
 clear hr2 hn2 hb3 hb2 HI2 c0 c0a x0 x1 x2 x3 x4 x5 x6 x7 a0 a1 a2 a3 a4 a5 a6 a7
 have c3:=hI3.c0.1
 obtain ⟨x0,x1,x2,x3,x4,x5,x6,x7⟩:=hI3.get HX.out
 simp only [Nat.zero_mul,Nat.zero_add] at x0 x1 x2 x3 x4 x5 x6 x7
 obtain ⟨y0,y1,y2,y3,y4,y5,y6,y7⟩:=hI3.get HY.out
 have hfz:=hI3.frozen
 have HI3:=aA hI3
 clear hI3
 go_wp2
 go_region
 have hp4:=HI3.out.put (k:=0) (x:=y) HLE.out.symm (by have:=HM.out;have:=HLE.out;omega)
 have hw4:((((((((w3.setCell ⟨g,0,none⟩ (.int .i64 y.r)).setCell ⟨g,1,none⟩ (.int .i64 y.a)).setCell ⟨g,2,none⟩ (.int .i64 y.b)).setCell ⟨g,3,none⟩ (.int .i64 y.i)).setCell ⟨g,4,none⟩ (.int .i64 y.j)).setCell ⟨g,5,none⟩ (.slice y.ad y.ln y.cp)).setCell ⟨g,6,none⟩ (.int .i64 y.wt)).setCell ⟨g,7,none⟩ (.int .i64 y.nm))=fE w3 g (0 * 8) y:=rfl
 simp only [hw4]
 clear hw4 x0 x1 x2 x3 x4 x5 x6 x7 y0 y1 y2 y3 y4 y5 y6 y7 c3 hfz
 have hd4:Below (fE w3 g (0 * 8) y).heap.size (fE w3 g (0 * 8) y) (fE w3 g (0 * 8) y).drew:=aJ ⟨1,rfl⟩
 have hI4:=hp4.1.below hd4
 have hg4:=jK hp4.2 (fF hd4)
 have hr4:=hr3.grown hg4 (by simp;omega)
 have hn4:=hn3.grown hg4 (by simp;omega)
 have hf4:=hf3.grown hg4 (by simp;omega)
 have HM4:=aA (HM3.out.trans ((HI3.out.mv (w':=(fE w3 g (0 * 8) y).drew) hg4).mono (by simp) (Nat.le_refl _)))
 clear hp4 hd4 hg4 hr3 hn3 hf3 HM3 HI3
 generalize (fE w3 g (0 * 8) y).drew=w4 at *
 have hyy:(L.set 0 y)[m]?=some y:=by
  have h1:=HY.out
  have h2:=(List.getElem?_eq_some_iff.1 h1).1
  by_cases hm0:m=0
  ·subst hm0
   simp [h2]
  ·rw [List.getElem?_set_ne (by omega)]
   exact h1
 have c4:=hI4.c0.1
 obtain ⟨y0,y1,y2,y3,y4,y5,y6,y7⟩:=hI4.get hyy
 obtain ⟨z0,z1,z2,z3,z4,z5,z6,z7⟩:=hn4.cells
 simp only [fQ] at z0 z1 z2 z3 z4 z5 z6 z7
 have hfz:=hI4.frozen
 have HI4:=aA hI4
 clear hI4
 go_wp2
 go_region
 have hlen:(L.set 0 y).length=ml:=by rw [List.length_set];exact HLE.out
 have hp5:=HI4.out.put (k:=m) (x:=fQ) hlen.symm (by rw [hlen];have:=HM.out;omega)
 have hw5:((((((((w4.setCell ⟨g,m * 8,none⟩ (.int .i64 0)).setCell ⟨g,m * 8+1,none⟩ (.int .i64 0)).setCell ⟨g,m * 8+2,none⟩ (.int .i64 0)).setCell ⟨g,m * 8+3,none⟩ (.int .i64 0)).setCell ⟨g,m * 8+4,none⟩ (.int .i64 0)).setCell ⟨g,m * 8+5,none⟩ (.slice none 0 0)).setCell ⟨g,m * 8+6,none⟩ (.int .i64 0)).setCell ⟨g,m * 8+7,none⟩ (.int .i64 0))=fE w4 g (m * 8) fQ:=rfl
 simp only [hw5]
 clear hw5 z0 z1 z2 z3 z4 z5 z6 z7 y0 y1 y2 y3 y4 y5 y6 y7 c4 hfz
 have hd5:Below (fE w4 g (m * 8) fQ).heap.size (fE w4 g (m * 8) fQ) (fE w4 g (m * 8) fQ).drew:=aJ ⟨1,rfl⟩
 have hI5:=hp5.1.below hd5
 have hg5:=jK hp5.2 (fF hd5)
 have hr5:=hr4.grown hg5 (by simp;omega)
 have hf5:=hf4.grown hg5 (by simp;omega)
 have HM5:=aA (HM4.out.trans ((HI4.out.mv (w':=(fE w4 g (m * 8) fQ).drew) hg5).mono (by simp) (Nat.le_refl _)))
 clear hp5 hd5 hg5 hr4 hn4 hf4 HM4 HI4
 generalize (fE w4 g (m * 8) fQ).drew=w5 at *
 have c5:=hI5.c0.1
 have f5:=hI5.frz
 have hp6:=hI5.shrink (m:=m) (by rw [List.length_set,hlen];have:=HM.out;omega)
 have hlt:((L.set 0 y).set m fQ).take m=(L.set 0 y).take m:=by
  rw [List.take_set_of_le (Nat.le_refl _)]
 rw [hlt] at hp6
 have hr6:=hr5.grown hp6.2 (by simp;omega)
 have hf6:=hf5.grown hp6.2 (by simp;omega)
 have HM6:=aA (HM5.out.trans (Mv.of_grown (S:=[82,112]) (B:=B) hp6.2 (fun k hk=>by cases hk;exact ⟨hI5.base,_,_,hI5.box,by simp⟩)))
 have hl6:((L.set 0 y).take m).length=m:=by rw [List.length_take,hlen];have:=HM.out;omega
 have CS:=aA (aUa B hp _ ((L.set 0 y).take m) _ hp6.1 (by omega))
 rw [hl6] at CS
 have HR6:=aA hr6
 have HF6:=aA hf6
 have HI6:=aA hp6.1
 clear hr5 hf5 HM5 hI5 hp6 hr6 hf6 hlt hyy hlen
 go_wp2_with (first
  | (go_at_call 88;refine (aB CS).mono ?_;rintro e w7 ⟨⟨u,rfl⟩,h7,hg7⟩;have hr7:=HR6.out.grown hg7 (by simp [Value.ownBlock];omega);have hf7:=HF6.out.grown hg7 (by simp [Value.ownBlock];omega);obtain ⟨p0,p1,p2,p3,p4,p5,p6,p7⟩:=hf7.cells;obtain ⟨q0,q1,q2,q3,q4,q5,q6,q7⟩:=hr7.cells;have fz7:=hr7.frz;have HR7:=aA hr7;have HI7:=aA h7;have HM7:=aA (HM6.out.trans ((HI6.out.mv hg7).mono (by simp) (Nat.le_refl _)));clear hr7 hf7 h7 hg7)
  | go_in)
 have hw8:((((((((w7.setCell ⟨w.heap.size,0,none⟩ (.int .i64 x.r)).setCell ⟨w.heap.size,1,none⟩ (.int .i64 x.a)).setCell ⟨w.heap.size,2,none⟩ (.int .i64 x.b)).setCell ⟨w.heap.size,3,none⟩ (.int .i64 x.i)).setCell ⟨w.heap.size,4,none⟩ (.int .i64 x.j)).setCell ⟨w.heap.size,5,none⟩ (.slice x.ad x.ln x.cp)).setCell ⟨w.heap.size,6,none⟩ (.int .i64 x.wt)).setCell ⟨w.heap.size,7,none⟩ (.int .i64 x.nm))=fE w7 w.heap.size 0 x:=rfl
 simp only [hw8]
 clear hw8
 have hb8:=HR7.out.put (y:=x)
 have hg8:=aI8 w7 w.heap.size 0 x
 obtain ⟨t0,t1,t2,t3,t4,t5,t6,t7⟩:=hb8.cells
 refine bodyPost_ret (v:=.tuple #[x.agg,.bool true]) (by simp [results,Tryz.results56,go_sem,t0,t1,t2,t3,t4,t5,t6,t7,Cd.agg];try rfl) rfl ?_
 exact ⟨rfl,_,HI7.out.other hg8 (by omega) (by simp [Value.ownBlock];omega),HM7.out.trans (Mv.of_grown hg8 (fun k hk=>by cases hk;exact ⟨hB,_,_,HR7.out,by simp⟩))⟩
end Go.Proofs.YtbddofieljiihaaGreatDoor
