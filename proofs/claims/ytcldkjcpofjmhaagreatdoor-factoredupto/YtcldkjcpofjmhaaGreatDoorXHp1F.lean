import Derived.Test.YtcldkjcpofjmhaaGreatDoorGPreF
open Array renaming getElem?_eq_some_iff→zy,getElem?_eq_getElem→zt,getElem_modify_self→zs,size_modify→zo
open List renaming getElem?_eq_getElem→zr,getElem?_eq_some_iff→zp,getElem_mem→zk
open Nat renaming le_refl→zz,zero_add→zm
open Prod renaming fst→zv
namespace Go.Proofs.YtcldkjcpofjmhaaGreatDoor
open _root_.Go.Proofs.Tryz renaming prog→zu
open Value renaming ownBlock→zq
open World renaming cell?→zx,alloc_heap_new→zw,frozen?→zn,size_alloc→zl
set_option maxHeartbeats 8000000
set_option maxRecDepth 100000
variable{x:Cd}{L:List Cd}{B b cap g hp q:Nat}{v:Value}{w w':World}
section
open Go.RowKit
def fH:Nat->List Cd->Nat->List Cd
 | 0,L,_=>L
 | f+1,L,k=>if h:0<k/\k<L.length then (if jD (L[k]'h.2) (L[(k-1) / 2]'(by omega)) then fH f (nD L k ((k-1) / 2) h.2 (by omega)) ((k-1) / 2) else L) else L
theorem aL2:∀(f:Nat) (L:List Cd) (k:Nat),(fH f L k).length=L.length
 | 0,_,_=>rfl
 | f+1,L,k=>by
  unfold fH;split
  ·split
   ·rw [aL2 f];exact wM _ _
   ·rfl
  ·rfl
def aL3(w:World)(g k:Nat)(x:Cd):Prop:=w.cell? ⟨g,k*8,none⟩=some (.int .i64 x.r)/\w.cell? ⟨g,k*8+1,none⟩=some (.int .i64 x.a)/\w.cell? ⟨g,k*8+2,none⟩=some (.int .i64 x.b)/\w.cell? ⟨g,k*8+3,none⟩=some (.int .i64 x.i)/\
 w.cell? ⟨g,k*8+4,none⟩=some (.int .i64 x.j)/\w.cell? ⟨g,k*8+5,none⟩=some (.slice x.ad x.ln x.cp)/\w.cell? ⟨g,k*8+6,none⟩=some (.int .i64 x.wt)/\w.cell? ⟨g,k*8+7,none⟩=some (.int .i64 x.nm)
theorem bY.at(h:bY B w hp v L){k:Nat}(hk:k<L.length):∃g cap,v=.slice (some ⟨g,0,none⟩) L.length cap/\aL3 w g k L[k]:=h.cells hk
theorem aYh{f:Nat}{k:Nat}(h0:0<k)(hk:k<L.length):∃(up:Nat) (hu:up<L.length),((k:Int)-1).tdiv 2=(up:Int)/\up<k/\fH (f+1) L k=if jD L[k] L[up] then fH f (nD L k up hk hu) up else L:=by
 refine ⟨(k-1) / 2,by omega,?_,by omega,?_⟩
 ·rw [show ((k:Int)-1)=((k-1:Nat):Int) by omega];rfl
 ·conv=>lhs;unfold fH
  rw [dif_pos ⟨h0,hk⟩]
def aAm(hp g n cap q up:Nat)(x y:Cd)(w':World):Prop:=w'.cell? ⟨hp,0,none⟩=some (.slice (some ⟨g,0,none⟩) n cap)/\w'.cell? ⟨hp,1,none⟩=some (.func (.func 62) #[] #[])/\w'.cell? ⟨g,q*8,none⟩=some (.int .i64 x.r)/\w'.cell? ⟨g,q*8+1,none⟩=some (.int .i64 x.a)/\w'.cell? ⟨g,q*8+2,none⟩=some (.int .i64 x.b)/\w'.cell? ⟨g,q*8+3,none⟩=some (.int .i64 x.i)/\w'.cell? ⟨g,q*8+4,none⟩=some (.int .i64 x.j)/\w'.cell? ⟨g,q*8+5,none⟩=some (.slice x.ad x.ln x.cp)/\w'.cell? ⟨g,q*8+6,none⟩=some (.int .i64 x.wt)/\w'.cell? ⟨g,q*8+7,none⟩=some (.int .i64 x.nm)/\w'.cell? ⟨g,up*8,none⟩=some (.int .i64 y.r)/\w'.cell? ⟨g,up*8+1,none⟩=some (.int .i64 y.a)/\w'.cell? ⟨g,up*8+2,none⟩=some (.int .i64 y.b)/\w'.cell? ⟨g,up*8+3,none⟩=some (.int .i64 y.i)/\w'.cell? ⟨g,up*8+4,none⟩=some (.int .i64 y.j)/\w'.cell? ⟨g,up*8+5,none⟩=some (.slice y.ad y.ln y.cp)/\w'.cell? ⟨g,up*8+6,none⟩=some (.int .i64 y.wt)/\w'.cell? ⟨g,up*8+7,none⟩=some (.int .i64 y.nm)
theorem aAm.below{n up:Nat}{y:Cd}(h:aAm hp g n cap q up x y w)(hb:Below w.heap.size w w'):aAm hp g n cap q up x y w':=by obtain ⟨h0,h1,h2,h3,h4,h5,h6,h7,h8,h9,h10,h11,h12,h13,h14,h15,h16,h17⟩:=h;exact ⟨Below.at' hb (zz _) h0,Below.at' hb (zz _) h1,Below.at' hb (zz _) h2,Below.at' hb (zz _) h3,Below.at' hb (zz _) h4,Below.at' hb (zz _) h5,Below.at' hb (zz _) h6,Below.at' hb (zz _) h7,Below.at' hb (zz _) h8,Below.at' hb (zz _) h9,Below.at' hb (zz _) h10,Below.at' hb (zz _) h11,Below.at' hb (zz _) h12,Below.at' hb (zz _) h13,Below.at' hb (zz _) h14,Below.at' hb (zz _) h15,Below.at' hb (zz _) h16,Below.at' hb (zz _) h17⟩
theorem bY.two{up:Nat}(h:bY B w hp (.slice (some ⟨g,0,none⟩) L.length cap) L)(hq:q<L.length)(hu:up<L.length):aAm hp g L.length cap q up L[q] L[up] w:=by obtain ⟨g1,c1,e1,x0,x1,x2,x3,x4,x5,x6,x7⟩:=h.cells hq;obtain ⟨g2,c2,e2,y0,y1,y2,y3,y4,y5,y6,y7⟩:=h.cells hu;cases e1;cases e2;exact ⟨h.c0.1,h.c0.2,x0,x1,x2,x3,x4,x5,x6,x7,y0,y1,y2,y3,y4,y5,y6,y7⟩
theorem aYi(B hp:Nat)(v:Value)(L:List Cd)(k:Nat)(w:World)(h:bY B w hp v L)(hk:k<L.length)(hL:L.length<=1000000000) :
  Calls zu 118 #[.pointer (some ⟨hp,0,none⟩),.int .i64 k] w λe w'=>(∃u,e=.returned u)/\bY B w' hp v (fH k L k)/\w.grownBy w' v.ownBlock:=by
 have HH:=aA h;clear h;go_enter Tryz.func118,Tryz.ntmps118;go_wp2;go_loopw [1] (λp wr=>∃(q f:Nat) (M:List Cd),p=.int .i64 q/\q<M.length/\q<=f/\M.length=L.length/\bY B wr hp v M/\w.grownBy wr v.ownBlock/\fH f M q=fH k L k) (λp _=>(intOf p).toNat);case atStart=>exact ⟨k,k,L,rfl,hk,zz _,rfl,HH.out,⟨rfl,rfl,rfl,zz _,λ_ _ _=>rfl⟩,rfl⟩
 case round=>
  obtain ⟨q,f,M,rfl,hq,hf,hM,hI,hm,he⟩:=hrel;by_cases h0:0<q
  ·obtain ⟨f,rfl⟩ : ∃f',f=f'+1:=⟨f-1,by omega⟩;obtain ⟨up,hu,hdiv,huq,hst⟩:=aYh (f:=f) h0 hq;rw [hst] at he;obtain ⟨g,cap,rfl,_⟩:=hI.at hq;have hS:=hI.two hq hu;have CSW:=aA (λ(wx:World) (hx:bY B wx hp (.slice (some ⟨g,0,none⟩) M.length cap) M)=>aG7 B hp _ M q up wx hx hq hu (by omega));generalize hM':nD M q up hq hu=M' at *;have hMl:M'.length=M.length:=by rw [<-hM'];exact wM _ _
   have CL:=aA (λ(wx:World) (hwx:∃d,wx=wr.drewN d)=>(aG6 M[q] M[up] wx).mono (R':=λe w2=>e=.returned (.bool (jD M[q] M[up]))/\Below wr.heap.size wr w2) (λe w2 he=>by
    obtain ⟨d,rfl⟩:=hwx;exact ⟨he.1,(aI ⟨d,rfl⟩).trans he.2⟩))
   generalize M[q]=x at *;generalize M[up]=y at *;unfold Cd.agg at CL;have HS:=aA hS;obtain ⟨x0,x1,x2,x3,x4,x5,x6,x7,x8,x9,x10,x11,x12,x13,x14,x15,x16,x17⟩:=hS;have HI:=aA hI;have HM:=aA hm;have HE:=aA he;have HMM:=aA (show M.length=L.length from hM);have hqi:(0:Int)<(q:Int):=by omega
   have hqz:(0:Int)<=(q:Int):=by omega
   have huz:(0:Int)<=(up:Int):=by omega
   have hq2:(q:Int)<(M.length:Int):=by omega
   have hu2:(up:Int)<(M.length:Int):=by omega
   have hw1:wrap64 ((q:Int)-1)=(q:Int)-1:=by unfold wrap64;omega
   have hw3:wrap64 (up:Int)=(up:Int):=by unfold wrap64;omega
   have hw2:wrap64 (((q:Int)-1).tdiv 2)=(up:Int):=by rw [hdiv];unfold wrap64;omega
   clear he hst hI hm hM' hM;generalize hml:M.length=ml at *;have HML:=aA hml;clear hml;go_wp2;go_region_held3 (λw'=>w'.cell? ⟨hp,0,none⟩=some (.slice (some ⟨g,0,none⟩) ml cap)/\w'.cell? ⟨hp,1,none⟩=some (.func (.func 62) #[] #[])/\w'.cell? ⟨g,q*8,none⟩=some (.int .i64 x.r)/\w'.cell? ⟨g,q*8+1,none⟩=some (.int .i64 x.a)/\w'.cell? ⟨g,q*8+2,none⟩=some (.int .i64 x.b)/\w'.cell? ⟨g,q*8+3,none⟩=some (.int .i64 x.i)/\w'.cell? ⟨g,q*8+4,none⟩=some (.int .i64 x.j)/\w'.cell? ⟨g,q*8+5,none⟩=some (.slice x.ad x.ln x.cp)/\w'.cell? ⟨g,q*8+6,none⟩=some (.int .i64 x.wt)/\w'.cell? ⟨g,q*8+7,none⟩=some (.int .i64 x.nm)/\w'.cell? ⟨g,up*8,none⟩=some (.int .i64 y.r)/\w'.cell? ⟨g,up*8+1,none⟩=some (.int .i64 y.a)/\w'.cell? ⟨g,up*8+2,none⟩=some (.int .i64 y.b)/\w'.cell? ⟨g,up*8+3,none⟩=some (.int .i64 y.i)/\w'.cell? ⟨g,up*8+4,none⟩=some (.int .i64 y.j)/\w'.cell? ⟨g,up*8+5,none⟩=some (.slice y.ad y.ln y.cp)/\w'.cell? ⟨g,up*8+6,none⟩=some (.int .i64 y.wt)/\w'.cell? ⟨g,up*8+7,none⟩=some (.int .i64 y.nm)) (go_keep)
    (first
     | (go_at_call 62;refine (aB CL _ (by first | exact ⟨0,rfl⟩ | exact ⟨1,rfl⟩ | exact ⟨_,rfl⟩)).mono ?_;rintro e w2 ⟨rfl,hb2⟩;obtain ⟨k0,k1,k2,k3,k4,k5,k6,k7,k8,k9,k10,k11,k12,k13,k14,k15,k16,k17⟩:=HS.out.below hb2;have HB2:=aA hb2;clear hb2)
     | go_in)
   have hI2:=HI.out.below HB2.out;have HI2:=aA hI2;have HM2:=aA (kA HM.out (fV HB2.out));clear hI2 hw1 hw2 hw3;go_wp2_with (first
    | (go_at_call 134;refine (aB CSW w2 HI2.out).mono ?_;rintro e w3 ⟨⟨u,rfl⟩,h3,hm3⟩;have HI3:=aA h3;have HM3:=aA (kA HM2.out hm3);clear h3 hm3)
    | go_in)
   ·have hl:jD x y=false:=by simpa using ‹(!jD x y)=true›
    refine bodyPost_ret (results_none rfl _ _ _) rfl ?_;have he:=HE.out;rw [if_neg (by simp [hl])] at he;rw [<-he];exact ⟨⟨_,rfl⟩,by rw [HML.out];exact HI2.out,HM2.out⟩
   ·have hl:jD x y=true:=by simpa using ‹(!jD x y)=false›
    go_roundw;case rel=>
     have he:=HE.out;rw [if_pos hl] at he;exact ⟨up,f,M',rfl,by rw [hMl];exact hu,by omega,by rw [hMl];exact HMM.out,HI3.out,HM3.out,he⟩
    case measure=>simp [intOf];omega
  ·have hq0:q=0:=by omega
   subst hq0;have hz:fH f M 0=M:=by
    cases f with
    | zero=>rfl
    | succ f=>unfold fH;rw [dif_neg (by omega)]
   rw [hz] at he;have HI:=aA hI;have HM:=aA hm;clear hI hm;go_wp2;go_end0;rw [<-he];exact ⟨⟨_,rfl⟩,HI.out,HM.out⟩
def eH(L:List Cd)(q:Nat):Nat->Nat
 | 0=>q
 | t+1=>if h:2*q+1+t<L.length/\eH L q t<L.length then (if jD (L[2*q+1+t]'h.1) (L[eH L q t]'h.2) then 2*q+1+t else eH L q t) else eH L q t
theorem aDy(L:List Cd)(q:Nat):∀t,eH L q t=q\/(q<eH L q t/\eH L q t<2*q+1+t/\eH L q t<L.length)
 | 0=>Or.inl rfl
 | t+1=>by
  unfold eH;split
  ·split
   ·right;omega
   ·rcases aDy L q t with h | h
    ·exact Or.inl h
    ·right;omega
  ·rcases aDy L q t with h | h
   ·exact Or.inl h
   ·right;omega
theorem aL4{t:Nat}(h:L.length<=2*q+1+t):eH L q (t+1)=eH L q t:=by
 conv=>lhs;unfold eH
 rw [dif_neg (by omega)]
theorem aYj{t:Nat}(h1:2*q+1+t<L.length)(h2:eH L q t<L.length):eH L q (t+1)=if jD L[2*q+1+t] L[eH L q t] then 2*q+1+t else eH L q t:=by
 conv=>lhs;unfold eH
 rw [dif_pos ⟨h1,h2⟩]
def kZ:Nat->List Cd->Nat->List Cd
 | 0,L,_=>L
 | f+1,L,q=>if h:eH L q 2≠q/\q<L.length/\eH L q 2<L.length then kZ f (nD L q (eH L q 2) h.2.1 h.2.2) (eH L q 2) else L
theorem aL5:∀(f:Nat) (L:List Cd) (q:Nat),(kZ f L q).length=L.length
 | 0,_,_=>rfl
 | f+1,L,q=>by
  unfold kZ;split
  ·rw [aL5 f];exact wM _ _
  ·rfl
theorem aL6{f:Nat}(h:eH L q 2=q):kZ f L q=L:=by
 cases f with
 | zero=>rfl
 | succ f=>unfold kZ;rw [dif_neg (by omega)]
theorem aL7{f:Nat}(hb:eH L q 2=b)(hne:b≠q)(h1:q<L.length)(h2:b<L.length):kZ (f+1) L q=kZ f (nD L q b h1 h2) b:=by
 subst hb;conv=>lhs;unfold kZ
 rw [dif_pos ⟨hne,h1,h2⟩]
theorem aYk(B hp:Nat)(v:Value)(L:List Cd)(w:World)(h:bY B w hp v L)(hL:L.length<=1000000000) :
  Calls zu 119 #[.pointer (some ⟨hp,0,none⟩),.int .i64 0] w λe w'=>(∃u,e=.returned u)/\bY B w' hp v (kZ L.length L 0)/\w.grownBy w' v.ownBlock:=by
 obtain ⟨va,vc,rfl⟩:=aS h.row;have HH:=aA h;clear h;go_enter Tryz.func119,Tryz.ntmps119;go_wp2;go_loopw [1] (λp wr=>∃(q f:Nat) (M:List Cd),p=.int .i64 q/\(q<M.length\/q=0)/\M.length<=q+f/\M.length=L.length/\bY B wr hp (.slice va L.length vc) M/\w.grownBy wr (Value.slice va L.length vc).ownBlock/\kZ f M q=kZ L.length L 0) (λp _=>L.length-(intOf p).toNat);case atStart=>exact ⟨0,L.length,L,rfl,Or.inr rfl,by omega,rfl,HH.out,⟨rfl,rfl,rfl,zz _,λ_ _ _=>rfl⟩,rfl⟩
 case round=>
  obtain ⟨q,f,M,rfl,hq,hf,hM,hI,hm,he⟩:=hrel;have hqL:q<=L.length:=by omega
  have HI:=aA hI;have HM:=aA hm;have HE:=aA he;have HMM:=aA hM;clear he hI hm hM;go_wp2;go_loopw [4,5] (λb d wr=>∃t:Nat,t<=2/\b=.int .i64 (eH M q t)/\d=.int .i64 (2*q+1+t:Nat)/\bY B wr hp (.slice va L.length vc) M/\w.grownBy wr (Value.slice va L.length vc).ownBlock) (λ_ d _=>2*q+3-(intOf d).toNat);case atStart=>exact ⟨0,by omega,rfl,by simp,HI.out,HM.out⟩
  case round=>
   obtain ⟨t,ht,rfl,rfl,hI,hm⟩:=hrel;have hor:=aDy M q t;have c0:=hI.c0.1;have HI:=aA hI;have HM:=aA hm;clear hI hm;by_cases hc:t<=1/\2*q+1+t<L.length
   ·obtain ⟨hc1,hc2⟩:=hc;have hMl:=HMM.out;have hb2:eH M q t<M.length:=by omega
    have hd2:2*q+1+t<M.length:=by omega
    have hstep:=aYj hd2 hb2;obtain ⟨d,hd⟩ : ∃d,2*q+1+t=d:=⟨_,rfl⟩;obtain ⟨b,hb⟩ : ∃b,eH M q t=b:=⟨_,rfl⟩;have HST:Hid (∃x y,x=M[2*q+1+t]/\y=M[eH M q t]/\eH M q (t+1)=if jD x y then d else b):=aA ⟨_,_,rfl,rfl,by rw [<-hd,<-hb];exact hstep⟩;obtain ⟨x,y,hx,hy,hbst⟩:=HST.out;have hI2:=HI.out;rw [<-hMl] at hI2;obtain ⟨g,cap,eg,hat⟩:=hI2.at hd2;clear hat;cases eg;have hS:=hI2.two hd2 hb2;rw [<-hx,<-hy,hMl] at hS;simp only [hd,hb] at hS ⊢;have CL:=aA (λ(wx:World) (hwx:∃e,wx=wr.drewN e)=>(aG6 x y wx).mono (R':=λe w2=>e=.returned (.bool (jD x y))/\Below wr.heap.size wr w2) (λe w2 he=>by
     obtain ⟨e',rfl⟩:=hwx;exact ⟨he.1,(aI ⟨e',rfl⟩).trans he.2⟩))
    unfold Cd.agg at CL;have HS:=aA hS;obtain ⟨x0,x1,x2,x3,x4,x5,x6,x7,x8,x9,x10,x11,x12,x13,x14,x15,x16,x17⟩:=hS;have HB2:=aA hb2;have HBS:=aA hbst;have hdq:(d:Int)<=2*(q:Int)+2:=by omega
    have hdz:(0:Int)<=(d:Int):=by omega
    have hbz:(0:Int)<=(b:Int):=by omega
    have hdl:(d:Int)<(L.length:Int):=by omega
    have hbl:(b:Int)<(L.length:Int):=by omega
    have hdd:d<=2*q+2:=by omega
    have HT:=aA (show d=2*q+1+t from hd.symm);clear hstep hx hy hI2 hor hMl hd hb hbst HST hb2 hd2 hc2;generalize hml:L.length=ml at *;have HML:=aA hml;clear hml;go_wp2;go_region_held3 (λw'=>w'.cell? ⟨hp,0,none⟩=some (.slice (some ⟨g,0,none⟩) ml vc)/\w'.cell? ⟨hp,1,none⟩=some (.func (.func 62) #[] #[])/\w'.cell? ⟨g,d*8,none⟩=some (.int .i64 x.r)/\w'.cell? ⟨g,d*8+1,none⟩=some (.int .i64 x.a)/\w'.cell? ⟨g,d*8+2,none⟩=some (.int .i64 x.b)/\w'.cell? ⟨g,d*8+3,none⟩=some (.int .i64 x.i)/\w'.cell? ⟨g,d*8+4,none⟩=some (.int .i64 x.j)/\w'.cell? ⟨g,d*8+5,none⟩=some (.slice x.ad x.ln x.cp)/\w'.cell? ⟨g,d*8+6,none⟩=some (.int .i64 x.wt)/\w'.cell? ⟨g,d*8+7,none⟩=some (.int .i64 x.nm)/\w'.cell? ⟨g,b*8,none⟩=some (.int .i64 y.r)/\w'.cell? ⟨g,b*8+1,none⟩=some (.int .i64 y.a)/\w'.cell? ⟨g,b*8+2,none⟩=some (.int .i64 y.b)/\w'.cell? ⟨g,b*8+3,none⟩=some (.int .i64 y.i)/\w'.cell? ⟨g,b*8+4,none⟩=some (.int .i64 y.j)/\w'.cell? ⟨g,b*8+5,none⟩=some (.slice y.ad y.ln y.cp)/\w'.cell? ⟨g,b*8+6,none⟩=some (.int .i64 y.wt)/\w'.cell? ⟨g,b*8+7,none⟩=some (.int .i64 y.nm)) (go_keep)
     (first
      | (go_at_call 62;refine (aB CL _ (by first | exact ⟨0,rfl⟩ | exact ⟨1,rfl⟩ | exact ⟨_,rfl⟩)).mono ?_;rintro e w2 ⟨rfl,hb2⟩;obtain ⟨k0,k1,k2,k3,k4,k5,k6,k7,k8,k9,k10,k11,k12,k13,k14,k15,k16,k17⟩:=HS.out.below hb2;have HB3:=aA hb2;clear hb2)
      | go_in)
    have HI3:=aA (HI.out.below HB3.out);have HM3:=aA (kA HM.out (fV HB3.out));go_wp2
    ·have hl:jD x y=true:=by assumption
     go_roundw;case rel=>
      have hbs:=HBS.out;rw [if_pos hl] at hbs;have:=HT.out;exact ⟨t+1,by omega,by rw [hbs],by have:(d:Int)+1=((2*q+1+(t+1):Nat):Int):=(by omega);rw [<-this],HI3.out,HM3.out⟩
     case measure=>simp [intOf];omega
    ·have hl:jD x y=false:=by assumption
     go_roundw;case rel=>
      have hbs:=HBS.out;rw [if_neg (by simp [hl])] at hbs;have:=HT.out;exact ⟨t+1,by omega,by rw [hbs],by have:(d:Int)+1=((2*q+1+(t+1):Nat):Int):=(by omega);rw [<-this],HI3.out,HM3.out⟩
     case measure=>simp [intOf];omega
   ·have hMl:=HMM.out;have hbe:eH M q 2=eH M q t:=by
     rcases Nat.lt_or_ge t 2 with h | h
     ·have h3:M.length<=2*q+1+t:=by omega
      have e1:=aL4 h3;rcases (show t=0\/t=1 by omega) with rfl | rfl
      ·rw [aL4 (t:=1) (by omega),e1]
      ·exact e1
     ·rw [show t=2 by omega]
    rw [<-hbe] at hor ⊢;obtain ⟨b,hb⟩ : ∃b,eH M q 2=b:=⟨_,rfl⟩;rw [hb] at hor ⊢;have hnn:¬(2*q+1+t<=2*q+2)\/¬(2*q+1+t<L.length):=by omega
    obtain ⟨d,hd⟩ : ∃d,2*q+1+t=d:=⟨_,rfl⟩;rw [hd] at hnn ⊢;have HHB:=aA hb;clear hb hbe hc ht hd;have CSW:=aA (λ(h1:q<M.length) (h2:b<M.length) (hne:q≠b)=>aG7 B hp (.slice va L.length vc) M q b wr HI.out h1 h2 hne);by_cases h1:d<=2*q+2
    ·have h2:¬d<L.length:=by omega
     have h1i:(d:Int)<=2*(q:Int)+2:=by omega
     have h2i:¬(d:Int)<(L.length:Int):=by omega
     by_cases hbq:b=q
     ·subst hbq;go_wp2;refine bodyPost_ret (results_none rfl _ _ _) rfl ?_;rw [<-HE.out,aL6 HHB.out];exact ⟨⟨_,rfl⟩,HI.out,HM.out⟩
     ·have hqM:q<M.length:=by omega
      have hbM:b<M.length:=by omega
      have hbqi:¬(b:Int)=(q:Int):=by omega
      obtain ⟨f,rfl⟩ : ∃f',f=f'+1:=⟨f-1,by omega⟩;have hgo:=aL7 (f:=f) HHB.out hbq hqM hbM;have hsl:=wM hqM hbM;have CW:=aA (aB CSW hqM hbM (λe=>hbq e.symm));generalize nD M q b hqM hbM=M' at *;have HGO:=aA hgo;have HSL:=aA hsl;clear hgo hsl CSW;go_wp2_with (first
       | (go_at_call 134;refine (aB CW).mono ?_;rintro e w3 ⟨⟨u,rfl⟩,h3,hm3⟩;have HI3:=aA h3;have HM3:=aA (kA HM.out hm3);clear h3 hm3)
       | go_in)
      go_roundw;case rel=>exact ⟨b,f,M',rfl,Or.inl (by rw [HSL.out];exact hbM),by rw [HSL.out];omega,by rw [HSL.out];exact HMM.out,HI3.out,HM3.out,by rw [<-HE.out,HGO.out]⟩
      case measure=>simp [intOf];omega
    ·have h1i:¬(d:Int)<=2*(q:Int)+2:=by omega
     by_cases hbq:b=q
     ·subst hbq;go_wp2;refine bodyPost_ret (results_none rfl _ _ _) rfl ?_;rw [<-HE.out,aL6 HHB.out];exact ⟨⟨_,rfl⟩,HI.out,HM.out⟩
     ·have hqM:q<M.length:=by omega
      have hbM:b<M.length:=by omega
      have hbqi:¬(b:Int)=(q:Int):=by omega
      obtain ⟨f,rfl⟩ : ∃f',f=f'+1:=⟨f-1,by omega⟩;have hgo:=aL7 (f:=f) HHB.out hbq hqM hbM;have hsl:=wM hqM hbM;have CW:=aA (aB CSW hqM hbM (λe=>hbq e.symm));generalize nD M q b hqM hbM=M' at *;have HGO:=aA hgo;have HSL:=aA hsl;clear hgo hsl CSW;go_wp2_with (first
       | (go_at_call 134;refine (aB CW).mono ?_;rintro e w3 ⟨⟨u,rfl⟩,h3,hm3⟩;have HI3:=aA h3;have HM3:=aA (kA HM.out hm3);clear h3 hm3)
       | go_in)
      go_roundw;case rel=>exact ⟨b,f,M',rfl,Or.inl (by rw [HSL.out];exact hbM),by rw [HSL.out];omega,by rw [HSL.out];exact HMM.out,HI3.out,HM3.out,by rw [<-HE.out,HGO.out]⟩
      case measure=>simp [intOf];omega
theorem aYl(x:Cd):∀u∈x.cells,u.oneCell'=true:=by intro u hu;simp [Cd.cells] at hu;rcases hu with rfl | rfl | rfl | rfl | rfl | rfl | rfl | rfl <;> rfl
theorem bY.frz(h:bY B w hp v L)(k:Nat):w.frozen? ⟨hp,k,none⟩=false:=by simp [zn,h.box]
theorem bY.more{w3:World}{v3:Value}(h:bY B w hp v L)(ho:w3.ownsRow B 116 8 v3 (L.length+1) (gL L++x.cells))(hg:w.grownBy w3 v.ownBlock) :
  w3.cell? ⟨hp,0,none⟩=some v/\w3.frozen? ⟨hp,0,none⟩=false/\bY B (w3.setCell ⟨hp,0,none⟩ v3) hp v3 (L++[x])/\Mv [116,147] B w (w3.setCell ⟨hp,0,none⟩ v3):=by
 have hbx:w3.heap[hp]?=some (.cells #[v,.func (.func 62) #[] #[]] 147 (0,0)):=by rw [hg.block hp (zy.1 h.box).1 (λe=>cE h.row h.box (by decide) e.symm)];exact h.box
 have hne:=cE ho hbx (by decide);have hlt:=(zy.1 hbx).1;refine ⟨by simp [zx,hbx],by simp [zn,hbx],⟨?_,?_,h.base⟩,?_⟩
 ·show (w3.heap.modify hp _)[hp]?=_;rw [zt (by rw [zo];exact hlt),zs,(zy.1 hbx).2];rfl
 ·have:=cH ho (bR w3 ⟨hp,0,none⟩ v3) (Or.inr hne);rw [aOe];simpa [gL] using this
 ·refine Mv.trans (V:=w3) (Mv.of_grown hg (λk hk=>?_)) (Mv.of_grown (bR w3 ⟨hp,0,none⟩ v3) (λk hk=>by cases hk;exact ⟨h.base,_,_,hbx,by simp⟩));obtain ⟨_,⟨rfl,_⟩ | ⟨g,cap,cur,rfl,hb,hh,_⟩⟩:=h.row
  ·cases hk
  ·cases hk;exact ⟨hb,cur,_,hh,by simp⟩
theorem aYm(B hp:Nat)(v:Value)(L:List Cd)(x:Cd)(w:World)(h:bY B w hp v L)(hL:L.length<=1000000)(hB:B<=w.heap.size) :
  Calls zu 94 #[.pointer (some ⟨hp,0,none⟩),x.agg] w λe w'=>(∃u,e=.returned u)/\∃v',bY B w' hp v' (fH L.length (L++[x]) L.length)/\Mv [116,147] B w w':=by
 obtain ⟨va,vc,rfl⟩:=aS h.row;have HH:=aA h;clear h;unfold Cd.agg;go_enter Tryz.func94,Tryz.ntmps94;go_wp2_with fail;obtain ⟨w1,hw1,hb1,hx1⟩ : ∃w1,w.alloc (.cells #[.int .i64 x.r,.int .i64 x.a,.int .i64 x.b,.int .i64 x.i,.int .i64 x.j,.slice x.ad x.ln x.cp,.int .i64 x.wt,.int .i64 x.nm] 116)=w1/\Below w.heap.size w w1/\w1.heap[w.heap.size]?=some (.cells #[.int .i64 x.r,.int .i64 x.a,.int .i64 x.b,.int .i64 x.i,.int .i64 x.j,.slice x.ad x.ln x.cp,.int .i64 x.wt,.int .i64 x.nm] 116 (0,0)):=⟨_,rfl,(Below.refl _ w).alloc (zz _) _,zw w _⟩;simp only [hw1];clear hw1;have hI:=HH.out.below hb1;have c0:=hI.c0.1;have c0a:∀o,(w1.alloc o).cell? ⟨hp,0,none⟩=some (.slice va L.length vc):=λo=>Below.at' ((Below.refl _ w1).alloc (zz _) o) (zz _) c0
 have b0:w1.cell? ⟨w.heap.size,0,none⟩=some (.int .i64 x.r):=by simp [zx,hx1]
 have b1:w1.cell? ⟨w.heap.size,1,none⟩=some (.int .i64 x.a):=by simp [zx,hx1]
 have b2:w1.cell? ⟨w.heap.size,2,none⟩=some (.int .i64 x.b):=by simp [zx,hx1]
 have b3:w1.cell? ⟨w.heap.size,3,none⟩=some (.int .i64 x.i):=by simp [zx,hx1]
 have b4:w1.cell? ⟨w.heap.size,4,none⟩=some (.int .i64 x.j):=by simp [zx,hx1]
 have b5:w1.cell? ⟨w.heap.size,5,none⟩=some (.slice x.ad x.ln x.cp):=by simp [zx,hx1]
 have b6:w1.cell? ⟨w.heap.size,6,none⟩=some (.int .i64 x.wt):=by simp [zx,hx1]
 have b7:w1.cell? ⟨w.heap.size,7,none⟩=some (.int .i64 x.nm):=by simp [zx,hx1]
 have hs1:=hb1.size;have hId:=hI.below (aI ⟨1,rfl⟩);have hrow:w1.drew.ownsRow B 116 8 (.slice va L.length vc) L.length (gL L):=hId.row;have HI:=aA hId;have HB1:=aA hb1;have hmix:zu.follows .mixedOrders=true:=by kernel_rfl
 clear hI hx1 hId hb1;go_region_law (refine nM ?g1 (.tmp 8) (.tmp 10) 145 116 ?g2 (.agg #[.int .i64 0,.int .i64 0,.int .i64 0,.int .i64 0,.int .i64 0,.slice none 0 0,.int .i64 0,.int .i64 0]) 8 80 Tryz.underlying145 aOd ?g3 ?g4 ?g5 B _ L.length (gL L) ?g6 (hrow.alloc _) ?g7 ?g8 w1.heap.size 1 x.cells ?g9 ?g10 (aI8 w1.drew #[.int .i64 x.r,.int .i64 x.a,.int .i64 x.b,.int .i64 x.i,.int .i64 x.j,.slice x.ad x.ln x.cp,.int .i64 x.wt,.int .i64 x.nm] 116) (aYl x) ?_;(case g1=>rfl);(case g2=>rfl);(case g3=>rfl);(case g4=>decide);(case g5=>decide);(case g6=>rfl);(case g7=>omega);(case g8=>simp;omega);(case g9=>rfl);(case g10=>rfl);intro v3 w3 ho3 hg3;obtain ⟨d0,f0,hI3,hm3⟩:=bY.more (HI.out.below ((Below.refl _ w1.drew).alloc (zz _) _)) ho3 hg3;have HI3:=aA hI3;have HM3:=aA hm3;obtain ⟨va3,vc3,rfl⟩:=aS ho3;clear ho3 hg3 hI3 hm3);all_goals
  have c4:=HI3.out.c0.1;have HM4:=aA ((Mv.of_below (S:=[116,147]) (B:=B) (HB1.out.trans (((aI ⟨1,rfl⟩).alloc (zz _) _).mono hs1))).trans HM3.out);clear d0 f0 HM3 HI HB1 b0 b1 b2 b3 b4 b5 b6 b7 c0 c0a hrow;generalize w3.setCell ⟨hp,0,none⟩ (.slice va3 (L.length+1) vc3)=w4 at *;have CR:=aA (aYi B hp _ (L++[x]) L.length w4 HI3.out (by simp) (by simp;omega));have hll:((L.length:Int)+1)-1=(L.length:Int):=by omega
  go_wp2_with (first
   | (go_at_call 118;refine (aB CR).mono ?_;rintro e w5 ⟨⟨u,rfl⟩,h5,hm5⟩)
   | go_in)
  go_end0;exact ⟨⟨_,rfl⟩,_,h5,HM4.out.trans ((HI3.out.mv hm5).mono (by simp) (zz _))⟩
def gY:Cd:=⟨0,0,0,0,0,none,0,0,0,0,[]⟩
def jM(L:List Cd):List Cd:=match L.getLast? with
 | none=>[]
 | some y=>kZ (L.length-1) ((L.set 0 y).take (L.length-1)) 0
theorem aYn(w:World):∃w2,(w.alloc (.cells #[.int .i64 0,.int .i64 0,.int .i64 0,.int .i64 0,.int .i64 0,.slice none 0 0,.int .i64 0,.int .i64 0] 116)).alloc (.cells #[.int .i64 0,.int .i64 0,.int .i64 0,.int .i64 0,.int .i64 0,.slice none 0 0,.int .i64 0,.int .i64 0] 116)=w2/\Below w.heap.size w w2/\w2.heap.size=w.heap.size+2/\
  w2.heap[w.heap.size]?=some (.cells #[.int .i64 0,.int .i64 0,.int .i64 0,.int .i64 0,.int .i64 0,.slice none 0 0,.int .i64 0,.int .i64 0] 116 (0,0))/\w2.heap[w.heap.size+1]?=some (.cells #[.int .i64 0,.int .i64 0,.int .i64 0,.int .i64 0,.int .i64 0,.slice none 0 0,.int .i64 0,.int .i64 0] 116 (0,0)):=by
 refine ⟨_,rfl,((Below.refl _ w).alloc (zz _) _).alloc (by simp) _,by simp,(Below.heap_alloc _ _ _ (by simp)).trans (zw w _),?_⟩;have:=zw (w.alloc (.cells #[.int .i64 0,.int .i64 0,.int .i64 0,.int .i64 0,.int .i64 0,.slice none 0 0,.int .i64 0,.int .i64 0] 116)) (.cells #[.int .i64 0,.int .i64 0,.int .i64 0,.int .i64 0,.int .i64 0,.slice none 0 0,.int .i64 0,.int .i64 0] 116);rwa [zl] at this
theorem aYo(B hp:Nat)(v:Value)(w:World)(h:bY B w hp v []) :
  Calls zu 95 #[.pointer (some ⟨hp,0,none⟩)] w λe w'=>e=.returned (.tuple #[gY.agg,.bool false])/\Below w.heap.size w w':=by
 obtain ⟨va,vc,rfl⟩:=aS h.row;simp only [List.length_nil] at h;have c0:=h.c0.1;have c0a:∀o o',((w.alloc o).alloc o').cell? ⟨hp,0,none⟩=some (.slice va 0 vc):=λo o'=>Below.at' (((Below.refl _ w).alloc (zz _) o).alloc (by simp) o') (zz _) c0
 clear h c0;go_enter Tryz.func95,Tryz.ntmps95;go_wp2;refine bodyPost_ret (v:=.tuple #[gY.agg,.bool false]) (by simp [results,Tryz.results95,go_sem,gY,Cd.agg];try rfl) rfl ?_;exact ⟨rfl,((Below.refl _ w).alloc (zz _) _).alloc (by simp) _⟩
def iS(w:World)(b:Nat)(x:Cd):Prop:=w.heap[b]?=some (.cells #[.int .i64 x.r,.int .i64 x.a,.int .i64 x.b,.int .i64 x.i,.int .i64 x.j,.slice x.ad x.ln x.cp,.int .i64 x.wt,.int .i64 x.nm] 116 (0,0))
theorem iS.cells(h:iS w b x):w.cell? ⟨b,0,none⟩=some (.int .i64 x.r)/\w.cell? ⟨b,1,none⟩=some (.int .i64 x.a)/\w.cell? ⟨b,2,none⟩=some (.int .i64 x.b)/\w.cell? ⟨b,3,none⟩=some (.int .i64 x.i)/\w.cell? ⟨b,4,none⟩=some (.int .i64 x.j)/\w.cell? ⟨b,5,none⟩=some (.slice x.ad x.ln x.cp)/\w.cell? ⟨b,6,none⟩=some (.int .i64 x.wt)/\w.cell? ⟨b,7,none⟩=some (.int .i64 x.nm):=by refine ⟨?_,?_,?_,?_,?_,?_,?_,?_⟩ <;> simp [zx,show w.heap[b]?=_ from h]
theorem iS.frz(h:iS w b x)(k:Nat):w.frozen? ⟨b,k,none⟩=false:=by simp [zn,show w.heap[b]?=_ from h]
theorem iS.grown{r:Option Nat}(h:iS w b x)(hg:w.grownBy w' r)(hne:some b≠r):iS w' b x:=(hg.block b (zy.1 h).1 hne).trans h
theorem iS.below(h:iS w b x)(hb:Below w.heap.size w w'):iS w' b x:=(hb.block b (zy.1 h).1).trans h
theorem iS.put{y:Cd}(h:iS w b x):iS (gF w b 0 y) b y:=by
 have hs:∀(u:World) (cs:Array Value) (k:Nat) (v:Value),u.heap[b]?=some (.cells cs 116 (0,0))->(u.setCell ⟨b,k,none⟩ v).heap[b]?=some (.cells (cs.setIfInBounds k v) 116 (0,0)):=λu cs k v hu=>by
  have hlt:=(zy.1 hu).1;show (u.heap.modify b _)[b]?=_;rw [zt (by rw [zo];exact hlt),zs,(zy.1 hu).2];rfl
 unfold iS gF;simp only [zm];rw [hs _ _ 7 _ (hs _ _ 6 _ (hs _ _ 5 _ (hs _ _ 4 _ (hs _ _ 3 _ (hs _ _ 2 _ (hs _ _ 1 _ (hs _ _ 0 _ h)))))))];simp
theorem aL8:∀(L:List Cd) (m:Nat),(gL L).take (m*8)=gL (L.take m)
 | [],m=>by simp [gL]
 | x :: L,0=>by simp [gL]
 | x :: L,m+1=>by
  rw [uU,List.take_succ_cons,uU,<-aL8 L m,show (m+1)*8=x.cells.length+m*8 by rw [yU];omega,List.take_length_add_append]
theorem bY.other{r:Nat}(h:bY B w hp v L)(hg:w.grownBy w' (some r))(h1:hp≠r)(h2:v.ownBlock≠some r):bY B w' hp v L:=
 ⟨(hg.block hp (zy.1 h.box).1 (by simp;omega)).trans h.box,cH h.row hg (Or.inr h2),h.base⟩
theorem bY.shrink{n:Nat}(h:bY B w hp (.slice (some ⟨g,0,none⟩) n cap) L){m:Nat}(hm:m<=L.length):bY B (w.setCell ⟨hp,0,none⟩ (.slice (some ⟨g,0,none⟩) m cap)) hp (.slice (some ⟨g,0,none⟩) m cap) (L.take m)/\w.grownBy (w.setCell ⟨hp,0,none⟩ (.slice (some ⟨g,0,none⟩) m cap)) (some hp):=by
 have hlt:=(zy.1 h.box).1;have hne:=cE h.row h.box (by decide);refine ⟨⟨?_,?_,h.base⟩,bR w ⟨hp,0,none⟩ _⟩
 ·show (w.heap.modify hp _)[hp]?=_;rw [zt (by rw [zo];exact hlt),zs,(zy.1 h.box).2];rfl
 ·refine cH ?_ (bR w ⟨hp,0,none⟩ _) (Or.inr (by simpa [zq] using hne));obtain ⟨h1,⟨e,_⟩ | ⟨g',cap',cur,e,hb,hh,hc,hml,hz,ht⟩⟩:=h.row
  ·cases e
  ·simp at e;obtain ⟨rfl,_,rfl⟩:=e;have hl:(L.take m).length=m:=by simp;omega
   rw [hl];refine ⟨by rw [aG3,hl],Or.inr ⟨g,cap,cur,rfl,hb,hh,by omega,hml,hz,?_⟩⟩;rw [<-aL8,<-ht,List.take_take,Nat.min_eq_left (Nat.mul_le_mul_right 8 hm)]
theorem bY.get{n:Nat}(h:bY B w hp (.slice (some ⟨g,0,none⟩) n cap) L){k:Nat}{x:Cd}(hk:L[k]?=some x):aL3 w g k x:=by obtain ⟨hlt,e⟩:=zp.1 hk;obtain ⟨g',c',e',ha⟩:=h.at hlt;simp at e';obtain ⟨rfl,_⟩:=e';rw [e] at ha;exact ha
theorem aYp(B hp:Nat)(v:Value)(L:List Cd)(w:World)(h:bY B w hp v L)(h0:0<L.length)(hL:L.length<=1000000)(hB:B<=w.heap.size) :
  Calls zu 95 #[.pointer (some ⟨hp,0,none⟩)] w λe w'=>e=.returned (.tuple #[L[0].agg,.bool true])/\∃v',bY B w' hp v' (jM L)/\Mv [116,147] B w w':=by
 obtain ⟨m,hm⟩ : ∃m,L.length=m+1:=⟨L.length-1,by omega⟩;obtain ⟨g,cap,rfl,hat⟩:=h.at h0;clear hat;obtain ⟨y,hy⟩ : ∃y,L[m]=y:=⟨_,rfl⟩;obtain ⟨x,hx⟩ : ∃x,L[0]=x:=⟨_,rfl⟩;have hpop:jM L=kZ m ((L.set 0 y).take m) 0:=by
  unfold jM;have:L.getLast?=some y:=by rw [List.getLast?_eq_getElem?,hm,Nat.add_sub_cancel,zr (by omega),hy]
  rw [this,hm];rfl
 rw [hx,hpop];clear hpop;have hy':L[m]?=some y:=by rw [zr (by omega),hy]
 have hx':L[0]?=some x:=by rw [zr h0,hx]
 have HX:=aA hx';have HY:=aA hy';have HM:=aA hm;have hml:(L.length:Int)-1=(m:Int):=by omega
 have hlz:¬((L.length:Int)=0):=by omega
 have hlp:(0:Int)<(L.length:Int):=by omega
 have hmm:(m:Int)<(L.length:Int):=by omega
 have hmle:(m:Int)<=(L.length:Int):=by omega
 have hmz:(0:Int)<=(m:Int):=by omega
 have hwr:wrap64 ((L.length:Int)-1)=(m:Int):=by unfold wrap64;omega
 have HH:=aA h;clear h hx hy hm hx' hy' h0;generalize hle:L.length=ml at *;have HLE:=aA hle;clear hle;go_enter Tryz.func95,Tryz.ntmps95;obtain ⟨w2,hw2,hb2,hs2,hr2,hn2⟩:=aYn w;have hI2:=HH.out.below hb2;have c0:=hI2.c0.1;have c0a:∀o,(w2.alloc o).cell? ⟨hp,0,none⟩=some (.slice (some ⟨g,0,none⟩) ml cap):=λo=>Below.at' ((Below.refl _ w2).alloc (zz _) o) (zz _) c0
 obtain ⟨x0,x1,x2,x3,x4,x5,x6,x7⟩:=hI2.get HX.out;simp only [Nat.zero_mul,zm] at x0 x1 x2 x3 x4 x5 x6 x7;have a0:=λo=>Below.at' ((Below.refl _ w2).alloc (zz _) o) (zz _) x0
 have a1:=λo=>Below.at' ((Below.refl _ w2).alloc (zz _) o) (zz _) x1
 have a2:=λo=>Below.at' ((Below.refl _ w2).alloc (zz _) o) (zz _) x2
 have a3:=λo=>Below.at' ((Below.refl _ w2).alloc (zz _) o) (zz _) x3
 have a4:=λo=>Below.at' ((Below.refl _ w2).alloc (zz _) o) (zz _) x4
 have a5:=λo=>Below.at' ((Below.refl _ w2).alloc (zz _) o) (zz _) x5
 have a6:=λo=>Below.at' ((Below.refl _ w2).alloc (zz _) o) (zz _) x6
 have a7:=λo=>Below.at' ((Below.refl _ w2).alloc (zz _) o) (zz _) x7
 have HI2:=aA hI2;clear hI2;have hmix:zu.follows .mixedOrders=true:=by kernel_rfl
 go_wp2;clear hw2;go_region;have hgw:g<w.heap.size:=(aT HH.out.row g rfl).2;have hhw:hp<w.heap.size:=(zy.1 HH.out.box).1;have hmc:(m:Int)<=(cap:Int):=by
  obtain ⟨_,⟨e,_⟩ | ⟨g',cap',cur,e,_,_,hc,_⟩⟩:=HH.out.row
  ·cases e
  ·simp at e;have:=HLE.out;omega
 have hst:∃w3,(w2.alloc (.cells #[.int .i64 x.r,.int .i64 x.a,.int .i64 x.b,.int .i64 x.i,.int .i64 x.j,.slice x.ad x.ln x.cp,.int .i64 x.wt,.int .i64 x.nm] 116)).drew=w3/\Below w2.heap.size w2 w3/\iS w3 (w.heap.size+2) x:=by refine ⟨_,rfl,((Below.refl _ w2).alloc (zz _) _).trans ((aI ⟨1,rfl⟩).mono (by simp)),?_⟩;rw [<-hs2];exact zw w2 _
 obtain ⟨w3,hw3,hb3,hf3⟩:=hst;simp only [hw3];clear hw3;have hr3:iS w3 w.heap.size gY:=iS.below (w:=w2) hr2 hb3;have hn3:iS w3 (w.heap.size+1) gY:=iS.below (w:=w2) hn2 hb3;have hI3:=HI2.out.below hb3;have HM3:=aA (Mv.of_below (S:=[116,147]) (B:=B) (hb2.trans (hb3.mono hb2.size)));clear hr2 hn2 hb3 hb2 HI2 c0 c0a x0 x1 x2 x3 x4 x5 x6 x7 a0 a1 a2 a3 a4 a5 a6 a7;have c3:=hI3.c0.1;obtain ⟨x0,x1,x2,x3,x4,x5,x6,x7⟩:=hI3.get HX.out;simp only [Nat.zero_mul,zm] at x0 x1 x2 x3 x4 x5 x6 x7;obtain ⟨y0,y1,y2,y3,y4,y5,y6,y7⟩:=hI3.get HY.out;have hfz:=hI3.frozen;have HI3:=aA hI3;clear hI3;go_wp2;go_region;have hp4:=HI3.out.put (k:=0) (x:=y) HLE.out.symm (by have:=HM.out;have:=HLE.out;omega);have hw4:((((((((w3.setCell ⟨g,0,none⟩ (.int .i64 y.r)).setCell ⟨g,1,none⟩ (.int .i64 y.a)).setCell ⟨g,2,none⟩ (.int .i64 y.b)).setCell ⟨g,3,none⟩ (.int .i64 y.i)).setCell ⟨g,4,none⟩ (.int .i64 y.j)).setCell ⟨g,5,none⟩ (.slice y.ad y.ln y.cp)).setCell ⟨g,6,none⟩ (.int .i64 y.wt)).setCell ⟨g,7,none⟩ (.int .i64 y.nm))=gF w3 g (0*8) y:=rfl;simp only [hw4];clear hw4 x0 x1 x2 x3 x4 x5 x6 x7 y0 y1 y2 y3 y4 y5 y6 y7 c3 hfz;have hd4:Below (gF w3 g (0*8) y).heap.size (gF w3 g (0*8) y) (gF w3 g (0*8) y).drew:=aI ⟨1,rfl⟩;have hI4:=hp4.1.below hd4;have hg4:=kA hp4.2 (fV hd4);have hr4:=hr3.grown hg4 (by simp;omega);have hn4:=hn3.grown hg4 (by simp;omega);have hf4:=hf3.grown hg4 (by simp;omega);have HM4:=aA (HM3.out.trans ((HI3.out.mv (w':=(gF w3 g (0*8) y).drew) hg4).mono (by simp) (zz _)));clear hp4 hd4 hg4 hr3 hn3 hf3 HM3 HI3;generalize (gF w3 g (0*8) y).drew=w4 at *;have hyy:(L.set 0 y)[m]?=some y:=by
  have h1:=HY.out;have h2:=(zp.1 h1).1;by_cases hm0:m=0
  ·subst hm0;simp [h2]
  ·rw [List.getElem?_set_ne (by omega)];exact h1
 have c4:=hI4.c0.1;obtain ⟨y0,y1,y2,y3,y4,y5,y6,y7⟩:=hI4.get hyy;obtain ⟨z0,z1,z2,z3,z4,z5,z6,z7⟩:=hn4.cells;simp only [gY] at z0 z1 z2 z3 z4 z5 z6 z7;have hfz:=hI4.frozen;have HI4:=aA hI4;clear hI4;go_wp2;go_region;have hlen:(L.set 0 y).length=ml:=by rw [List.length_set];exact HLE.out
 have hp5:=HI4.out.put (k:=m) (x:=gY) hlen.symm (by rw [hlen];have:=HM.out;omega);have hw5:((((((((w4.setCell ⟨g,m*8,none⟩ (.int .i64 0)).setCell ⟨g,m*8+1,none⟩ (.int .i64 0)).setCell ⟨g,m*8+2,none⟩ (.int .i64 0)).setCell ⟨g,m*8+3,none⟩ (.int .i64 0)).setCell ⟨g,m*8+4,none⟩ (.int .i64 0)).setCell ⟨g,m*8+5,none⟩ (.slice none 0 0)).setCell ⟨g,m*8+6,none⟩ (.int .i64 0)).setCell ⟨g,m*8+7,none⟩ (.int .i64 0))=gF w4 g (m*8) gY:=rfl;simp only [hw5];clear hw5 z0 z1 z2 z3 z4 z5 z6 z7 y0 y1 y2 y3 y4 y5 y6 y7 c4 hfz;have hd5:Below (gF w4 g (m*8) gY).heap.size (gF w4 g (m*8) gY) (gF w4 g (m*8) gY).drew:=aI ⟨1,rfl⟩;have hI5:=hp5.1.below hd5;have hg5:=kA hp5.2 (fV hd5);have hr5:=hr4.grown hg5 (by simp;omega);have hf5:=hf4.grown hg5 (by simp;omega);have HM5:=aA (HM4.out.trans ((HI4.out.mv (w':=(gF w4 g (m*8) gY).drew) hg5).mono (by simp) (zz _)));clear hp5 hd5 hg5 hr4 hn4 hf4 HM4 HI4;generalize (gF w4 g (m*8) gY).drew=w5 at *;have c5:=hI5.c0.1;have f5:=hI5.frz;have hp6:=hI5.shrink (m:=m) (by rw [List.length_set,hlen];have:=HM.out;omega);have hlt:((L.set 0 y).set m gY).take m=(L.set 0 y).take m:=by rw [List.take_set_of_le (zz _)]
 rw [hlt] at hp6;have hr6:=hr5.grown hp6.2 (by simp;omega);have hf6:=hf5.grown hp6.2 (by simp;omega);have HM6:=aA (HM5.out.trans (Mv.of_grown (S:=[116,147]) (B:=B) hp6.2 (λk hk=>by cases hk;exact ⟨hI5.base,_,_,hI5.box,by simp⟩)));have hl6:((L.set 0 y).take m).length=m:=by rw [List.length_take,hlen];have:=HM.out;omega
 have CS:=aA (aYk B hp _ ((L.set 0 y).take m) _ hp6.1 (by omega));rw [hl6] at CS;have HR6:=aA hr6;have HF6:=aA hf6;have HI6:=aA hp6.1;clear hr5 hf5 HM5 hI5 hp6 hr6 hf6 hlt hyy hlen;go_wp2_with (first
  | (go_at_call 119;refine (aB CS).mono ?_;rintro e w7 ⟨⟨u,rfl⟩,h7,hg7⟩;have hr7:=HR6.out.grown hg7 (by simp [zq];omega);have hf7:=HF6.out.grown hg7 (by simp [zq];omega);obtain ⟨p0,p1,p2,p3,p4,p5,p6,p7⟩:=hf7.cells;obtain ⟨q0,q1,q2,q3,q4,q5,q6,q7⟩:=hr7.cells;have fz7:=hr7.frz;have HR7:=aA hr7;have HI7:=aA h7;have HM7:=aA (HM6.out.trans ((HI6.out.mv hg7).mono (by simp) (zz _)));clear hr7 hf7 h7 hg7)
  | go_in)
 have hw8:((((((((w7.setCell ⟨w.heap.size,0,none⟩ (.int .i64 x.r)).setCell ⟨w.heap.size,1,none⟩ (.int .i64 x.a)).setCell ⟨w.heap.size,2,none⟩ (.int .i64 x.b)).setCell ⟨w.heap.size,3,none⟩ (.int .i64 x.i)).setCell ⟨w.heap.size,4,none⟩ (.int .i64 x.j)).setCell ⟨w.heap.size,5,none⟩ (.slice x.ad x.ln x.cp)).setCell ⟨w.heap.size,6,none⟩ (.int .i64 x.wt)).setCell ⟨w.heap.size,7,none⟩ (.int .i64 x.nm))=gF w7 w.heap.size 0 x:=rfl;simp only [hw8];clear hw8;have hb8:=HR7.out.put (y:=x);have hg8:=aG5 w7 w.heap.size 0 x;obtain ⟨t0,t1,t2,t3,t4,t5,t6,t7⟩:=hb8.cells;refine bodyPost_ret (v:=.tuple #[x.agg,.bool true]) (by simp [results,Tryz.results95,go_sem,t0,t1,t2,t3,t4,t5,t6,t7,Cd.agg];try rfl) rfl ?_;exact ⟨rfl,_,HI7.out.other hg8 (by omega) (by simp [zq];omega),HM7.out.trans (Mv.of_grown hg8 (λk hk=>by cases hk;exact ⟨hB,_,_,HR7.out,by simp⟩))⟩
end
section
open Go.RowKit Go.Shelf
theorem aYq(xb yb:Bool)(a1 a2:Option Addr)(c1 c2 g:Nat)(xl yl:List Nd)(w:World)(h1:cU w a1 xl)(h2:cU w a2 yl)(g0:w.cell? ⟨g,0,none⟩=some (.bool yb))(g1:w.cell? ⟨g,1,none⟩=some (.slice a2 yl.length c2)) :
  Calls zu 117 #[.agg #[.bool xb,.slice a1 xl.length c1],.pointer (some ⟨g,0,none⟩)] w λe w'=>e=.returned (.bool (nL (xb,xl) (yb,yl)))/\Below w.heap.size w w':=by
 have hb0:Below w.heap.size w (w.alloc (.cells #[.bool xb,.slice a1 xl.length c1] 39)):=(Below.refl _ _).alloc (zz _) _;have CS:=aA (aI7 xb yb a1 a2 c1 c2 xl yl _ (h1.below hb0 (zz _)) (h2.below hb0 (zz _)));have q0:=Below.at' hb0 (zz _) g0;have q1:=Below.at' hb0 (zz _) g1;have HB0:=aA hb0;clear hb0 h1 h2;go_enter Tryz.func117,Tryz.ntmps117;go_wp2_with (go_at_call 111;refine (aB CS).mono ?_;rintro e w1 ⟨rfl,hb⟩;have HB1:=aA (HB0.out.trans (hb.mono (by simp)));clear hb);go_ret;exact ⟨rfl,HB1.out⟩
theorem aYr(a a2:Option Addr)(cap c2 g:Nat)(P:List (Lt×Value))(yb:Bool)(yl:List Nd)(w:World)(hf:P.length<=4398046511104)
  (hc:∀k (h:k<P.length),∃g',a=some ⟨g',0,none⟩/\w.cell? ⟨g',k*2,none⟩=some (.bool P[k].1.1)/\w.cell? ⟨g',k*2+1,none⟩=some P[k].2)
  (hA:∀p∈P,kC w p.2 p.1.2) (h2:cU w a2 yl) (g0:w.cell? ⟨g,0,none⟩=some (.bool yb)) (g1:w.cell? ⟨g,1,none⟩=some (.slice a2 yl.length c2)) :
  Calls zu 131 #[.slice a P.length cap,.func (Fn.func 117) #[] #[.pointer (some ⟨g,0,none⟩)]] w λe w'=>∃r:Int,e=.returned (.int .i64 r)/\decide (0<=r)=eS (P.map zv) (yb,yl)/\Below w.heap.size w w':=by
 have HC:=aA hc;have HA:=aA hA;have H2:=aA h2;clear hc hA h2;go_enter Tryz.func131,Tryz.ntmps131;go_wp2;go_loopw [8] (λi wr=>∃k:Nat,k<=P.length/\i=.int .i64 k/\eS ((P.map zv).take k) (yb,yl)=false/\Below w.heap.size w wr) (λi _=>P.length-(intOf i).toNat);case atStart=>exact ⟨0,Nat.zero_le _,rfl,rfl,Below.refl _ _⟩
 case round=>
  obtain ⟨k,hk,rfl,hm,hb⟩:=hrel;have HM:=aA hm;clear hm;by_cases hlt:k<P.length
  ·obtain ⟨g',rfl,e1,f1⟩:=HC.out k hlt;obtain ⟨pa,pcp,hpv,hpn⟩:=HA.out P[k] (zk _);rw [hpv] at f1;have hmt:=aHi P (yb,yl) k hlt;rw [HM.out,Bool.false_or] at hmt;have hmx:=aHj P (yb,yl) (k+1);rw [hmt] at hmx;generalize P[k].1=x at *;obtain ⟨xb,xl⟩:=x;simp only at e1 f1 hpn;have e2:=Below.at' hb (zz _) e1;have f2:=Below.at' hb (zz _) f1;have CL:=aA (aYq xb yb pa a2 pcp c2 g xl yl wr (hpn.below hb (zz _)) (H2.out.below hb (zz _)) (Below.at' hb (zz _) g0) (Below.at' hb (zz _) g1));have HMT:=aA hmt;have HMX:=aA hmx;have HB:=aA hb;have hbs:=hb.size;clear hmt hmx hb hpv hpn e1 f1;cases hl:nL (xb,xl) (yb,yl)
   ·rw [hl] at CL HMT;clear hl;go_wp2_with (go_at_call 117;refine (aB CL).mono ?_;rintro e w1 ⟨rfl,hb1⟩;have HB1:=aA (HB.out.trans (hb1.mono hbs));clear hb1);go_roundw;case rel=>exact ⟨k+1,by omega,by go_num,HMT.out,HB1.out⟩
    case measure=>simp [intOf];omega
   ·rw [hl] at CL HMX;clear hl;go_wp2_with (go_at_call 117;refine (aB CL).mono ?_;rintro e w1 ⟨rfl,hb1⟩;have HB1:=aA (HB.out.trans (hb1.mono hbs));clear hb1);go_ret;exact ⟨_,rfl,by rw [HMX.out (by first | rfl | trivial)];simp,HB1.out⟩
  ·have hk1:(P.map zv).take k=P.map zv:=List.take_of_length_le (by simp;omega);rw [hk1] at HM;have HB:=aA hb;clear hk1 hb;go_wp2;go_ret;exact ⟨_,rfl,by rw [HM.out];rfl,HB.out⟩
theorem aYs(a a2:Option Addr)(cap c2 g:Nat)(P:List (Lt×Value))(yb:Bool)(yl:List Nd)(w:World)(hf:P.length<=4398046511104)
  (hc:∀k (h:k<P.length),∃g',a=some ⟨g',0,none⟩/\w.cell? ⟨g',k*2,none⟩=some (.bool P[k].1.1)/\w.cell? ⟨g',k*2+1,none⟩=some P[k].2)
  (hA:∀p∈P,kC w p.2 p.1.2) (h2:cU w a2 yl) (g0:w.cell? ⟨g,0,none⟩=some (.bool yb)) (g1:w.cell? ⟨g,1,none⟩=some (.slice a2 yl.length c2)) :
  Calls zu 112 #[.slice a P.length cap,.func (Fn.func 117) #[] #[.pointer (some ⟨g,0,none⟩)]] w λe w'=>e=.returned (.bool (eS (P.map zv) (yb,yl)))/\Below w.heap.size w w':=by
 have CI:=aA (aYr a a2 cap c2 g P yb yl w hf hc hA h2 g0 g1);clear hc hA h2 g0 g1;go_enter Tryz.func112,Tryz.ntmps112;go_wp2_with (go_at_call 131;refine (aB CI).mono ?_;rintro e w1 ⟨r,rfl,hr,hb⟩;have HR:=aA hr;have HB:=aA hb;clear hr hb);go_ret;exact ⟨cI HR.out,HB.out⟩
def rK(c:List Lt)(k:Nat):Bool:=(List.range k).any λi=>eS (c.take i) (!(c.getD i default).1,(c.getD i default).2)
def pW(c:List Lt):Bool:=rK c c.length
theorem aYt(c:List Lt)(k:Nat)(h:k<c.length):rK c (k+1)=(rK c k || eS (c.take k) (!c[k].1,c[k].2)):=by unfold rK;rw [List.range_succ,List.any_append];simp [h]
theorem aYu(c:List Lt){k:Nat}(hk:k<=c.length)(h:rK c k=true):pW c=true:=by unfold pW rK at *;rw [List.any_eq_true] at *;obtain ⟨i,hi,h2⟩:=h;exact ⟨i,List.mem_range.2 (Nat.lt_of_lt_of_le (List.mem_range.1 hi) hk),h2⟩
theorem aL9(a:Option Addr)(cap:Nat)(P:List (Lt×Value))(w:World)(hf:P.length<=100000)(hcap:P.length<=cap)
  (hc:∀k (h:k<P.length),∃g',a=some ⟨g',0,none⟩/\w.cell? ⟨g',k*2,none⟩=some (.bool P[k].1.1)/\w.cell? ⟨g',k*2+1,none⟩=some P[k].2)
  (hA:∀p∈P,kC w p.2 p.1.2) :
  Calls zu 93 #[.slice a P.length cap] w λe w'=>e=.returned (.bool (pW (P.map zv)))/\Below w.heap.size w w':=by
 have HC:=aA hc;have HA:=aA hA;clear hc hA;go_enter Tryz.func93,Tryz.ntmps93;go_wp2;go_loopw [8] (λi wr=>∃k:Nat,k<=P.length/\i=.int .i64 k/\rK (P.map zv) k=false/\Below w.heap.size w wr) (λi _=>P.length-(intOf i).toNat);case atStart=>exact ⟨0,Nat.zero_le _,rfl,rfl,Below.refl _ _⟩
 case round=>
  obtain ⟨k,hk,rfl,hm,hb⟩:=hrel;have HM:=aA hm;clear hm;by_cases hlt:k<P.length
  ·obtain ⟨g',rfl,e1,f1⟩:=HC.out k hlt;obtain ⟨pa,pcp,hpv,hpn⟩:=HA.out P[k] (zk _);rw [hpv] at f1;have hst:=aYt (P.map zv) k (by simpa using hlt);rw [HM.out,Bool.false_or] at hst;have hst2:rK (P.map zv) (k+1)=eS ((P.map zv).take k) (!P[k].1.1,P[k].1.2):=by simpa using hst
   generalize P[k].1=x at *;obtain ⟨xb,xl⟩:=x;simp only at e1 f1 hpn hst2;have e2:=Below.at' hb (zz _) e1;have f2:=Below.at' hb (zz _) f1;have hbs:=hb.size;have hki:(k:Int)<(P.length:Int):=by omega
   have hkc:(k:Int)<=(cap:Int):=by omega
   have hbx:Below w.heap.size w ((wr.alloc (.cells #[.bool xb,.slice pa xl.length pcp] 39)).alloc (.cells #[.bool !xb,.slice pa xl.length pcp] 39)):=(hb.alloc hbs _).alloc (by simp;omega) _;have hnb:((wr.alloc (.cells #[.bool xb,.slice pa xl.length pcp] 39)).alloc (.cells #[.bool !xb,.slice pa xl.length pcp] 39)).heap[wr.heap.size+1]?=some (.cells #[.bool !xb,.slice pa xl.length pcp] 39):=by have:=zw (wr.alloc (.cells #[.bool xb,.slice pa xl.length pcp] 39)) (.cells #[.bool !xb,.slice pa xl.length pcp] 39);rwa [zl] at this
   have htl:(P.take k).length=k:=by simp;omega
   have CC:=aA (aYs (some ⟨g',0,none⟩) pa cap pcp (wr.heap.size+1) (P.take k) (!xb) xl ((wr.alloc (.cells #[.bool xb,.slice pa xl.length pcp] 39)).alloc (.cells #[.bool !xb,.slice pa xl.length pcp] 39)) (by omega)
    (λj hj=>by
     obtain ⟨g2,h1,h2,h3⟩:=HC.out j (by omega);rw [List.getElem_take];exact ⟨g2,h1,Below.at' hbx (zz _) h2,Below.at' hbx (zz _) h3⟩)
    (λp hp=>(HA.out p (List.mem_of_mem_take hp)).below hbx (zz _)) (hpn.below hbx (zz _)) (aBy hnb).1 (aBy hnb).2)
   rw [htl,List.map_take,<-hst2] at CC;have HB:=aA hbx;have HK:=aA (aYu (P.map zv) (k:=k+1) (by simp;omega));clear hst hst2 hbx hnb htl e1 f1 hpn hpv hb;cases hi:rK (P.map zv) (k+1)
   ·rw [hi] at CC;have HI:=aA hi;clear hi;go_wp2_with (first
     | (go_at_call 112;refine (aB CC).mono ?_;rintro e w1 ⟨rfl,hb1⟩;have HB1:=aA (HB.out.trans (hb1.mono (by have:=HB.out.size;simpa using this)));clear hb1)
     | go_in)
    go_roundw;case rel=>exact ⟨k+1,by omega,by go_num,HI.out,HB1.out⟩
    case measure=>simp [intOf];omega
   ·have HID:=aA (HK.out hi);rw [hi] at CC;clear hi HK;go_wp2_with (first
     | (go_at_call 112;refine (aB CC).mono ?_;rintro e w1 ⟨rfl,hb1⟩;have HB1:=aA (HB.out.trans (hb1.mono (by have:=HB.out.size;simpa using this)));clear hb1)
     | go_in)
    go_ret;exact ⟨by rw [HID.out];rfl,HB1.out⟩
  ·have hke:k=(P.map zv).length:=by simp;omega
   have HB:=aA hb;clear hb;go_wp2;go_ret;have hid:pW (P.map zv)=false:=by have hm:=HM.out;rw [hke] at hm;exact hm
   exact ⟨by rw [hid];rfl,HB.out⟩
end
end Go.Proofs.YtcldkjcpofjmhaaGreatDoor
