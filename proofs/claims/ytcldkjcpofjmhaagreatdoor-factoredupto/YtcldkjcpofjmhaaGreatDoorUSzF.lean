import Derived.Test.YtcldkjcpofjmhaaGreatDoorUJnLF
open List renaming getElem?_set_ne→zu,getElem?_set→zr,map_append→zq,length→zp
open Nat renaming le_refl→zx,le_trans→zv,le_total→zm
namespace Go.Proofs.YtcldkjcpofjmhaaGreatDoor
open _root_.Go.Proofs.Tryz renaming results89→zt,underlying37→zl,prog→zk
open Value renaming ownBlock→zo,int→zj
open World renaming frozen?_setCell→zz,cell?_setCell_same'→zy,block_lt_of_cell?→zw
set_option maxHeartbeats 2000000
set_option maxRecDepth 100000
variable{S:List Int}{L:List Nd}{rt:Nat->Nat}{w:World}
section
open Go.RowKit Go.Shelf Go.WideMaps
attribute [local go_sem] Oper.semAt_some
theorem aVv{x:Int}(h0:0<=x)(h1:x<=1000000):wrap64 x=x:=by unfold wrap64;omega
theorem aVw(a b:Nat):min (wrap64 (((min 501 (1+a):Nat):Int)+((min 501 b:Nat):Int))) 501=((min 501 (1+(a+([b]:List Nat).sum)):Nat):Int):=by
 have h1:min 501 (1+a)<=501:=Nat.min_le_left _ _;have h2:min 501 b<=501:=Nat.min_le_left _ _;have h3:([b]:List Nat).sum=b:=by simp
 rw [aVv (by omega) (by omega),h3];rcases zm 501 (1+a) with ha | ha <;> rcases zm 501 b with hb | hb <;> rcases zm 501 (1+(a+b)) with hc | hc <;> simp only [Nat.min_eq_left,Nat.min_eq_right,ha,hb,hc] <;> omega
theorem aVx{W:World}{B tb gs cs:Nat}{vn ve vl vm:Value}{F:List Nat}{S0:List Int}{cb N0:Nat}{pre:List Nat}{u:Value}(h:xM w B tb gs cs vn ve vl vm L F S0 rt cb N0 pre W)(hcb:W.cell? ⟨cb,0,none⟩=some u){W':World}(hg:W.grownBy W' (some gs))(hgs:gs<w.heap.size){ks:List Nat}(hk:∀k∈ks,k<W.heap.size/\k≠gs)(hc:∃o:Obj,W.heap[gs]?=some o/\o.isCells=true)(B0:Nat)(hb:w.heap.size<=cb:=by omega) :
  W'.cell? ⟨w.heap.size+1,0,none⟩=some (.int .i64 0)/\W'.cell? ⟨w.heap.size+1+1,0,none⟩=some (.bool false)/\W'.frozen? ⟨w.heap.size+1,0,none⟩=false/\W'.frozen? ⟨w.heap.size+1+1,0,none⟩=false/\W'.cell? ⟨cb,0,none⟩=some u/\W'.frozen? ⟨cb,0,none⟩=false/\iQ ks W W'/\KeepsFrom B0 W W'/\w.grownBy W' (some gs):=by
 have fz:∀{p:Addr} {v:Value},W.cell? p=some v->p.block≠gs->W'.frozen? p=W.frozen? p:=λhc hn=>World.frozen?_of_block (hg.block _ (zw W _ hc) (λe=>hn (by simpa using e)))
 exact ⟨hg.cell h.x1 (by simp;omega),hg.cell h.x2 (by simp;omega),(fz h.x1 (by simp;omega)).trans h.f1,(fz h.x2 (by simp;omega)).trans h.f2,hg.cell hcb (by simp;omega),(fz hcb (by simp;omega)).trans h.cf,aD5 hg hk,xK B0 hg hc,h.far.trans hg⟩
theorem aVy{r:Nat}{nd:Nd}{C:List Nat}{ls:List (List Nd)}(hnd:L[r]?=some nd)(hC:(aC L).ch r=C)(hls:aM (λx l=>aL (aC L) (λi j=>rt i=rt j) rt [x] l) C ls)(hen:∀x∈C,bD (aC L) (λi j=>rt i=rt j) x)(hN:jT L rt)(hD:eK (aC L) λi j=>rt i=rt j)(hNC:dW (aC L) λi j=>rt i=rt j)(hr:rt r=r) :
  bD (aC L) (λi j=>rt i=rt j) r/\∃l,aL (aC L) (λi j=>rt i=rt j) rt [r] l/\l.length=1+(ls.map zp).sum:=by
 have hnr:∀j,rt r=rt j->(aC L).named j->(aC L).named r:=by intro j e hj;have:=hN j hj;rwa [<-e,hr] at this
 refine ⟨aVj hD hNC (oD L) (hD.refl r) (by rw [hC];exact hen) hnr,?_⟩;cases hv:aF nd with
 | false=>
  have hnm:(aC L).named r:=by rw [fL hnd];exact hv
  refine ⟨_,aL.name (hD.refl r) hnm (by rw [List.append_nil,hC];exact aVk hls),?_⟩;simp [List.length_flatten];omega
 | true=>
  have hnm:¬(aC L).named r:=by rw [fL hnd,hv];simp
  refine ⟨_,aL.var (λj e hj=>hnm (hnr j e hj)) aL.nil,?_⟩;have hC0:C=[]:=by rw [<-hC,fM hnd,oJ hv];rfl
  subst hC0;cases hls;simp
theorem aVz(h:rC L rt S){r:Nat}{n:Int}(hn:bD (aC L) (λi j=>rt i=rt j) r/\∃l,aL (aC L) (λi j=>rt i=rt j) rt [r] l/\n=(min 501 l.length:Nat)):rC L rt (S.set r n):=by
 intro p x hp;rw [zr] at hp;split at hp
 ·rename_i e;subst e;split at hp
  ·simp at hp;subst hp;exact Or.inr (Or.inr hn)
  ·cases hp
 ·exact h p x hp
theorem aW0{S':List Int}{r:Nat}{n:Int}(hn:n≠-1)(h0:S[r]?=some 0)(h:∀p:Nat,S'[p]?=some (-1)↔(S.set r (-1))[p]?=some (-1)):∀p:Nat,(S'.set r n)[p]?=some (-1)↔S[p]?=some (-1):=by
 intro p;by_cases e:p=r
 ·subst e;rw [h0];constructor
  ·intro hp;rw [zr] at hp;simp at hp;exact absurd hp.2 hn
  ·intro hp;simp at hp
 ·rw [zu (λx=>e x.symm),h p,zu (λx=>e x.symm)]
theorem aJj(B tb:Nat)(vn ve vl vs vm:Value)(L:List Nd)(F:List Nat)(rt d:Nat->Nat)(hL:dE L)(hF:gB F rt d)(hN:jT L rt)(hC:dR (aC L) (λi j=>rt i=rt j) λ_ _=>False):∀(m:Nat) (S:List Int) (a:Nat) (w:World),kG S<m->bF w B tb vn ve vl vs vm L F S->rC L rt S->(∀r:Nat,S[r]?=some (-1)->fE (aC L) (λi j=>rt i=rt j) r a)->a<L.length->
  Calls zk 89 #[.pointer (some ⟨tb,0,none⟩),.int .i64 a] w λe w'=>∃n b S',e=.returned (.tuple #[.int .i64 n,.bool b])/\aVn w B tb vn ve vl vs vm L F S rt a n b w' S':=by
 obtain ⟨hD,hNC⟩:=aJc hC (qB rt);intro m;induction m with
 | zero=>intro S a w hm;omega
 | succ m ih=>
  intro S a w hm h hS hR ha;have HT:=aA h;have HF:=aA hF;have HN:=aA hN;have HM:=aA hm;have HS:=aA hS;have HR:=aA hR;have HD:=aA hD;have HNC:=aA hNC;have IH:=aA ih;obtain ⟨w1,hw1,hb1,x0,x1,x2,f1,f2,hs1⟩:=aJd w (.pointer (some ⟨tb,0,none⟩)) (.int .i64 0) (.bool false) 107 3 4;have CA:=aA (aD8 B tb vn ve vl vs vm L F S rt d a w1 (h.below hb1) hF ha);have HB1:=aA hb1;have hra:rt a<L.length:=by rw [<-h.lf];exact hF.rt_lt (by rw [h.lf];exact ha)
  have hrr:=hF.rt_rt a;obtain ⟨gs,cs,n0,rfl,hn0,c1,cf1⟩:=(h.below hb1).size hra;have cs1:=(h.below hb1).c3;have hfew:=h.few;clear h hF hN hm hS hR hD hNC ih hC;refine (callsIn_wide (n:=3)).1 ?_;refine callsIn_of_wp_marks Tryz.func89 rfl trivial ?_;simp only [Tryz.ntmps89,List.size_toArray,List.length_cons,List.length_nil,Nat.reduceAdd,Nat.reduceSub,Array.replicate_succ,Array.replicate_zero,List.push_toArray,List.append_toArray,List.nil_append,List.cons_append];refine wpIn_wide.2 ?_;obtain ⟨r,hr⟩ : ∃r,r=rt a:=⟨_,rfl⟩;rw [<-hr] at hra hrr hn0 c1 cf1 CA;have HRT:=aA hr;have HRR:=aA hrr;have HN0:=aA hn0;have hri:(r:Int)<(L.length:Int):=by omega
  clear hr hrr hn0;by_cases hq1:n0=-1
  ·subst hq1;have HNE:Hid (¬bD (aC L) (λi j=>rt i=rt j) a):=aA (λhe=>he.irrefl HD.out ((HR.out r HN0.out).left HD.out (by show rt a=rt r;rw [HRR.out,HRT.out])));subst hw1;go_wp2_with (first
    | (go_at_call 114;refine (aB CA).mono ?_;rintro e w' ⟨rfl,rfl⟩)
    | go_in)
   refine uB (v:=.tuple #[.int .i64 0,.bool false]) rfl (by simp [results,zt,go_sem,x1,x2]) ?_;exact ⟨0,false,S,rfl,⟨HT.out.below HB1.out,fV HB1.out,zx _,λe=>(by cases e),λ_=>⟨rfl,HNE.out⟩⟩⟩
  ·by_cases hq0:n0=0
   ·subst hq0;have HZ:=aA (aVl S r (-1) HN0.out (by decide));have HT1:=aA (HT.out.below HB1.out);have HSZ:=aA ((HT.out.below HB1.out).sized r (-1));have hgsw:gs<w.heap.size:=(aT HT.out.rs gs rfl).2;subst hw1;go_upto_region 6 with (first
     | (go_at_call 114;refine (aB CA).mono ?_;rintro e w' ⟨rfl,rfl⟩)
     | go_in)
    clear CA;generalize ((w.alloc (.cells #[.pointer (some ⟨tb,0,none⟩)] 107)).alloc (.cells #[.int .i64 0] 3)).alloc (.cells #[.bool false] 4)=w1 at *;obtain ⟨ht2,hg2⟩:=HSZ.out;have k0:=fY (j:=r) (v:=.int .i64 (-1)) x0 (by omega:w.heap.size≠gs);have k1:=fY (j:=r) (v:=.int .i64 (-1)) x1 (by omega:w.heap.size+1≠gs);have k2:=fY (j:=r) (v:=.int .i64 (-1)) x2 (by omega:w.heap.size+1+1≠gs);have kf1:(w1.setCell ⟨gs,r,none⟩ (.int .i64 (-1))).frozen? ⟨w.heap.size+1,0,none⟩=false:=by rw [zz];exact f1
    have kf2:(w1.setCell ⟨gs,r,none⟩ (.int .i64 (-1))).frozen? ⟨w.heap.size+1+1,0,none⟩=false:=by rw [zz];exact f2
    have hz2:(w1.setCell ⟨gs,r,none⟩ (.int .i64 (-1))).heap.size=w.heap.size+3:=by rw [<-hs1];simp [World.setCell]
    have HT2:=aA ht2;have HG2:=aA (xL HB1.out hg2);have CP:=aA (λwx=>aD0 tb r wx);have nA:=λX=>Below.at' ((Below.refl (w1.setCell ⟨gs,r,none⟩ (.int .i64 (-1))).heap.size (w1.setCell ⟨gs,r,none⟩ (.int .i64 (-1)))).alloc (zx _) X) (zx _) k0
    clear ht2 hg2 HSZ HT1;go_wp2_with (first
     | (go_at_call 115;refine (aB CP _).mono ?_;rintro e w5 ⟨rfl,rfl⟩)
     | go_in)
    clear nA CP;generalize w1.setCell ⟨gs,r,none⟩ (.int .i64 (-1))=w4 at *;obtain ⟨C,hC⟩ : ∃C,(aC L).ch r=C:=⟨_,rfl⟩;obtain ⟨ge,ce,rfl,_⟩:=HT.out.ends (by omega);obtain ⟨w6,hw6,hal,o0,of0,ot0,oa0,os0⟩:=aD1 w4 (.int .i64 1) (.pointer (some ⟨tb,0,none⟩)) (.int .i64 r) 3 107 3;rw [<-hw6];clear hw6;rw [hz2] at o0 of0 ot0 oa0 os0;have hT6:=HT2.out.below hal;have hIt:kW w6 (w.heap.size+3+1+1) (w.heap.size+3+1) tb ge L r:=kW.of hT6 (by omega) oa0 ot0;have htb6:=(Array.getElem?_eq_some_iff.1 HT.out.box).1;have hge6:=(aT HT.out.re ge rfl).2;have hks:∀k∈[w.heap.size+3+1+1,w.heap.size+3+1,tb,ge],k<w6.heap.size:=by intro k hk;simp at hk;rcases hk with rfl | rfl | rfl | rfl <;> omega
    obtain ⟨nd,hnd⟩ : ∃n,L[r]?=some n:=⟨L[r],List.getElem?_eq_getElem hra⟩;have HG6:=aA (HG2.out.trans (fV hal));have y0:=Below.at' hal (zx _) k0;have y1:=Below.at' hal (zx _) k1;have y2:=Below.at' hal (zx _) k2;have yf1:=(hal.frozen (p:=⟨w.heap.size+1,0,none⟩) (zw _ _ k1)).trans kf1;have yf2:=(hal.frozen (p:=⟨w.heap.size+1+1,0,none⟩) (zw _ _ k2)).trans kf2;refine (wpIn_wide (n:=3)).1 ?_;refine wpIn_rangeFunc_ownG rfl (by omega) (gf:=133) (lb:=#[.pointer (some ⟨w.heap.size+3+1+1,0,none⟩),.pointer (some ⟨w.heap.size+3+1,0,none⟩)]) rfl trivial (enters_of Tryz.func133 (by kernel_rfl) rfl)
     (encs:=λx:nW C=>#[.int .i64 (x.1:Nat)]) (Kp:=iQ [w.heap.size+3+1+1,w.heap.size+3+1,tb,ge]) (S:=λxs=>xs.map (λx=>x.1)=C) (Sp:=λpre=>pre.map (λx=>x.1) <+: C) (N:=C.length) (w0:=w6)
     (λl J Jx W hW hJ hJx hY h0=>by
      have:=aDc 2 l (w.heap.size+3+1+1) (w.heap.size+3+1) tb ge L r nd C hC (by omega) hL hfew hnd J Jx _ hJ hY W (hIt.kept (aD2 hW hks)) h0;simpa using this)
     (λh k=>h.trans k) (iQ.put hks) (Below.refl _ _) (λ_=>rfl)
     (λpre W=>xM w B tb gs cs vn (.slice (some ⟨ge,0,none⟩) L.length ce) vl vm L F (S.set r (-1)) rt (w.heap.size+3) w6.heap.size (pre.map λx=>x.1) W)
     (λc pre W=>aA4 w B tb gs cs vn (.slice (some ⟨ge,0,none⟩) L.length ce) vl vm L F (S.set r (-1)) rt c (pre.map λx=>x.1) W)
     (xM.own (by omega)) (λc=>aA4.own (by omega) c) ?h0 ?a1 ?assign ?body ?done ?stop
    case h0=>
     refine ⟨zx _,⟨_,hT6,zx _,?_,λ_=>Iff.rfl⟩,⟨[],aM.nil,by simp,o0⟩,HG6.out,y0,y1,y2,yf1,yf2,of0⟩;intro p n hp;rw [zr] at hp;split at hp
     ·split at hp
      ·simp at hp;exact Or.inr (Or.inl hp.symm)
      ·cases hp
     ·exact HS.out p n hp
    case assign=>
     intro l x W K hK;gi_wp2
     exact hK
    case body=>
     rintro l pre x W hI hlen;obtain ⟨S',hT',hZ',hS',hA'⟩:=hI.st;obtain ⟨ls,hls,hen,hcb⟩:=hI.pts;have hxp:x.1<L.length:=aD4 hL hnd x.1 (by rw [hC];exact x.2);have hnm:(aC L).named r:=by
      rw [fL hnd];cases hv:aF nd with
      | false=>rfl
      | true=>
       have h1:C=[]:=by rw [<-hC,fM hnd,oJ hv];rfl
       have h2:=x.2;simp [h1] at h2
     have hstep:fE (aC L) (λi j=>rt i=rt j) r x.1:=fE.step (j:=r) rfl hnm (by rw [hC];exact x.2) rfl;have hask:∀q:Nat,S'[q]?=some (-1)->fE (aC L) (λi j=>rt i=rt j) q x.1:=by
      intro q hq;have h1:=(hA' q).1 hq;by_cases hqr:q=r
      ·subst hqr;exact hstep
      ·rw [zu (λe=>hqr e.symm)] at h1;exact fE.trans ((HR.out q h1).right HD.out (by show rt a=rt r;rw [HRR.out,HRT.out])) hstep
     have CJ:=IH.out S' x.1 W (by have:=HZ.out;have:=HM.out;omega) hT' hS' hask hxp;have hWs:=hI.far.size;have hW6:=hI.big;have htbW:=(Array.getElem?_eq_some_iff.1 hT'.box).1;have hgeW:=(aT hT'.re ge rfl).2;have hkk:∀k∈[w.heap.size+3+1+1,w.heap.size+3+1,tb,ge],k<W.heap.size/\k≠gs:=by
      intro k hk;simp at hk;have h1:tb≠gs:=λe=>cE hT'.rs hT'.box (by decide) (by simp [zo,e])
      have h2:ge≠gs:=λe=>hT'.ac (by simp [zo,e])
      rcases hk with rfl | rfl | rfl | rfl
      ·exact ⟨by omega,by omega⟩
      ·exact ⟨by omega,by omega⟩
      ·exact ⟨htbW,h1⟩
      ·exact ⟨hgeW,h2⟩
     have HNX:=aA (λ(W':World) (hg:W.grownBy W' (some gs))=>aVx hI hcb hg hgsw hkk (xN hT'.rs rfl) w6.heap.size);have x0':=hI.x0;have HI:=aA hI;have HLS:=aA hls;have HEN:=aA hen;have HZZ:=aA hZ';have HAA:=aA hA';have HCJ:=aA CJ;have HKK:=aA (λk hk=>(hkk k hk).1);generalize hsm:(ls.map zp).sum=sm at *;have HSM:=aA hsm;clear hsm;clear hI hls hen hcb hZ' hA' hS' hT' CJ hask hstep hnm hkk;gi_wp2_with (first
      | (refine ⟨trivial,?_⟩;gi_at_call 89;refine (CallsIn.inRound l (callsIn_wide.2 (aB HCJ))).mono ?_;rintro e W' ⟨n,b,S'',rfl,hres⟩;obtain ⟨q1,q2,qf1,qf2,q3,qf3,hkp,hkf,hfar⟩:=HNX.out W' hres.far;have HRES:=aA hres;have HKP:=aA hkp;have HKF:=aA hkf;have HFAR:=aA hfar;clear hres hkp hkf hfar)
      | fail)
     ·have hbf:b=false:=by simpa using ‹(!b)=true›
      obtain ⟨_,hno⟩:=HRES.out.no hbf;refine ⟨HKF.out.trans ((sP _ q1 _).trans (sP _ (fY q2 (by omega)) _)),⟨rfl,⟨S'',(HRES.out.tm.boxed HT.out (by omega) 0 _).boxed HT.out (by omega) 0 _,zv HRES.out.few HZZ.out⟩,⟨x.1,by simp,hno⟩,mJ (mJ HFAR.out (by omega) 0 _) (by omega) 0 _,?_,?_⟩⟩
      ·exact fY (zy _ _ _ (by rw [q1];rfl)) (by omega)
      ·exact zy _ _ _ (by rw [fY q2 (by omega)];rfl)
     ·have hbt:b=true:=by simpa using ‹(!b)=false›
      obtain ⟨h1,h2,h3,lx,h4,h5⟩:=HRES.out.yes hbt;have hval:min (wrap64 (((min 501 (1+sm):Nat):Int)+n)) 501=((min 501 (1+((ls++[lx]).map zp).sum):Nat):Int):=by rw [h5,zq,List.sum_append,HSM.out];exact aVw sm lx.length
      rw [hval];have hkn:∀k∈[w.heap.size+3+1+1,w.heap.size+3+1,tb,ge],k≠w.heap.size+3:=by intro k hk;simp at hk;rcases hk with rfl | rfl | rfl | rfl <;> omega
      refine ⟨HKF.out.trans (sP _ q3 _),HKP.out.trans (λk hk=>(bR W' ⟨w.heap.size+3,0,none⟩ _).block k (Nat.lt_of_lt_of_le (HKK.out k hk) HRES.out.far.size) (by simpa using hkn k hk)),⟨?_,⟨S'',HRES.out.tm.boxed HT.out (by omega) 0 _,zv HRES.out.few HZZ.out,h1,λp=>(h2 p).trans (HAA.out p)⟩,⟨ls++[lx],?_,?_,zy _ _ _ (by rw [q3];rfl)⟩,mJ HFAR.out (by omega) 0 _,fY ?_ (by omega),fY q1 (by omega),fY q2 (by omega),?_,?_,?_⟩⟩
      ·exact zv HI.out.big (zv HRES.out.far.size (bR W' ⟨w.heap.size+3,0,none⟩ _).size)
      ·rw [zq];exact HLS.out.snoc h4
      ·intro y hy;rw [zq,List.mem_append] at hy;rcases hy with hy | hy
       ·exact HEN.out y hy
       ·simp at hy;subst hy;exact h3
      ·exact HRES.out.far.cell x0' (by intro e;simp [zo] at e;omega)
      ·rw [zz];exact qf1
      ·rw [zz];exact qf2
      ·rw [zz];exact qf3
    case done=>
     rintro D ys W hD hSy hI hK;obtain ⟨S',hT',hZ',hS',hA'⟩:=hI.st;obtain ⟨ls,hls,hen,hcb⟩:=hI.pts;have hcC:=hI.cf;rw [hSy] at hls hen;have x0':=hI.x0;have x1':=hI.x1;have x2':=hI.x2;have f1':=hI.f1;have f2':=hI.f2;have c3':=hT'.c3;obtain ⟨gs',cs',nr,e',hnr,ccr,cfr⟩:=hT'.size hra;simp at e';obtain ⟨rfl,rfl⟩:=e';generalize hsm:(ls.map zp).sum=sm at *;have HSM:=aA hsm;have HI:=aA hI;have HT':=aA hT';have HLS:=aA hls;have HEN:=aA hen;have HK:=aA hK;have HZ':=aA hZ';have HS':=aA hS';have HA':=aA hA';have hrz:(0:Int)<=(r:Int):=Int.natCast_nonneg _;have hrn:((r:Int)).toNat=r:=Int.toNat_natCast _;obtain ⟨v,hv⟩ : ∃v,v=zj .i64 ((min 501 (1+sm):Nat):Int):=⟨_,rfl⟩;have d1:=fY (j:=r) (v:=v) x1' (by omega:w.heap.size+1≠gs);have d2:=fY (j:=r) (v:=v) x2' (by omega:w.heap.size+1+1≠gs);have d3:=fY (j:=r) (v:=v) hcb (by omega:w.heap.size+3≠gs);have df1:(W.setCell ⟨gs,r,none⟩ v).frozen? ⟨w.heap.size+1,0,none⟩=false:=by rw [zz];exact f1'
     have df2:(W.setCell ⟨gs,r,none⟩ v).frozen? ⟨w.heap.size+1+1,0,none⟩=false:=by rw [zz];exact f2'
     rw [hv] at d1 d2 d3 df1 df2;clear hsm hI hT' hls hen hK hZ' hS' hA' hv;go_wp2;go_region;all_goals
      go_wp2;obtain ⟨hE,lr,hX,hXl⟩:=aVy hnd hC HLS.out HEN.out HN.out HD.out HNC.out HRR.out;rw [HSM.out] at hXl;have hra2:rt r=rt a:=by rw [HRR.out,HRT.out]
      have hv1:(1:Nat)<=min 501 (1+sm):=by rw [Nat.le_min];omega
      have hKF:KeepsFrom 0 W (((W.setCell ⟨gs,r,none⟩ (.int .i64 ((min 501 (1+sm):Nat):Int))).setCell ⟨w.heap.size+1,0,none⟩ (.int .i64 ((min 501 (1+sm):Nat):Int))).setCell ⟨w.heap.size+1+1,0,none⟩ (.bool true)):=(xK 0 (HT'.out.sized r ((min 501 (1+sm):Nat):Int)).2 (xN HT'.out.rs rfl)).trans ((sP 0 d1 _).trans (sP 0 (fY d2 (by omega)) _));have hK':=hKF.same D _ (Nat.zero_le _) HK.out rfl;have hg1:=zy (W.setCell ⟨gs,r,none⟩ (.int .i64 ((min 501 (1+sm):Nat):Int))) ⟨w.heap.size+1,0,none⟩ (.int .i64 ((min 501 (1+sm):Nat):Int)) (by rw [d1];rfl);have hg1':=fY (j:=0) (v:=.bool true) hg1 (by omega:w.heap.size+1≠w.heap.size+1+1);have hg2:=zy ((W.setCell ⟨gs,r,none⟩ (.int .i64 ((min 501 (1+sm):Nat):Int))).setCell ⟨w.heap.size+1,0,none⟩ (.int .i64 ((min 501 (1+sm):Nat):Int))) ⟨w.heap.size+1+1,0,none⟩ (.bool true) (by rw [fY d2 (by omega)];rfl);have htm:=((HT'.out.sized r ((min 501 (1+sm):Nat):Int)).1.boxed HT.out (g:=w.heap.size+1) (by omega) 0 (.int .i64 ((min 501 (1+sm):Nat):Int))).boxed HT.out (g:=w.heap.size+1+1) (by omega) 0 (.bool true);have hfr:=mJ (mJ (HI.out.far.trans (HT'.out.sized r ((min 501 (1+sm):Nat):Int)).2) (g:=w.heap.size+1) (by omega) 0 (.int .i64 ((min 501 (1+sm):Nat):Int))) (g:=w.heap.size+1+1) (by omega) 0 (.bool true);generalize ((W.setCell ⟨gs,r,none⟩ (.int .i64 ((min 501 (1+sm):Nat):Int))).setCell ⟨w.heap.size+1,0,none⟩ (.int .i64 ((min 501 (1+sm):Nat):Int))).setCell ⟨w.heap.size+1+1,0,none⟩ (.bool true)=WF at *;have hKd:WF.drew.heap[D]?=some (.deferred (some [])):=hK';refine ⟨by simp,.inl ⟨_,_,rfl,run_takeDeferred hKd,?_⟩⟩;have hc1:=cell_kept (show WF.drew.cell? _=_ from hg1') (grownBy_putObj' WF.drew D (.deferred none)) (λr e=>by cases e;exact ⟨_,hKd,rfl⟩);have hc2:=cell_kept (show WF.drew.cell? _=_ from hg2) (grownBy_putObj' WF.drew D (.deferred none)) (λr e=>by cases e;exact ⟨_,hKd,rfl⟩);refine ⟨.tuple #[.int .i64 ((min 501 (1+sm):Nat):Int),.bool true],by simp [results,zt,go_sem,hc1,hc2],?_⟩;have hbd:Below WF.heap.size WF WF.drew:=aI ⟨1,rfl⟩;have hZ2:=HZ.out;refine ⟨_,true,S'.set r ((min 501 (1+sm):Nat):Int),rfl,⟨(htm.below hbd).others (grownBy_putObj' WF.drew D (.deferred none)) (λr e=>by cases e;exact ⟨_,hKd,rfl⟩),nU (hfr.trans (fV hbd)) (grownBy_putObj' WF.drew D (.deferred none)) (λr e=>by cases e;omega),?_,λ_=>⟨aVz HS'.out ⟨hE,lr,hX,by rw [hXl]⟩,aW0 (by omega) HN0.out HA'.out,hE.same HD.out hra2,lr,hX.same HD.out (λ_ _ e=>e) [a] (aM.cons hra2 aM.nil),by rw [hXl]⟩,λe=>(by cases e)⟩⟩;have h1:=aVm S' r ((min 501 (1+sm):Nat):Int) (by omega);have h2:=HZ'.out;omega
    case stop=>
     rintro D c pre W hD hSy hI hK;have hcr:=hI.ret;subst hcr;obtain ⟨S',hT',hZ'⟩:=hI.st;obtain ⟨y,hy,hno⟩:=hI.no;have x1':=hI.x1;have x2':=hI.x2;refine wpIn_wide.2 ?_;go_wp2;refine ⟨by simp,.inl ⟨_,_,rfl,run_takeDeferred hK,?_⟩⟩;have hc1:=cell_kept x1' (grownBy_putObj' _ D (.deferred none)) (λr e=>by cases e;exact ⟨_,hK,rfl⟩);have hc2:=cell_kept x2' (grownBy_putObj' _ D (.deferred none)) (λr e=>by cases e;exact ⟨_,hK,rfl⟩);refine ⟨.tuple #[.int .i64 0,.bool false],by simp [results,zt,go_sem,hc1,hc2],?_⟩;refine ⟨0,false,S',rfl,⟨hT'.others (grownBy_putObj' _ D (.deferred none)) (λr e=>by cases e;exact ⟨_,hK,rfl⟩),nU hI.far (grownBy_putObj' _ D (.deferred none)) (λr e=>by cases e;omega),zv hZ' (Nat.le_of_lt HZ.out),λe=>(by cases e),λ_=>⟨rfl,λhe=>hno ?_⟩⟩⟩;have hym:y∈(aC L).ch r:=by rw [hC];exact hSy.subset hy
     have hnm:(aC L).named r:=by
      rw [fL hnd];cases hv:aF nd with
      | false=>rfl
      | true=>rw [fM hnd,oJ hv] at hym;simp at hym
     exact he.parts (j:=r) (by show rt a=rt r;rw [HRR.out,HRT.out]) hnm hym
   ·have HK:=aA (show bD (aC L) (λi j=>rt i=rt j) a/\∃l,aL (aC L) (λi j=>rt i=rt j) rt [a] l/\n0=(min 501 l.length:Nat) from by
     have hra:rt r=rt a:=by rw [HRR.out,HRT.out]
     rcases HS.out r n0 HN0.out with e | e | ⟨h1,l,h2,h3⟩
     ·exact absurd e hq0
     ·exact absurd e hq1
     ·exact ⟨h1.same HD.out hra,l,h2.same HD.out (λ_ _ e=>e) [a] (aM.cons hra aM.nil),h3⟩)
    have hq1':((n0:Int) == -1)=false:=by simpa using hq1
    have hq0':((n0:Int) != 0)=true:=by simpa using hq0
    obtain ⟨w2,hw2,hb2,y0,y1,y2,_,_,hs2⟩:=aJd w (.pointer (some ⟨tb,0,none⟩)) (.int .i64 n0) (.bool true) 107 3 4;subst hw1;go_wp2_with (first
     | (go_at_call 114;refine (aB CA).mono ?_;rintro e w' ⟨rfl,rfl⟩)
     | go_in)
    subst hw2;refine uB (v:=.tuple #[.int .i64 n0,.bool true]) rfl (by simp [results,zt,go_sem,y1,y2]) ?_;exact ⟨n0,true,S,rfl,⟨HT.out.below hb2,fV hb2,zx _,λ_=>⟨HS.out,λ_=>Iff.rfl,HK.out⟩,λe=>(by cases e)⟩⟩
end
section
open Go.RowKit Go.Shelf Go.WideMaps
theorem aJk(w:World)(ty:TypeId)(base:Nat)(v:Value)(l:List Nd)(hown:w.ownsRow base 36 2 v l.length (aG l))(hv:v.ownBlock≠none)(hn:l.length<=1000000)(hbase:base<=w.heap.size)(g c:Nat)(nd:Nd)(hu:w.cell? ⟨g,0,none⟩=some (.string nd.1))(hu1:w.cell? ⟨g,1,none⟩=some (.int .i64 nd.2)) :
  ∃v' w',(Builtin.append_ #[37,37] ty #[v,.slice (some ⟨g,0,none⟩) 1 c]).run zk w=.ok v' w'/\w'.ownsRow base 36 2 v' (l.length+1) (aG (l++[nd]))/\w.grownBy w' v.ownBlock/\(v'.ownBlock=v.ownBlock\/v'.ownBlock=some w.heap.size):=by
 obtain ⟨i,hi,hz,hss,hy⟩:=info_parts nB;have hnews:∀(j:Nat) (u':Value),[Value.string nd.1,zj .i64 nd.2][j]?=some u'->w.cell? ((⟨g,0,none⟩ : Addr).add j)=some u':=by
  intro j u' hj;have hj0:=(List.getElem?_eq_some_iff.1 hj).1;simp at hj0;match j,hj0,hj with
  | 0,_,hj=>simp at hj;subst hj;exact hu
  | 1,_,hj=>simp at hj;subst hj;exact hu1
 have h1c:∀x∈[Value.string nd.1,zj .i64 nd.2],x.oneCell'=true:=by intro x hx;simp at hx;rcases hx with rfl | rfl <;> rfl
 obtain ⟨v',w',hr,h1,h2,_⟩:=run_append_own (P:=zk) w base 37 ty 36 i (.agg #[.string ⟨#[]⟩,.int .i64 0]) 2 24 zl hi hz hss hy rfl (by decide) v l.length (aG l) hown ⟨g,0,none⟩ 1 c [.string nd.1,.int .i64 nd.2] rfl hnews h1c (by unfold maxLen;omega) (by omega) hbase;exact ⟨v',w',hr,by rw [rS];exact h1,h2,wR w base 37 ty 36 i (.agg #[.string ⟨#[]⟩,.int .i64 0]) 2 24 zl hi hz hss hy (by decide) v l.length (aG l) hown hv ⟨g,0,none⟩ 1 c [.string nd.1,.int .i64 nd.2] rfl hnews h1c (by unfold maxLen;omega) (by omega) hr⟩
theorem aW1{ops:Array Oper}{o:Oper}{a:Act}{w:World}{K:Act->World->Prop}{Q:Exit->Act->World->Prop}{E:Prop}(hgd:o.guard=none)(s x:Operand)
  (ho:o.op=.call {callee:=.builtin .append,args:=#[s,x],argTypes:=#[37,37]}) (base:Nat) (v:Value) (l:List Nd) (hs:a.eval s=v) (hown:w.ownsRow base 36 2 v l.length (aG l)) (hv:v.ownBlock≠none) (hn:l.length<=1000000) (hbase:base<=w.heap.size)
  (g c:Nat) (nd:Nd) (hx:a.eval x=.slice (some ⟨g,0,none⟩) 1 c) (hu:w.cell? ⟨g,0,none⟩=some (.string nd.1)) (hu1:w.cell? ⟨g,1,none⟩=some (.int .i64 nd.2))
  (h:∀v' w',w'.ownsRow base 36 2 v' (l.length+1) (aG (l++[nd]))->w.grownBy w' v.ownBlock->(v'.ownBlock=v.ownBlock\/v'.ownBlock=some w.heap.size)->K (a.put o.dst v') w') :
  if Region.wanted o (yielded ops a.tmps)=true then Oper.wp zk o a w K Q else E:=by
 have hw:Region.wanted o (yielded ops a.tmps)=true:=by simp [Region.wanted,hgd]
 rw [if_pos hw];obtain ⟨v',w',hr,h1,h2,h3⟩:=aJk w o.type base v l hown hv hn hbase g c nd hu hu1;unfold Oper.wp execOp;simp only [ho,resolve,invoke,builtin,Sem.run_bind,Sem.run_pure,Result.andThen_ok,List.map_toArray,List.map_cons,List.map_nil,hs,hx,hr];exact h v' w' h1 h2 h3
structure aJl(w:World)(B tb:Nat)(vn ve vl vs vm:Value)(L:List Nd)(F:List Nat)(S:List Int)(B1:Nat)(v:Value)(out:List Nd)(v':Value)(w':World):Prop where
 tm:bF w' B tb vn ve vl vs vm L F S
 row:w'.ownsRow B1 36 2 v' out.length (aG out)
 some:v'.ownBlock≠none
 far:w.grownBy w' v.ownBlock
 moved:aX w v v'
structure mN(w:World)(B tb:Nat)(vn ve vl vs vm:Value)(L:List Nd)(F:List Nat)(S:List Int)(B1:Nat)(v:Value)(out:List Nd)(ex:Nat->List Nd)(nb N0:Nat)(pre:List Nat)(W:World):Prop where
 big:N0<=W.heap.size
 tm:bF W B tb vn ve vl vs vm L F S
 st:∃v',W.cell? ⟨nb,0,none⟩=some v'/\W.ownsRow B1 36 2 v' (out++(pre.map ex).flatten).length (aG (out++(pre.map ex).flatten))/\v'.ownBlock≠none/\aX w v v'/\v'.ownBlock≠some nb/\v'.ownBlock≠some w.heap.size/\(∀k,N0<=k+2->k<N0->v'.ownBlock≠some k)
 nf:W.frozen? ⟨nb,0,none⟩=false
 far:w.grownBy W v.ownBlock
 x0:W.cell? ⟨w.heap.size,0,none⟩=some (.pointer (some ⟨tb,0,none⟩))
theorem aJm{w':World}{B:Nat}{e:TypeId}{size:Nat}{v:Value}{n:Nat}{xs:List Value}{o:Option Nat}(h:w.ownsRow B e size v n xs)(hg:w.grownBy w' o)(ho:∀r,o=some r->∃x:Obj,w.heap[r]?=some x/\x.isCells=false):w'.ownsRow B e size v n xs:=cH h hg (xO h ho)
theorem mN.own{B tb:Nat}{vn ve vl vs vm:Value}{F:List Nat}{B1:Nat}{v:Value}{out:List Nd}{ex:Nat->List Nd}{nb N0 N:Nat}{C:List Nat}(hN:w.heap.size<=N):OwnFrom N (λ(pre:List (nW C)) W=>mN w B tb vn ve vl vs vm L F S B1 v out ex nb N0 (pre.map λx=>x.1) W):=by
 intro pre W W' row h hg hr;have hr':∀r,row=some r->∃o:Obj,W.heap[r]?=some o/\o.isCells=false:=λr e=>(hr r e).2
 obtain ⟨v',h1,h2,h3⟩:=h.st;exact ⟨zv h.big hg.size,h.tm.others hg hr',⟨v',cell_kept h1 hg hr',aJm h2 hg hr',h3⟩,(frozen_kept h1 hg hr').trans h.nf,nU h.far hg (λr e=>by have:=(hr r e).1;omega),cell_kept h.x0 hg hr'⟩
theorem aJn{G:Gr}{R:Nat->Nat->Prop}{rep:Nat->Nat}(hR:eK G R)(hN:dW G R)(hA:G.Arity)(hrep:∀i j,R i j->rep i=rep j){x:List Nat}{l:List Nd}(h:aL G R rep x l):∃ex:Nat->List Nd,(∀i∈x,aL G R rep [i] (ex i))/\(∀i∈x,(ex i).length<=l.length)/\(x.map ex).flatten=l:=by
 induction x generalizing l with
 | nil=>cases h;exact ⟨λ_=>[],by simp,by simp,rfl⟩
 | cons i r ih=>
  obtain ⟨l1,l2,rfl,h1,h2⟩:=h.split [i] r rfl;obtain ⟨ex,e1,e2,e3⟩:=ih h2;have key:∀j∈r,j=i->ex j=l1:=by rintro j hj rfl;exact (e1 j hj).one hR hN hA hrep _ h1
  refine ⟨λj=>if j=i then l1 else ex j,?_,?_,?_⟩
  ·intro j hj;by_cases e:j=i
   ·subst e;simpa using h1
   ·rcases List.mem_cons.1 hj with hj | hj
    ·exact absurd hj e
    ·simpa [e] using e1 j hj
  ·intro j hj;by_cases e:j=i
   ·subst e;simp
   ·rcases List.mem_cons.1 hj with hj | hj
    ·exact absurd hj e
    ·have:=e2 j hj;simp [e];omega
  ·rw [List.map_cons,List.flatten_cons,if_pos rfl,<-e3];congr 2
   apply List.map_congr_left;intro j hj;by_cases e:j=i
   ·rw [if_pos e,key j hj e]
   ·rw [if_neg e]
end
end Go.Proofs.YtcldkjcpofjmhaaGreatDoor
