import Derived.Test.YtcldkjcpofjmhaaGreatDoorXHp1F
import Derived.Test.YtcldkjcpofjmhaaGreatDoorVRes1F
open Array renaming getElem?_eq_some_iff→zz,getElem?_eq_getElem→zt,getElem_modify_self→zs,size_modify→zq
open List renaming mem_or_eq_of_mem_set→zx,getElem_mem→zu
open Nat renaming le_refl→zy,le_trans→zp
namespace Go.Proofs.YtcldkjcpofjmhaaGreatDoor
open _root_.Go.Proofs.Tryz renaming prog→zv
open World renaming alloc_heap_new→zw,cell?→zr
set_option maxHeartbeats 8000000
set_option maxRecDepth 100000
open Go.RowKit Go.Shelf Go.WideMaps
variable{big:Bool}{x:Cd}{T:List (aN×Value)}{L:List Cd}{ks:List Nat}{B b hp n sb:Nat}{ad:Option Addr}{v vk vs:Value}{W w w':World}
structure bI(B:Nat)(W:World)(sb hp:Nat)(v vs vk:Value)(L:List Cd)(n:Nat)(T:List (aN×Value))(ks:List Nat)(big:Bool):Prop where
 box:W.heap[sb]?=some (.cells #[.pointer (some ⟨hp,0,none⟩),.int .i64 (n:Nat),vs,vk,.bool big] 119 (0,0))
 heap:bY B W hp v L
 st:kJ B W vs T
 kp:dH B W vk ks
 cl:∀x∈L,bM B W (.slice x.ad x.ln x.cp) x.c/\x.ln=x.c.length
 base:B<=sb
theorem bI.cells(h:bI B W sb hp v vs vk L n T ks big) :
  W.cell? ⟨sb,0,none⟩=some (.pointer (some ⟨hp,0,none⟩))/\W.cell? ⟨sb,1,none⟩=some (.int .i64 (n:Nat))/\W.cell? ⟨sb,2,none⟩=some vs/\W.cell? ⟨sb,3,none⟩=some vk/\W.cell? ⟨sb,4,none⟩=some (.bool big):=by
 refine ⟨?_,?_,?_,?_,?_⟩ <;> simp [zr,h.box]
theorem bI.frz(h:bI B W sb hp v vs vk L n T ks big)(k:Nat):W.frozen? ⟨sb,k,none⟩=false:=by simp [World.frozen?,h.box]
theorem bI.below{W':World}(h:bI B W sb hp v vs vk L n T ks big)(hb:Below W.heap.size W W'):bI B W' sb hp v vs vk L n T ks big:=
 ⟨(hb.block _ (zz.1 h.box).1).trans h.box,h.heap.below hb,h.st.kept (S:=[]) (bV hb) (by simp) (by simp) (by simp),aU h.kp hb (zy _),λx hx=>⟨(h.cl x hx).1.below hb,(h.cl x hx).2⟩,h.base⟩
def oY(s:aN)(ad:Option Addr)(cp:Nat):Value:=.agg #[.int .i64 s.r,.int .i64 s.a,.int .i64 s.b,.int .i64 s.i,.int .i64 s.j,.slice ad s.c.length cp]
def iF(s:aN)(ad:Option Addr)(cp n:Nat):Cd:=⟨s.r,s.a,s.b,s.i,s.j,ad,s.c.length,cp,(aK s.c+s.c.length:Nat),(n:Nat),s.c⟩
theorem bM.rows{cp:Nat}{c:List Lt}(h:bM B w (.slice ad n cp) c)(hn:jH c):∃P:List (Lt×Value),P.map Prod.fst=c/\n=P.length/\P.length<=cp/\(∀k (h:k<P.length),∃g',ad=some ⟨g',0,none⟩/\w.cell? ⟨g',k*2,none⟩=some (.bool P[k].1.1)/\w.cell? ⟨g',k*2+1,none⟩=some P[k].2)/\∀p∈P,kC w p.2 p.1.2:=by
 obtain ⟨Q,q1,q2,q3,_⟩:=h;obtain ⟨a',cap',e,hc⟩:=qR q2;simp at e;obtain ⟨rfl,rfl,rfl⟩:=e;refine ⟨Q,q1,rfl,?_,hc,λq hq=>?_⟩
 ·obtain ⟨_,⟨e,e'⟩ | ⟨g,cap',cur,e,_,_,hh,_⟩⟩:=q2
  ·omega
  ·simp at e;omega
 ·obtain ⟨h1,h2,h3⟩:=hn.nodes (x:=q.1) (by rw [<-q1];simp;exact ⟨_,hq⟩);obtain ⟨aa,cpp,e,hx⟩:=rT (q3 q hq) (by omega) (λk hk=>by have:=h3 k hk;omega);exact ⟨aa,cpp,e,hx⟩
theorem aLh(B sb:Nat)(s:aN)(ad:Option Addr)(cp:Nat)(w:World)(hc:bM B w (.slice ad s.c.length cp) s.c)(hn:jH s.c)(hi:pW s.c=true) :
  Calls zv 63 #[.pointer (some ⟨sb,0,none⟩),oY s ad cp] w λe w'=>(∃u,e=.returned u)/\Below w.heap.size w w':=by
 have hb1:Below w.heap.size w (w.alloc (.cells #[.int .i64 s.r,.int .i64 s.a,.int .i64 s.b,.int .i64 s.i,.int .i64 s.j,.slice ad s.c.length cp] 71)):=(Below.refl _ w).alloc (zy _) _;obtain ⟨P,p1,p2,p3,p4,p5⟩:=(hc.below hb1).rows hn;have CI:=aA (aL9 ad cp P _ (by have:=hn.len;have:=congrArg List.length p1;simp at this;omega) p3 p4 p5);rw [<-p2,p1,hi] at CI;have HB1:=aA hb1;clear hc hn hi p1 p2 p3 p4 p5 hb1;unfold oY;go_enter Tryz.func63,Tryz.ntmps63;go_wp2_with (first
  | (go_at_call 93;refine (aB CI).mono ?_;rintro e w2 ⟨rfl,hb2⟩;have HB2:=aA (HB1.out.trans (hb2.mono (by simp)));clear hb2)
  | go_in)
 refine bodyPost_ret (results_none rfl _ _ _) rfl ?_;exact ⟨⟨_,rfl⟩,HB2.out⟩
def yB(sb hp n r:Nat)(s:aN)(ad:Option Addr)(cl cp:Nat)(w':World):Prop:=w'.cell? ⟨sb,0,none⟩=some (.pointer (some ⟨hp,0,none⟩))/\w'.cell? ⟨sb,1,none⟩=some (.int .i64 n)/\w'.cell? ⟨r,0,none⟩=some (.int .i64 s.r)/\w'.cell? ⟨r,1,none⟩=some (.int .i64 s.a)/\w'.cell? ⟨r,2,none⟩=some (.int .i64 s.b)/\w'.cell? ⟨r,3,none⟩=some (.int .i64 s.i)/\w'.cell? ⟨r,4,none⟩=some (.int .i64 s.j)/\w'.cell? ⟨r,5,none⟩=some (.slice ad cl cp)
theorem yB.of{r:Nat}{s:aN}{cl cp:Nat}(h:bI B w sb hp v vs vk L n T ks big)(hr:w.heap[r]?=some (.cells #[.int .i64 s.r,.int .i64 s.a,.int .i64 s.b,.int .i64 s.i,.int .i64 s.j,.slice ad cl cp] 71 (0,0))):yB sb hp n r s ad cl cp w:=by obtain ⟨c0,c1,_⟩:=h.cells;refine ⟨c0,c1,?_,?_,?_,?_,?_,?_⟩ <;> simp [zr,hr]
theorem bI.pushed{v':Value}(h:bI B w sb hp v vs vk L n T ks big)(hm:Mv [116,147] B w w'){L':List Cd}(hI:bY B w' hp v' L')(hcl:∀x∈L',bM B w (.slice x.ad x.ln x.cp) x.c/\x.ln=x.c.length):bI B w' sb hp v' vs vk L' n T ks big:=
 ⟨hm.cells h.box (by decide),hI,h.st.kept hm.kps (by decide) (by decide) (by decide),hm.row h.kp (by decide),λx hx=>⟨hm.clause (hcl x hx).1 (by decide) (by decide),(hcl x hx).2⟩,h.base⟩
theorem bI.counted{m:Nat}(h:bI B w sb hp v vs vk L n T ks big):bI B (w.setCell ⟨sb,1,none⟩ (.int .i64 (m:Nat))) sb hp v vs vk L m T ks big/\Mv [119] B w (w.setCell ⟨sb,1,none⟩ (.int .i64 (m:Nat))):=by have hlt:=(zz.1 h.box).1;have hm:Mv [119] B w (w.setCell ⟨sb,1,none⟩ (.int .i64 (m:Nat))):=Mv.of_grown (bR w ⟨sb,1,none⟩ _) (λk hk=>by cases hk;exact ⟨h.base,_,_,h.box,by simp⟩);refine ⟨⟨?_,⟨hm.cells h.heap.box (by decide),hm.row h.heap.row (by decide),h.heap.base⟩,h.st.kept hm.kps (by decide) (by decide) (by decide),hm.row h.kp (by decide),λx hx=>⟨hm.clause (h.cl x hx).1 (by decide) (by decide),(h.cl x hx).2⟩,h.base⟩,hm⟩;show (w.heap.modify sb _)[sb]?=_;rw [zt (by rw [zq];exact hlt),zs,(zz.1 h.box).2];rfl
theorem aE7:∀(f:Nat) (L:List Cd) (k:Nat) (x:Cd),x∈fH f L k->x∈L
 | 0,_,_,_,h=>h
 | f+1,L,k,x,h=>by
  unfold fH at h;split at h
  ·split at h
   ·have:=aE7 f _ _ x h;unfold nD at this;rcases zx this with h1 | rfl
    ·rcases zx h1 with h2 | rfl
     ·exact h2
     ·exact zu _
    ·exact zu _
   ·exact h
  ·exact h
theorem aLi(B sb hp:Nat)(v vs vk:Value)(L:List Cd)(n:Nat)(T:List (aN×Value))(ks:List Nat)(big:Bool)(s:aN)(ad:Option Addr)(cp:Nat)(w:World)(h:bI B w sb hp v vs vk L n T ks big)(hc:bM B w (.slice ad s.c.length cp) s.c)(hn:jH s.c)(hi:pW s.c=false)(hL:L.length<=1000000)(hnn:n<=1000000)(hB:B<=w.heap.size) :
  Calls zv 63 #[.pointer (some ⟨sb,0,none⟩),oY s ad cp] w λe w'=>(∃u,e=.returned u)/\∃v',bI B w' sb hp v' vs vk (fH L.length (L++[iF s ad cp n]) L.length) (n+1) T ks big/\Mv bT B w w':=by
 have hb1:Below w.heap.size w (w.alloc (.cells #[.int .i64 s.r,.int .i64 s.a,.int .i64 s.b,.int .i64 s.i,.int .i64 s.j,.slice ad s.c.length cp] 71)):=(Below.refl _ w).alloc (zy _) _;have hr1:(w.alloc (.cells #[.int .i64 s.r,.int .i64 s.a,.int .i64 s.b,.int .i64 s.i,.int .i64 s.j,.slice ad s.c.length cp] 71)).heap[w.heap.size]?=some (.cells #[.int .i64 s.r,.int .i64 s.a,.int .i64 s.b,.int .i64 s.i,.int .i64 s.j,.slice ad s.c.length cp] 71 (0,0)):=zw w _;obtain ⟨P,p1,p2,p3,p4,p5⟩:=(hc.below hb1).rows hn;have CI:=aA (aL9 ad cp P _ (by have:=hn.len;have:=congrArg List.length p1;simp at this;omega) p3 p4 p5);rw [<-p2,p1,hi] at CI;clear p1 p2 p3 p4 p5;have h1:=h.below hb1;have hc1:=hc.below hb1;have hcn:aK s.c<=100000:=by have:=vT (m:=60) (λx hx=>(hn.term x hx).2);have:=hn.len;omega
 have hcl:=hn.len;have HN:=aA hn;have HB1:=aA hb1;have H1:=aA h1;have HC1:=aA hc1;have HR1:=aA hr1;have HC:=aA hc;clear h hc hi h1 hc1 hn;unfold oY;go_enter Tryz.func63,Tryz.ntmps63;go_upto_region 2 with (first
  | (go_at_call 93;refine (aB CI).mono ?_;rintro e w2 ⟨rfl,hb2⟩;have HB2:=aA hb2;clear hb2)
  | go_in)
 have hr2:w2.heap[w.heap.size]?=some (.cells #[.int .i64 s.r,.int .i64 s.a,.int .i64 s.b,.int .i64 s.i,.int .i64 s.j,.slice ad s.c.length cp] 71 (0,0)):=(HB2.out.block _ (by simp)).trans HR1.out;have h2:=H1.out.below HB2.out;have hc2:=HC1.out.below HB2.out;have hbw:=HB1.out.trans (HB2.out.mono HB1.out.size);obtain ⟨a2,cap2,ea,_,L2,_⟩:=hc2.lits HN.out;cases ea;have HBW:=aA hbw;have H2:=aA h2;have HC2:=aA hc2;have HR2:=aA hr2;have q5:w2.cell? ⟨w.heap.size,5,none⟩=some (.slice ad s.c.length cp):=by simp [zr,hr2]
 have CN:=aA (λ(wx:World) (hwx:∃d,wx=w2.drewN d)=>(aCf ad cp s.c wx (by obtain ⟨d,rfl⟩:=hwx;exact L2.drewN d) (by omega)).mono (R':=λe w3=>e=.returned (.int .i64 (aK s.c))/\Below w2.heap.size w2 w3) (λe w3 he=>by
  obtain ⟨d,rfl⟩:=hwx;exact ⟨he.1,(aI ⟨d,rfl⟩).trans he.2⟩))
 clear hbw h2 hc2 hr2 L2 CI HB2 H1 HC1 HR1 hr1 hb1;generalize hcc:aK s.c=cc at *;generalize hll:s.c.length=cl at *;have HCC:=aA hcc;have HLL:=aA hll;clear hcc hll;have hww:IntKind.i64.wrap ((cc:Int)+(cl:Int))=((cc+cl:Nat):Int):=by rw [IntKind.wrap_i64];omega
 go_region_held3 (λw'=>w'.cell? ⟨w.heap.size,5,none⟩=some (.slice ad cl cp)) (go_keep)
  (first
   | (go_at_call 57;refine (aB CN _ (by first | exact ⟨0,rfl⟩ | exact ⟨1,rfl⟩ | exact ⟨_,rfl⟩)).mono ?_;rintro e w3 ⟨rfl,hb3⟩;have q6:=Below.at' hb3 (zy _) q5;have HB3:=aA hb3;clear hb3)
   | go_in)
 have h3:=H2.out.below HB3.out;have hr3:=(HB3.out.block w.heap.size (zz.1 HR2.out).1).trans HR2.out;have hS:=yB.of h3 hr3;have hS1:=hS;obtain ⟨s0,s1,s2,s3,s4,s5,s6,s7⟩:=hS;have hx:(iF s ad cp n).agg=.agg #[.int .i64 s.r,.int .i64 s.a,.int .i64 s.b,.int .i64 s.i,.int .i64 s.j,.slice ad cl cp,.int .i64 ((cc+cl:Nat):Int),.int .i64 (n:Nat)]:=by unfold iF Cd.agg;rw [HCC.out,HLL.out]
 have hbw3:=HBW.out.trans (HB3.out.mono HBW.out.size);have CP:=aA (λ(wx:World) (hwx:∃d,wx=w3.drewN d)=>(aYm B hp v L (iF s ad cp n) wx (by obtain ⟨d,rfl⟩:=hwx;exact h3.heap.below (aI ⟨d,rfl⟩)) hL (by obtain ⟨d,rfl⟩:=hwx;exact zp hB hbw3.size)).mono (R':=λe w4=>(∃u,e=.returned u)/\∃v',bI B w4 sb hp v' vs vk (fH L.length (L++[iF s ad cp n]) L.length) n T ks big/\Mv bT B w w4/\yB sb hp n w.heap.size s ad cl cp w4) (λe w4 he=>by
  obtain ⟨d,rfl⟩:=hwx;obtain ⟨hu,v',hI4,hm4⟩:=he;have hd:Below w3.heap.size w3 (w3.drewN d):=aI ⟨d,rfl⟩;have hS4:bI B w4 sb hp v' vs vk (fH L.length (L++[iF s ad cp n]) L.length) n T ks big:=(h3.below hd).pushed hm4 hI4 (λx hx=>by
   rcases List.mem_append.1 (aE7 _ _ _ _ hx) with hx | hx
   ·exact ⟨((h3.below hd).cl x hx).1,((h3.below hd).cl x hx).2⟩
   ·simp at hx;subst hx;refine ⟨?_,rfl⟩;show bM B _ (.slice ad s.c.length cp) s.c;rw [HLL.out];exact (HC.out.below hbw3).below hd)
  have hr4:=hm4.cells ((hd.block w.heap.size (zz.1 hr3).1).trans hr3) (by decide);have hW:=yB.of hS4 hr4;exact ⟨hu,v',hS4,(Mv.of_below hbw3).trans ((Mv.of_below hd).trans (hm4.mono (by decide) (zy _))),hW⟩))
 rw [hx] at CP;have hwn:wrap64 ((n:Int)+1)=((n+1:Nat):Int):=by unfold wrap64;omega
 have HWN:=aA hwn;clear hx h3 hr3 hS1 hbw3 q6 q5 CN HB3 H2 HR2 HBW HC2 HN hww hwn;go_wp2;go_region_held3 (λw'=>w'.cell? ⟨sb,0,none⟩=some (.pointer (some ⟨hp,0,none⟩))/\w'.cell? ⟨sb,1,none⟩=some (.int .i64 n)/\w'.cell? ⟨w.heap.size,0,none⟩=some (.int .i64 s.r)/\w'.cell? ⟨w.heap.size,1,none⟩=some (.int .i64 s.a)/\w'.cell? ⟨w.heap.size,2,none⟩=some (.int .i64 s.b)/\w'.cell? ⟨w.heap.size,3,none⟩=some (.int .i64 s.i)/\w'.cell? ⟨w.heap.size,4,none⟩=some (.int .i64 s.j)/\w'.cell? ⟨w.heap.size,5,none⟩=some (.slice ad cl cp)) (go_keep)
  (first
   | (go_at_call 94;refine (aB CP _ (by first | exact ⟨0,rfl⟩ | exact ⟨1,rfl⟩ | exact ⟨_,rfl⟩)).mono ?_;rintro e w4 ⟨⟨u,rfl⟩,v',hS4,hm4,hW4⟩;obtain ⟨k0,k1,k2,k3,k4,k5,k6,k7⟩:=hW4;have HS4:=aA hS4;have HM4:=aA hm4;clear hS4 hm4)
   | go_in)
 have fz:=HS4.out.frz;go_wp2;go_end0;have hfin:=HS4.out.counted (m:=n+1);exact ⟨⟨_,rfl⟩,v',hfin.1,HM4.out.trans (hfin.2.mono (by decide) (zy _))⟩
open Classical in
noncomputable def cD(c d:List Lt):Bool:=decide (c.length<=d.length/\Cov d c [])
open Classical in
theorem aLj{c d:List Lt}{r:Bool}(h:r=true↔c.length<=d.length/\Cov d c []):r=cD c d:=by
 unfold cD;by_cases hc:c.length<=d.length/\Cov d c []
 ·rw [decide_eq_true hc];exact h.2 hc
 ·rw [decide_eq_false hc];cases r
  ·rfl
  ·exact absurd (h.1 rfl) hc
def lA(c d:List Lt):Prop:=∀(B:Nat) (a1 a2:Option Addr) (c1 c2:Nat) (w:World),bM B w (.slice a1 c.length c1) c->bM B w (.slice a2 d.length c2) d->
 Calls zv 100 #[.slice a1 c.length c1,.slice a2 d.length c2] w λe w'=>e=.returned (.bool (cD c d))/\Below w.heap.size w w'
def aAp(b1 b2 sb gs n cap k:Nat)(ad ad2:Option Addr)(l1 c1 l2 c2:Nat)(w':World):Prop:=w'.cell? ⟨b1,0,none⟩=some (.pointer (some ⟨sb,0,none⟩))/\w'.cell? ⟨sb,2,none⟩=some (.slice (some ⟨gs,0,none⟩) n cap)/\w'.cell? ⟨gs,k*6+5,none⟩=some (.slice ad l1 c1)/\w'.cell? ⟨b2,0,none⟩=some (.slice ad2 l2 c2)
theorem aAp.below{b1 b2 gs cap k:Nat}{ad2:Option Addr}{l1 c1 l2 c2:Nat}(h:aAp b1 b2 sb gs n cap k ad ad2 l1 c1 l2 c2 w)(hb:Below w.heap.size w w'):aAp b1 b2 sb gs n cap k ad ad2 l1 c1 l2 c2 w':=by obtain ⟨h0,h1,h2,h3⟩:=h;exact ⟨Below.at' hb (zy _) h0,Below.at' hb (zy _) h1,Below.at' hb (zy _) h2,Below.at' hb (zy _) h3⟩
theorem aZk(B sb hp:Nat)(v vs vk:Value)(L:List Cd)(n:Nat)(T:List (aN×Value))(ks:List Nat)(big:Bool)(b1 b2 k:Nat)(vc:Value)(c:List Lt)(w:World)(h:bI B w sb hp v vs vk L n T ks big)(x1:Boxed w b1 88 (.pointer (some ⟨sb,0,none⟩)))(x2:Boxed w b2 22 vc)(hc:bM B w vc c)(hcv:lA (aQ T k) c)(hk:k<T.length) :
  Calls zv 121 #[.int .i64 (k:Nat),.pointer (some ⟨b1,0,none⟩),.pointer (some ⟨b2,0,none⟩)] w λe w'=>e=.returned (.bool (cD (aQ T k) c))/\Below w.heap.size w w':=by
 obtain ⟨gs,cap,ad,cp,rfl,heq,hsc,hsm⟩:=h.st.cell hk;clear heq;rw [<-uI hk] at hsc hsm;obtain ⟨ad2,cp2,rfl⟩:=hc.shape;obtain ⟨_,_,c2,_,_⟩:=h.cells;have hS:aAp b1 b2 sb gs T.length cap k ad ad2 (aQ T k).length cp c.length cp2 w:=⟨x1.cell,c2,hsc,x2.cell⟩;have CC:=aA (λ(wx:World) (hwx:∃d,wx=w.drewN d)=>(hcv B ad ad2 cp cp2 wx (by obtain ⟨d,rfl⟩:=hwx;exact hsm.below (aI ⟨d,rfl⟩)) (by obtain ⟨d,rfl⟩:=hwx;exact hc.below (aI ⟨d,rfl⟩))).mono (R':=λe w2=>e=.returned (.bool (cD (aQ T k) c))/\Below w.heap.size w w2) (λe w2 he=>by
  obtain ⟨d,rfl⟩:=hwx;exact ⟨he.1,(aI ⟨d,rfl⟩).trans he.2⟩))
 have HS:=aA hS;obtain ⟨s0,s1,s2,s3⟩:=hS;have hki:(k:Int)<(T.length:Int):=by omega
 have hkz:(0:Int)<=(k:Int):=by omega
 clear h x1 x2 hc hsc hsm c2 hk hcv;generalize (aQ T k).length=l1 at *;generalize c.length=l2 at *;generalize T.length=tn at *;generalize cD (aQ T k) c=q at *;go_enter Tryz.func121,Tryz.ntmps121;go_wp2;go_region_held3 (λw'=>w'.cell? ⟨b1,0,none⟩=some (.pointer (some ⟨sb,0,none⟩))/\w'.cell? ⟨sb,2,none⟩=some (.slice (some ⟨gs,0,none⟩) tn cap)/\w'.cell? ⟨gs,k*6+5,none⟩=some (.slice ad l1 cp)/\w'.cell? ⟨b2,0,none⟩=some (.slice ad2 l2 cp2)) (go_keep)
  (first
   | (go_at_call 100;refine (aB CC _ (by first | exact ⟨0,rfl⟩ | exact ⟨1,rfl⟩ | exact ⟨_,rfl⟩)).mono ?_;rintro e w2 ⟨rfl,hb2⟩;obtain ⟨k0,k1,k2,k3⟩:=HS.out.below hb2;have HB2:=aA hb2;clear hb2)
   | go_in)
 go_wp2;go_ret;exact ⟨rfl,HB2.out⟩
theorem aLk(B sb:Nat)(vs:Value)(T:List (aN×Value))(b1 b2 k:Nat)(s:aN)(ad2:Option Addr)(cp2:Nat)(w:World)(c2:w.cell? ⟨sb,2,none⟩=some vs)(st:kJ B w vs T)(x1:w.heap[b1]?=some (.cells #[.int .i64 s.r,.int .i64 s.a,.int .i64 s.b,.int .i64 s.i,.int .i64 s.j,.slice ad2 s.c.length cp2] 71 (0,0)))(x2:Boxed w b2 88 (.pointer (some ⟨sb,0,none⟩)))(hc:bM B w (.slice ad2 s.c.length cp2) s.c)(hcv:lA s.c (aQ T k))(hk:k<T.length) :
  Calls zv 99 #[.int .i64 (k:Nat),.pointer (some ⟨b1,0,none⟩),.pointer (some ⟨b2,0,none⟩)] w λe w'=>e=.returned (.bool (cD s.c (aQ T k)))/\Below w.heap.size w w':=by
 obtain ⟨gs,cap,ad,cp,rfl,heq,hsc,hsm⟩:=st.cell hk;clear heq;rw [<-uI hk] at hsc hsm;have hb5:w.cell? ⟨b1,5,none⟩=some (.slice ad2 s.c.length cp2):=by simp [zr,x1]
 have CC:=aA (λ(wx:World) (hwx:∃d,wx=w.drewN d)=>(hcv B ad2 ad cp2 cp wx (by obtain ⟨d,rfl⟩:=hwx;exact hc.below (aI ⟨d,rfl⟩)) (by obtain ⟨d,rfl⟩:=hwx;exact hsm.below (aI ⟨d,rfl⟩))).mono (R':=λe w2=>e=.returned (.bool (cD s.c (aQ T k)))/\Below w.heap.size w w2) (λe w2 he=>by
  obtain ⟨d,rfl⟩:=hwx;exact ⟨he.1,(aI ⟨d,rfl⟩).trans he.2⟩))
 have s0:=x2.cell;have s1:=c2;have s2:=hsc;have s3:=hb5;have hki:(k:Int)<(T.length:Int):=by omega
 have hkz:(0:Int)<=(k:Int):=by omega
 clear st x1 x2 hc hsc hsm c2 hk hb5 hcv;generalize (aQ T k).length=l1 at *;generalize s.c.length=l2 at *;generalize T.length=tn at *;generalize cD s.c (aQ T k)=q at *;go_enter Tryz.func99,Tryz.ntmps99;go_wp2;go_region_held3 (λw'=>w'.cell? ⟨b2,0,none⟩=some (.pointer (some ⟨sb,0,none⟩))/\w'.cell? ⟨sb,2,none⟩=some (.slice (some ⟨gs,0,none⟩) tn cap)/\w'.cell? ⟨gs,k*6+5,none⟩=some (.slice ad l1 cp)/\w'.cell? ⟨b1,5,none⟩=some (.slice ad2 l2 cp2)) (go_keep)
  (first
   | (go_at_call 100;refine (aB CC _ (by first | exact ⟨0,rfl⟩ | exact ⟨1,rfl⟩ | exact ⟨_,rfl⟩)).mono ?_;rintro e w2 ⟨rfl,hb2⟩;have k0:=Below.at' hb2 (zy _) s0;have k1:=Below.at' hb2 (zy _) s1;have k2:=Below.at' hb2 (zy _) s2;have k3:=Below.at' hb2 (zy _) s3;have HB2:=aA hb2;clear hb2)
   | go_in)
 go_wp2;go_ret;exact ⟨rfl,HB2.out⟩
theorem aZl(B sb hp:Nat)(v vs vk:Value)(L:List Cd)(n:Nat)(T:List (aN×Value))(ks:List Nat)(big:Bool)(ad:Option Addr)(cp:Nat)(c:List Lt)(w:World)(h:bI B w sb hp v vs vk L n T ks big)(hc:bM B w (.slice ad c.length cp) c)(hcv:∀k∈ks,lA (aQ T k) c)(hks:∀k∈ks,k<T.length)(hl:ks.length<=1000000) :
  Calls zv 96 #[.pointer (some ⟨sb,0,none⟩),.slice ad c.length cp] w λe w'=>e=.returned (.bool (ks.any λk=>cD (aQ T k) c))/\Below w.heap.size w w':=by
 obtain ⟨ka,kc,rfl⟩:=h.kp.shape;have hb1:Below w.heap.size w ((w.alloc (.cells #[.pointer (some ⟨sb,0,none⟩)] 88)).alloc (.cells #[.slice ad c.length cp] 22)):=((Below.refl _ w).alloc (zy _) _).alloc (by simp) _;have hx1:Boxed ((w.alloc (.cells #[.pointer (some ⟨sb,0,none⟩)] 88)).alloc (.cells #[.slice ad c.length cp] 22)) w.heap.size 88 (.pointer (some ⟨sb,0,none⟩)):=(Below.heap_alloc _ _ _ (by simp)).trans (zw w _);have hx2:Boxed ((w.alloc (.cells #[.pointer (some ⟨sb,0,none⟩)] 88)).alloc (.cells #[.slice ad c.length cp] 22)) (w.heap.size+1) 22 (.slice ad c.length cp):=by have:=zw (w.alloc (.cells #[.pointer (some ⟨sb,0,none⟩)] 88)) (.cells #[.slice ad c.length cp] 22);rwa [World.size_alloc] at this
 have h1:=h.below hb1;have CC:=aA (aOc B w.heap.size (w.heap.size+1) (λk=>cD (aQ T k) c) ka kc ks _ h1.kp hl (λk hk wx hwx=>aZk B sb hp v vs _ L n T ks big w.heap.size (w.heap.size+1) k (.slice ad c.length cp) c wx (h1.below hwx) ((bV (S:=bT) hwx).boxed hx1 (by decide)) ((bV (S:=bT) hwx).boxed hx2 (by decide)) ((hc.below hb1).below hwx) (hcv k hk) (hks k hk)));obtain ⟨_,_,_,c3,_⟩:=h1.cells;have HB1:=aA hb1;clear h hc h1 hx1 hx2 hb1 hks hcv;go_enter Tryz.func96,Tryz.ntmps96;go_wp2_with (first
  | (go_at_call 120;refine (aB CC).mono ?_;rintro e w2 ⟨rfl,hb2⟩;have HB2:=aA (HB1.out.trans (hb2.mono (by have:=HB1.out.size;simpa using this)));clear hb2)
  | go_in)
 go_ret;exact ⟨rfl,HB2.out⟩
theorem aLl:∀(f:Nat) (L:List Cd) (k:Nat) (x:Cd),x∈kZ f L k->x∈L
 | 0,_,_,_,h=>h
 | f+1,L,k,x,h=>by
  unfold kZ at h;split at h
  ·have:=aLl f _ _ x h;unfold nD at this;rcases zx this with h1 | rfl
   ·rcases zx h1 with h2 | rfl
    ·exact h2
    ·exact zu _
   ·exact zu _
  ·exact h
theorem yC(h:x∈jM L):x∈L:=by
 unfold jM at h;cases hl:L.getLast? with
 | none=>rw [hl] at h;simp at h
 | some y=>
  rw [hl] at h;have h1:=List.mem_of_mem_take (aLl _ _ _ _ h);rcases zx h1 with h2 | rfl
  ·exact h2
  ·exact List.mem_of_getLast? hl
theorem aZm(L:List Cd):(jM L).length=L.length-1:=by
 unfold jM;cases hl:L.getLast? with
 | none=>rw [List.getLast?_eq_none_iff.1 hl];rfl
 | some y=>simp only;rw [aL5];simp
def jB(cov:List Lt->Bool):Nat->List Cd->Option (Cd×List Cd)
 | 0,_=>none
 | f+1,L=>match L with
  | []=>none
  | x :: r=>if cov x.c then jB cov f (jM (x :: r)) else some (x,jM (x :: r))
def aAq(w:World)(hp:Nat):Nat:=match w.cell? ⟨hp,0,none⟩ with | some (.slice _ n _)=>n | _=>0
theorem bY.len(h:bY B w hp v L):aAq w hp=L.length:=by obtain ⟨a,c,rfl⟩:=aS h.row;unfold aAq;rw [h.c0.1]
def sY(x:Cd):Value:=.agg #[.int .i64 x.r,.int .i64 x.a,.int .i64 x.b,.int .i64 x.i,.int .i64 x.j,.slice x.ad x.ln x.cp]
def aZn(B:Nat)(w:World)(sb hp:Nat)(vs vk:Value)(L:List Cd)(n:Nat)(T:List (aN×Value))(ks:List Nat)(big:Bool)(e:Ending)(w':World):Prop:=
 ∃v',Mv bT B w w'/\((jB (λc=>ks.any λk=>cD (aQ T k) c) L.length L=none/\e=.returned (.tuple #[sY gY,.bool false])/\bI B w' sb hp v' vs vk [] n T ks big)\/
  ∃x L',jB (λc=>ks.any λk=>cD (aQ T k) c) L.length L=some (x,L')/\e=.returned (.tuple #[sY x,.bool true])/\bI B w' sb hp v' vs vk L' n T ks big/\bM B w' (.slice x.ad x.ln x.cp) x.c/\x.ln=x.c.length)
def S6(w:World)(b:Nat)(x:Cd):Prop:=w.heap[b]?=some (.cells #[.int .i64 x.r,.int .i64 x.a,.int .i64 x.b,.int .i64 x.i,.int .i64 x.j,.slice x.ad x.ln x.cp] 71 (0,0))
def uM(w:World)(b:Nat)(x:Cd):World:=((((((w.setCell ⟨b,0,none⟩ (.int .i64 x.r)).setCell ⟨b,1,none⟩ (.int .i64 x.a)).setCell ⟨b,2,none⟩ (.int .i64 x.b)).setCell ⟨b,3,none⟩ (.int .i64 x.i)).setCell ⟨b,4,none⟩ (.int .i64 x.j)).setCell ⟨b,5,none⟩ (.slice x.ad x.ln x.cp))
theorem S6.cells(h:S6 w b x):w.cell? ⟨b,0,none⟩=some (.int .i64 x.r)/\w.cell? ⟨b,1,none⟩=some (.int .i64 x.a)/\w.cell? ⟨b,2,none⟩=some (.int .i64 x.b)/\w.cell? ⟨b,3,none⟩=some (.int .i64 x.i)/\w.cell? ⟨b,4,none⟩=some (.int .i64 x.j)/\w.cell? ⟨b,5,none⟩=some (.slice x.ad x.ln x.cp):=by refine ⟨?_,?_,?_,?_,?_,?_⟩ <;> simp [zr,show w.heap[b]?=_ from h]
theorem S6.frz(h:S6 w b x)(k:Nat):w.frozen? ⟨b,k,none⟩=false:=by simp [World.frozen?,show w.heap[b]?=_ from h]
theorem S6.below(h:S6 w b x)(hb:Below w.heap.size w w'):S6 w' b x:=(hb.block b (zz.1 h).1).trans h
theorem S6.put{y:Cd}(h:S6 w b x):S6 (uM w b y) b y/\w.grownBy (uM w b y) (some b):=by
 have hs:∀(u:World) (cs:Array Value) (k:Nat) (v:Value),u.heap[b]?=some (.cells cs 71 (0,0))->(u.setCell ⟨b,k,none⟩ v).heap[b]?=some (.cells (cs.setIfInBounds k v) 71 (0,0)):=λu cs k v hu=>by
  have hlt:=(zz.1 hu).1;show (u.heap.modify b _)[b]?=_;rw [zt (by rw [zq];exact hlt),zs,(zz.1 hu).2];rfl
 constructor
 ·unfold S6 uM;rw [hs _ _ 5 _ (hs _ _ 4 _ (hs _ _ 3 _ (hs _ _ 2 _ (hs _ _ 1 _ (hs _ _ 0 _ h)))))];simp
 ·unfold uM;have h:∀(u:World) (k:Nat) (v:Value),w.grownBy u (some b)->w.grownBy (u.setCell ⟨b,k,none⟩ v) (some b):=λu k v hu=>kA hu (bR u ⟨b,k,none⟩ v)
  exact h _ _ _ (h _ _ _ (h _ _ _ (h _ _ _ (h _ _ _ (h _ _ _ ⟨rfl,rfl,rfl,zy _,λ_ _ _=>rfl⟩)))))
theorem Mv.newput{S:List TypeId}{w3 w4:World}{r:Nat}(h:Mv S B w w3)(hg:w3.grownBy w4 (some r))(hr:w.heap.size<=r):Mv S B w w4:=
 ⟨hg.os.trans h.os,hg.tape.trans h.tape,hg.output.trans h.output,zp h.size hg.size,λk o hk ho=>by
  have hlt:=(zz.1 hk).1;exact (hg.block k (Nat.lt_of_lt_of_le hlt h.size) (by simp;omega)).trans (h.keep k o hk ho)⟩
theorem bI.other{r:Nat}(h:bI B w sb hp v vs vk L n T ks big)(hg:w.grownBy w' (some r))(hr:S6 w r x)(hne:vs.ownBlock≠some r):bI B w' sb hp v vs vk L n T ks big:=by have hm:Mv [71] 0 w w':=Mv.of_grown hg (λk hk=>by cases hk;exact ⟨Nat.zero_le _,_,_,hr,by simp⟩);exact ⟨hm.cells h.box (by decide),⟨hm.cells h.heap.box (by decide),hm.row h.heap.row (by decide),h.heap.base⟩,⟨cH h.st.row hg (Or.inr hne),λp hp=>hm.clause (h.st.cl p hp) (by decide) (by decide)⟩,hm.row h.kp (by decide),λx hx=>⟨hm.clause (h.cl x hx).1 (by decide) (by decide),(h.cl x hx).2⟩,h.base⟩
theorem aZo(B sb hp:Nat)(v vs vk:Value)(L:List Cd)(n:Nat)(T:List (aN×Value))(ks:List Nat)(big:Bool)(w:World)(h:bI B w sb hp v vs vk L n T ks big)(hcv:∀x∈L,∀k∈ks,lA (aQ T k) x.c)(hks:∀k∈ks,k<T.length)(hl:ks.length<=1000000)(hL:L.length<=1000000)(hB:B<=w.heap.size) :
  Calls zv 64 #[.pointer (some ⟨sb,0,none⟩)] w λe w'=>aZn B w sb hp vs vk L n T ks big e w':=by
 have HH:=aA h;have HKS:=aA hks;have HIL:=aA hcv;clear h hks hcv;go_enter Tryz.func64,Tryz.ntmps64;go_wp2;go_loopw [] (λwr=>∃(f:Nat) (M:List Cd) (v':Value),bI B wr sb hp v' vs vk M n T ks big/\M.length<=f/\M.length<=L.length/\(∀x∈M,x∈L)/\jB (λc=>ks.any λk=>cD (aQ T k) c) f M=jB (λc=>ks.any λk=>cD (aQ T k) c) L.length L/\Mv bT B w wr/\w.heap.size<wr.heap.size/\S6 wr w.heap.size gY) (λwr=>aAq wr hp);case atStart=>
  have hb:Below w.heap.size w (w.alloc (.cells #[.int .i64 0,.int .i64 0,.int .i64 0,.int .i64 0,.int .i64 0,.slice none 0 0] 71)):=(Below.refl _ w).alloc (zy _) _;exact ⟨L.length,L,v,HH.out.below hb,zy _,zy _,λ_ hx=>hx,rfl,Mv.of_below hb,by simp,zw w _⟩
 case round=>
  obtain ⟨f,M,v',hI,hf,hML,hsub,hnx,hm,hsz,hbx⟩:=hrel;obtain ⟨c0,_,_,_,_⟩:=hI.cells;have hvs:vs.ownBlock≠some w.heap.size:=λe=>by have:=(aT HH.out.st.row _ e).2;omega
  cases M with
  | nil=>
   have CP:=aA (aYo B hp v' wr hI.heap);unfold Cd.agg gY at CP;have HI:=aA hI;have HM:=aA hm;have hnone:jB (λc=>ks.any λk=>cD (aQ T k) c) L.length L=none:=by rw [<-hnx];cases f <;> rfl
   have HNX:=aA hnone;have HBX:=aA hbx;clear hI hm hnx hsub hbx hnone;simp only at CP;go_wp2_with (first
    | (go_at_call 95;refine (aB CP).mono ?_;rintro e w2 ⟨rfl,hb2⟩;have HA:=aA (λo=>HBX.out.below (hb2.alloc hb2.size o));obtain ⟨q0,q1,q2,q3,q4,q5⟩ : (∀o,(w2.alloc o).cell? ⟨w.heap.size,0,none⟩=some (.int .i64 0))/\(∀o,(w2.alloc o).cell? ⟨w.heap.size,1,none⟩=some (.int .i64 0))/\(∀o,(w2.alloc o).cell? ⟨w.heap.size,2,none⟩=some (.int .i64 0))/\(∀o,(w2.alloc o).cell? ⟨w.heap.size,3,none⟩=some (.int .i64 0))/\(∀o,(w2.alloc o).cell? ⟨w.heap.size,4,none⟩=some (.int .i64 0))/\(∀o,(w2.alloc o).cell? ⟨w.heap.size,5,none⟩=some (.slice none 0 0)):=⟨λo=>(HA.out o).cells.1,λo=>(HA.out o).cells.2.1,λo=>(HA.out o).cells.2.2.1,λo=>(HA.out o).cells.2.2.2.1,λo=>(HA.out o).cells.2.2.2.2.1,λo=>(HA.out o).cells.2.2.2.2.2⟩;have qz:∀o k,(w2.alloc o).frozen? ⟨w.heap.size,k,none⟩=false:=(λo k=>(HA.out o).frz k);have HB2:=aA hb2;clear hb2)
    | go_in)
   have hA:=HA.out (.cells #[.int .i64 0,.int .i64 0,.int .i64 0,.int .i64 0,.int .i64 0,.slice none 0 0,.int .i64 0,.int .i64 0] 116);have hb3:Below wr.heap.size wr (w2.alloc (.cells #[.int .i64 0,.int .i64 0,.int .i64 0,.int .i64 0,.int .i64 0,.slice none 0 0,.int .i64 0,.int .i64 0] 116)):=HB2.out.alloc HB2.out.size _;obtain ⟨hp6,hg6⟩:=hA.put (y:=gY);obtain ⟨t0,t1,t2,t3,t4,t5⟩:=hp6.cells;refine bodyPost_ret (v:=.tuple #[sY gY,.bool false]) (w:=uM (w2.alloc (.cells #[.int .i64 0,.int .i64 0,.int .i64 0,.int .i64 0,.int .i64 0,.slice none 0 0,.int .i64 0,.int .i64 0] 116)) w.heap.size gY) (by simp [results,Tryz.results64,go_sem,t0,t1,t2,t3,t4,t5,sY];try rfl) rfl ?_;exact ⟨v',(HM.out.trans (Mv.of_below hb3)).newput hg6 (zy _),.inl ⟨HNX.out,rfl,(HI.out.below hb3).other hg6 hA hvs⟩⟩
  | cons x r=>
   have hx:∀k∈ks,lA (aQ T k) x.c:=HIL.out x (hsub x (by simp));have hxc:=hI.cl x (by simp);have hpl:=aZm (x :: r);have CP:=aA ((aYp B hp v' (x :: r) wr hI.heap (by simp) (by omega) (zp hB (Nat.le_of_lt hsz))).mono (R':=λe w2=>e=.returned (.tuple #[.agg #[.int .i64 x.r,.int .i64 x.a,.int .i64 x.b,.int .i64 x.i,.int .i64 x.j,.slice x.ad x.ln x.cp,.int .i64 x.wt,.int .i64 x.nm],.bool true])/\∃v2,bI B w2 sb hp v2 vs vk (jM (x :: r)) n T ks big/\Mv bT B wr w2/\bM B w2 (.slice x.ad x.ln x.cp) x.c/\S6 w2 w.heap.size gY) (λe w2 he=>by
    obtain ⟨h1,v2,h2,h3⟩:=he;exact ⟨h1,v2,hI.pushed h3 h2 (λy hy=>hI.cl y (yC hy)),h3.mono (by decide) (zy _),h3.clause hxc.1 (by decide) (by decide),h3.cells hbx (by decide)⟩))
   obtain ⟨f,rfl⟩ : ∃f',f=f'+1:=⟨f-1,by simp at hf;omega⟩;have hst:jB (λc=>ks.any λk=>cD (aQ T k) c) (f+1) (x :: r)=if (ks.any λk=>cD (aQ T k) x.c) then jB (λc=>ks.any λk=>cD (aQ T k) c) f (jM (x :: r)) else some (x,jM (x :: r)):=rfl
   rw [hst] at hnx;have hlen:aAq wr hp=(x :: r).length:=hI.heap.len;have hsub2:∀y∈jM (x :: r),y∈L:=λy hy=>hsub y (yC hy)
   have hlp:(jM (x :: r)).length<=f:=by rw [hpl];simp at hf ⊢;exact hf
   have hlp2:(jM (x :: r)).length<=L.length:=by rw [hpl];simp at hML ⊢;omega
   have hlp3:(jM (x :: r)).length<(x :: r).length:=by rw [hpl];simp
   generalize hpp:jM (x :: r)=M' at *;generalize hmm:(x :: r).length=ml at *;have HM:=aA hm;have HNX:=aA hnx;have HS2:=aA hsub2;have HLN:=aA hlen;have HXL:=aA hxc.2;have HX:=aA hx;clear hI hm hnx hsub hbx hst hpl hpp hmm hsub2 hx hxc hlen;have CC:=aA (λ(w2:World) (v2:Value) (hS:bI B w2 sb hp v2 vs vk M' n T ks big) (hc:bM B w2 (.slice x.ad x.ln x.cp) x.c) (o:Obj)=>(show Calls zv 96 #[.pointer (some ⟨sb,0,none⟩),.slice x.ad x.ln x.cp] (w2.alloc o) λe w'=>e=.returned (.bool (ks.any λk=>cD (aQ T k) x.c))/\Below (w2.alloc o).heap.size (w2.alloc o) w' from by
    have hbo:Below w2.heap.size w2 (w2.alloc o):=(Below.refl _ w2).alloc (zy _) o;have:=aZl B sb hp v2 vs vk M' n T ks big x.ad x.cp x.c (w2.alloc o) (hS.below hbo) (by rw [<-HXL.out];exact hc.below hbo) HX.out HKS.out hl;rw [<-HXL.out] at this;exact this))
   cases hcov:(ks.any λk=>cD (aQ T k) x.c)
   ·rw [hcov] at CC HNX;clear hcov;go_wp2_with (first
     | (go_at_call 96;refine (aB CC w2 v2 HSS.out HCL.out _).mono ?_;rintro e w3 ⟨rfl,hb3⟩;obtain ⟨p0,p1,p2,p3,p4,p5,_,_⟩:=((show iS (w2.alloc (.cells #[.int .i64 x.r,.int .i64 x.a,.int .i64 x.b,.int .i64 x.i,.int .i64 x.j,.slice x.ad x.ln x.cp,.int .i64 x.wt,.int .i64 x.nm] 116)) w2.heap.size x from zw w2 _).below hb3).cells;have hS6:=(HS6.out.below ((Below.refl _ w2).alloc (zy _) (.cells #[.int .i64 x.r,.int .i64 x.a,.int .i64 x.b,.int .i64 x.i,.int .i64 x.j,.slice x.ad x.ln x.cp,.int .i64 x.wt,.int .i64 x.nm] 116))).below hb3;obtain ⟨q0,q1,q2,q3,q4,q5⟩:=hS6.cells;have qz:=hS6.frz;have HA:=aA hS6;have HB3:=aA hb3;clear hb3 hS6)
     | (go_at_call 95;refine (aB CP).mono ?_;rintro e w2 ⟨rfl,v2,hS2,hm2,hc2,h62⟩;have HSS:=aA hS2;have HCL:=aA hc2;have HS6:=aA h62;have HM2:=aA (HM.out.trans hm2);clear hS2 hc2 h62 hm2)
     | go_in)
    have hb4:Below w2.heap.size w2 w3:=((Below.refl _ w2).alloc (zy _) (.cells #[.int .i64 x.r,.int .i64 x.a,.int .i64 x.b,.int .i64 x.i,.int .i64 x.j,.slice x.ad x.ln x.cp,.int .i64 x.wt,.int .i64 x.nm] 116)).trans (HB3.out.mono (by simp));obtain ⟨hp6,hg6⟩:=HA.out.put (y:=x);obtain ⟨t0,t1,t2,t3,t4,t5⟩:=hp6.cells;refine bodyPost_ret (v:=.tuple #[sY x,.bool true]) (w:=uM w3 w.heap.size x) (by simp [results,Tryz.results64,go_sem,t0,t1,t2,t3,t4,t5,sY];try rfl) rfl ?_;have hm6:Mv [71] 0 w3 (uM w3 w.heap.size x):=Mv.of_grown hg6 (λk hk=>by cases hk;exact ⟨Nat.zero_le _,_,_,HA.out,by simp⟩);exact ⟨v2,(HM2.out.trans (Mv.of_below hb4)).newput hg6 (zy _),.inr ⟨x,M',by have:=HNX.out;simpa using this.symm,rfl,(HSS.out.below hb4).other hg6 HA.out hvs,hm6.clause (HCL.out.below hb4) (by decide) (by decide),HXL.out⟩⟩
   ·rw [hcov] at CC HNX;clear hcov;go_wp2_with (first
     | (go_at_call 96;refine (aB CC w2 v2 HSS.out HCL.out _).mono ?_;rintro e w3 ⟨rfl,hb3⟩;have HB3:=aA hb3;clear hb3)
     | (go_at_call 95;refine (aB CP).mono ?_;rintro e w2 ⟨rfl,v2,hS2,hm2,hc2,h62⟩;have HSS:=aA hS2;have HCL:=aA hc2;have HS6:=aA h62;have HM2:=aA (HM.out.trans hm2);clear hS2 hc2 h62 hm2)
     | go_in)
    have hb4:Below w2.heap.size w2 w3:=((Below.refl _ w2).alloc (zy _) (.cells #[.int .i64 x.r,.int .i64 x.a,.int .i64 x.b,.int .i64 x.i,.int .i64 x.j,.slice x.ad x.ln x.cp,.int .i64 x.wt,.int .i64 x.nm] 116)).trans (HB3.out.mono (by simp));have hs4:=hb4.size;have hs5:=HM2.out.size;have hs6:=(zz.1 HS6.out).1;exact ⟨⟨f,M',v2,HSS.out.below hb4,hlp,hlp2,HS2.out,by have:=HNX.out;simpa using this,HM2.out.trans (Mv.of_below hb4),by omega,HS6.out.below hb4⟩,by rw [(HSS.out.below hb4).heap.len,HLN.out];exact hlp3⟩
end Go.Proofs.YtcldkjcpofjmhaaGreatDoor
