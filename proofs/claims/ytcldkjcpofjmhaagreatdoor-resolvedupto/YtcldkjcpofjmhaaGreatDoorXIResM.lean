import Derived.Test.YtcldkjcpofjmhaaGreatDoorVRes1M
open Array renaming getElem?_eq_some_iff→zy
open List renaming getElem?_append_left→zs,getElem?_eq_some_iff→zr,getElem_mem→zq,flatMap_append→zo,append_assoc→zm
open Nat renaming le_refl→zz,le_trans→zx
namespace Go.Proofs.YtcldkjcpofjmhaaGreatDoor
open Calls renaming quiet_of_same→zw
open _root_.Go.Proofs.Tryz renaming ntmps22→zv,func22→zu,ntmps36→zn,prog→zl,func36→zk
open Value renaming slice→zt
set_option maxHeartbeats 8000000
set_option maxRecDepth 100000
open Go.RowKit Go.Shelf Go.WideMaps
def aAd(c d:List Lt)(i j:Int)(a b:Nat):Prop:=∃(ha:a<c.length) (hb:b<d.length),i=a/\j=b/\c[a].1≠d[b].1
def jP(c d:List Lt)(i j:Int)(out:List Lt)(yes:Bool)(e:Int):Prop:=
 (¬(dB c=true/\dB d=true)/\out=[]/\yes=false/\e=5)\/
 (dB c=true/\dB d=true/\(((¬∃a b,aAd c d i j a b)/\out=[]/\yes=false/\e=6)\/
  ∃a b,aAd c d i j a b/\gI (aM 0 (c.getD a default).2++aM 1 (d.getD b default).2) 0 (c.getD a default).2.length (bI 0 [(c,a),(d,b)]) out yes e))
theorem jP.one{c d:List Lt}{i j:Int}{o o':List Lt}{y y':Bool}{e e':Int}(h:jP c d i j o y e)(h':jP c d i j o' y' e'):o=o'/\y=y'/\e=e':=by
 rcases h with ⟨h1,rfl,rfl,rfl⟩ | ⟨h1,h2,h⟩
 ·rcases h' with ⟨_,rfl,rfl,rfl⟩ | ⟨h3,h4,_⟩
  ·exact ⟨rfl,rfl,rfl⟩
  ·exact absurd ⟨h3,h4⟩ h1
 ·rcases h' with ⟨h3,_⟩ | ⟨_,_,h'⟩
  ·exact absurd ⟨h1,h2⟩ h3
  ·rcases h with ⟨h3,rfl,rfl,rfl⟩ | ⟨a,b,hp,h⟩
   ·rcases h' with ⟨_,rfl,rfl,rfl⟩ | ⟨a,b,hp,_⟩
    ·exact ⟨rfl,rfl,rfl⟩
    ·exact absurd ⟨a,b,hp⟩ h3
   ·rcases h' with ⟨h3,_⟩ | ⟨a',b',hp',h'⟩
    ·exact absurd ⟨a,b,hp⟩ h3
    ·obtain ⟨_,_,p1,p2,_⟩:=hp;obtain ⟨_,_,q1,q2,_⟩:=hp';obtain rfl:a=a':=by omega
     obtain rfl:b=b':=by omega
     exact aD9 h h'
def pK(S:List Lt->Bool->Int->Prop)(w:World)(e:Ending)(w':World):Prop:=
 ∃v out yes er,e=.returned (.tuple #[v,.bool yes,.int .i64 er])/\S out yes er/\bM w.heap.size w' v out/\out.length<=100/\Below w.heap.size w w'
theorem pK.none{S:List Lt->Bool->Int->Prop}{w w':World}{er:Int}(h:S [] false er)(hb:Below w.heap.size w w'):pK S w (.returned (.tuple #[.slice none 0 0,.bool false,.int .i64 er])) w':=
 ⟨_,[],false,er,rfl,h,bM.nil _ _,by simp,hb⟩
theorem aKn(a:Option Addr)(n cp:Nat)(i:Int)(w:World):Calls zl 36 #[.slice a n cp,.int .i64 i] w λe w'=>e=.returned (.bool (decide (0<=i/\i<n)))/\w'=w:=by
 by_cases h0:0<=i
 ·by_cases h1:i<n
  ·have:decide (0<=i/\i<n)=true:=by simp [h0,h1]
   rw [this];go_enter zk,zn;go_wp2;go_ret;exact ⟨rfl,rfl⟩
  ·have:decide (0<=i/\i<n)=false:=by simp [h1]
   rw [this];go_enter zk,zn;go_wp2;go_ret;exact ⟨rfl,rfl⟩
 ·have:decide (0<=i/\i<n)=false:=by simp [h0]
  rw [this];go_enter zk,zn;go_wp2;go_ret;exact ⟨rfl,rfl⟩
theorem aXn(a1 a2:Option Addr)(c1 c2:Nat)(c d:List Lt)(i j:Int)(w:World)(h1:bD w a1 c)(h2:bD w a2 d)(hT:jY w) :
  Calls zl 22 #[.slice a1 c.length c1,.int .i64 i,.slice a2 d.length c2,.int .i64 j] w λe w'=>pK (jP c d i j) w e w':=by
 have CI1:=aA (aHu a1 c1 c w h1 hT);have HT:=aA hT;have H1:=aA h1;have H2:=aA h2;clear h1 h2 hT;cases i1:dB c with
 | false=>
  have HR:Hid (jP c d i j [] false 5):=aA (Or.inl ⟨by simp [i1],rfl,rfl,rfl⟩);rw [i1] at CI1;clear i1;go_enter zu,zv;go_wp2_with (go_at_call 35;refine (aB CI1).mono ?_;rintro e w1 ⟨rfl,hb1⟩;have HB1:=aA hb1;clear hb1);go_returns;exact pK.none HR.out HB1.out
 | true=>
  rw [i1] at CI1;have CI2:=aA (λwx (hx:Below w.heap.size w wx)=>aHu a2 c2 d wx (H2.out.below hx (zz _)) (HT.out.below hx (zz _)));cases i2:dB d with
  | false=>
   have HR:Hid (jP c d i j [] false 5):=aA (Or.inl ⟨by simp [i2],rfl,rfl,rfl⟩);rw [i2] at CI2;clear i1 i2;go_enter zu,zv;go_wp2_with (first
    | (go_at_call 35;refine (aB CI2 _ HB1.out).mono ?_;rintro e w2 ⟨rfl,hb2⟩;have HB2:=aA (HB1.out.trans (hb2.mono hb1s));clear hb2)
    | (go_at_call 35;refine (aB CI1).mono ?_;rintro e w1 ⟨rfl,hb1⟩;have HB1:=aA hb1;have hb1s:=hb1.size;clear hb1))
   go_returns;exact pK.none HR.out HB2.out
  | true=>
   rw [i2] at CI2;have HI:=aA (And.intro i1 i2);have P1:=aA (λwx=>aKn a1 c.length c1 i wx);have P2:=aA (λwx=>aKn a2 d.length c2 j wx);have HBAD:Hid ((¬∃a b,aAd c d i j a b)->jP c d i j [] false 6):=aA λhn=>Or.inr ⟨i1,i2,Or.inl ⟨hn,rfl,rfl,rfl⟩⟩
   clear i1 i2;by_cases hi:0<=i/\i<c.length
   ·rw [decide_eq_true hi] at P1;obtain ⟨a,rfl⟩ : ∃a:Nat,i=a:=⟨i.toNat,by omega⟩;have ha:a<c.length:=by omega
    by_cases hj:0<=j/\j<d.length
    ·rw [decide_eq_true hj] at P2;obtain ⟨b,rfl⟩ : ∃b:Nat,j=b:=⟨j.toNat,by omega⟩;have hb:b<d.length:=by omega
     have hai:(a:Int)<(c.length:Int):=by omega
     have hbi:(b:Int)<(d.length:Int):=by omega
     have haz:(0:Int)<=(a:Int):=by omega
     have hbz:(0:Int)<=(b:Int):=by omega
     obtain ⟨b1,o1,aa,ac,rfl,e1,_,_⟩:=H1.out.cell a ha;obtain ⟨b2,o2,ba,bc,rfl,f1,_,_⟩:=H2.out.cell b hb;by_cases hs:c[a].1=d[b].1
     ·have HR:=aA (HBAD.out (λ⟨a',b',p1,p2,p3,p4,p5⟩=>by
       obtain rfl:a=a':=by omega
       obtain rfl:b=b':=by omega
       exact p5 hs))
      rw [hs] at e1;clear HBAD hi hj hs;go_enter zu,zv;go_upto_region 3 with (first
       | (go_at_call 35;refine (aB CI2 _ HB1.out).mono ?_;rintro e w2 ⟨rfl,hb2⟩;have HB2:=aA (HB1.out.trans (hb2.mono hb1s));clear hb2)
       | (go_at_call 35;refine (aB CI1).mono ?_;rintro e w1 ⟨rfl,hb1⟩;have HB1:=aA hb1;have hb1s:=hb1.size;clear hb1))
      have e2:=Below.at' HB2.out (zz _) e1;have f2:=Below.at' HB2.out (zz _) f1;go_quiet (first | (go_at_call_of 36 (zt (some ⟨b1,o1,none⟩) c.length c1);exact zw (aB P1 _)) | (go_at_call_of 36 (zt (some ⟨b2,o2,none⟩) d.length c2);exact zw (aB P2 _)));go_wp2;go_returns;exact pK.none HR.out (HB2.out.trans ((aJ ⟨_,rfl⟩).mono HB2.out.size))
     ·have hne:(c[a].1 == d[b].1)=false:=by simpa using hs
      have hcc:=oY HI.out.1;have hdd:=oY HI.out.2;have CR:=aA (λ(wx:World) (hx:Below w.heap.size w wx)=>aJx (some ⟨b1,o1,none⟩) (some ⟨b2,o2,none⟩) c1 c2 c d a b wx (H1.out.below hx (zz _)) (H2.out.below hx (zz _)) hcc.term hdd.term ha hb hcc.len hdd.len);have HR:Hid (∀v yes er w3 w4,Below w.heap.size w w3->xH w3 w3.heap.size (aM 0 c[a].2++aM 1 d[b].2) 0 c[a].2.length (bI 0 [(c,a),(d,b)]) v yes er w4->pK (jP c d a b) w (.returned (.tuple #[v,.bool yes,.int .i64 er])) w4):=aA λv yes er w3 w4 hx hC=>by
       obtain ⟨out,h1,h2,h3⟩:=(hC.lift hx).out;exact ⟨v,out,yes,er,rfl,Or.inr ⟨HI.out.1,HI.out.2,Or.inr ⟨a,b,⟨ha,hb,rfl,rfl,hs⟩,by simpa [ha,hb] using h1⟩⟩,h2,h3,(hC.lift hx).low⟩
      clear HBAD hi hj hcc hdd;obtain ⟨ca,hca⟩ : ∃x,c[a].1=x:=⟨_,rfl⟩;obtain ⟨db,hdb⟩ : ∃x,d[b].1=x:=⟨_,rfl⟩;rw [hca] at e1;rw [hdb] at f1;rw [hca,hdb] at hne;clear hca hdb hs;go_enter zu,zv;go_upto_region 3 with (first
       | (go_at_call 35;refine (aB CI2 _ HB1.out).mono ?_;rintro e w2 ⟨rfl,hb2⟩;have HB2:=aA (HB1.out.trans (hb2.mono hb1s));clear hb2)
       | (go_at_call 35;refine (aB CI1).mono ?_;rintro e w1 ⟨rfl,hb1⟩;have HB1:=aA hb1;have hb1s:=hb1.size;clear hb1))
      have e2:=Below.at' HB2.out (zz _) e1;have f2:=Below.at' HB2.out (zz _) f1;go_quiet (first | (go_at_call_of 36 (zt (some ⟨b1,o1,none⟩) c.length c1);exact zw (aB P1 _)) | (go_at_call_of 36 (zt (some ⟨b2,o2,none⟩) d.length c2);exact zw (aB P2 _)));have hd:Below w.heap.size w (w2.drewN nq):=HB2.out.trans ((aJ (w1:=w2.drewN nq) ⟨nq,rfl⟩).mono HB2.out.size);have CR2:=aA (CR.out _ hd);have HD:=aA hd;clear e1 f1 e2 f2 hd;go_wp2_with (first
       | (go_at_call 37;refine (aB CR2).mono ?_)
       | go_in)
      rintro e w4 ⟨v4,y4,r4,rfl,h4⟩;have H4:=aA (HR.out v4 y4 r4 _ w4 HD.out h4);clear h4;go_wp2;go_returns;exact H4.out
    ·rw [decide_eq_false hj] at P2;have HR:=aA (HBAD.out (λ⟨a',b',p1,p2,p3,p4,_⟩=>hj (by omega)));clear HBAD hi hj;go_enter zu,zv;go_upto_region 3 with (first
      | (go_at_call 35;refine (aB CI2 _ HB1.out).mono ?_;rintro e w2 ⟨rfl,hb2⟩;have HB2:=aA (HB1.out.trans (hb2.mono hb1s));clear hb2)
      | (go_at_call 35;refine (aB CI1).mono ?_;rintro e w1 ⟨rfl,hb1⟩;have HB1:=aA hb1;have hb1s:=hb1.size;clear hb1))
     go_quiet (first | (go_at_call_of 36 (zt a1 c.length c1);exact zw (aB P1 _)) | (go_at_call_of 36 (zt a2 d.length c2);exact zw (aB P2 _)));go_wp2;go_returns;exact pK.none HR.out (HB2.out.trans ((aJ ⟨_,rfl⟩).mono HB2.out.size))
   ·rw [decide_eq_false hi] at P1;have HR:=aA (HBAD.out (λ⟨a,b,p1,p2,p3,p4,_⟩=>hi (by omega)));clear HBAD hi;go_enter zu,zv;go_upto_region 3 with (first
     | (go_at_call 35;refine (aB CI2 _ HB1.out).mono ?_;rintro e w2 ⟨rfl,hb2⟩;have HB2:=aA (HB1.out.trans (hb2.mono hb1s));clear hb2)
     | (go_at_call 35;refine (aB CI1).mono ?_;rintro e w1 ⟨rfl,hb1⟩;have HB1:=aA hb1;have hb1s:=hb1.size;clear hb1))
    go_quiet ((go_at_call 36;exact zw (aB P1 _)));go_wp2;go_returns;exact pK.none HR.out (HB2.out.trans ((aJ ⟨_,rfl⟩).mono HB2.out.size))
theorem aKo(a1 a2:Option Addr)(c1 c2:Nat)(c d:List Lt)(i j:Int)(w:World)(h1:bD w a1 c)(h2:bD w a2 d)(hT:jY w) :
  Calls zl 10 #[.slice a1 c.length c1,.int .i64 i,.slice a2 d.length c2,.int .i64 j] w λe w'=>pK (jP c d i j) w e w':=by
 have C:=aA (aXn a1 a2 c1 c2 c d i j w h1 h2 hT);clear h1 h2 hT;go_enter Tryz.func10,Tryz.ntmps10;go_wp2_with (first
  | (go_at_call 22;refine (aB C).mono ?_;rintro e w1 ⟨v,out,yes,er,rfl,h1,h2,h3,h4⟩;have H1:=aA h1;have H2:=aA h2;have H3:=aA h3;have H4:=aA h4;clear h1 h2 h3 h4)
  | go_in)
 go_returns;exact ⟨_,out,yes,er,rfl,H1.out,H2.out,H3.out,H4.out⟩
attribute [local go_sem] Oper.semAt_some
noncomputable def jQ(T:List (aL×Value))(a:Nat)(os:List Nat):List (aL×Int):=sH (aP T a) a++os.flatMap λb=>jG (aP T a) a (aP T b) b
def sL(B:Nat)(W:World)(bx:Nat)(x:aL)(ad:Option Addr)(cp:Nat):Prop:=W.heap[bx]?=some (.cells #[.int .i64 x.r,.int .i64 x.a,.int .i64 x.b,.int .i64 x.i,.int .i64 x.j,.slice ad x.c.length cp] 71 (0,0))/\bM B W (.slice ad x.c.length cp) x.c
theorem sL.kept{B:Nat}{W W':World}{bx:Nat}{x:aL}{ad:Option Addr}{cp:Nat}(h:sL B W bx x ad cp)(k:dC bS W W'):sL B W' bx x ad cp:=⟨k.kc _ _ _ h.1 (by decide),k.clause h.2 (by decide) (by decide)⟩
theorem sL.cells{B:Nat}{W:World}{bx:Nat}{x:aL}{ad:Option Addr}{cp:Nat}(h:sL B W bx x ad cp):W.cell? ⟨bx,0,none⟩=some (.int .i64 x.r)/\W.cell? ⟨bx,1,none⟩=some (.int .i64 x.a)/\W.cell? ⟨bx,2,none⟩=some (.int .i64 x.b)/\W.cell? ⟨bx,3,none⟩=some (.int .i64 x.i)/\W.cell? ⟨bx,4,none⟩=some (.int .i64 x.j)/\W.cell? ⟨bx,5,none⟩=some (.slice ad x.c.length cp):=by refine ⟨?_,?_,?_,?_,?_,?_⟩ <;> simp [World.cell?,h.1]
theorem aKp{ms:List Nat}{w3 X Y:World}{row:Option Nat}(hm3:∀D∈ms,w3.heap[D]?=some (.deferred (some [])))(hg:X.grownBy Y row)(hr:∀r,row=some r->w3.heap.size<=r/\∃o:Obj,X.heap[r]?=some o/\o.isCells=false)(h:∀D∈ms,X.heap[D]?=some (.deferred (some []))):∀D∈ms,Y.heap[D]?=some (.deferred (some [])):=λD hD=>by
 refine (hg.block D (zy.1 (h D hD)).1 (λe=>?_)).trans (h D hD);have h1:=(hr D e.symm).1;have h2:=(zy.1 (hm3 D hD)).1;omega
theorem aXo(n bs ba bo B:Nat)(vs vo:Value)(T:List (aL×Value))(a:Nat)(os:List Nat)(hn:6<=n)(hT:∀p∈T,jE p.1.c)(ha:a<T.length)(ho:∀b∈os,b<T.length)(hol:os.length<=1000000)(W:World)(hB:B<=W.heap.size)(hW:qY B W bs ba bo vs vo T a os) :
  tD Fence.wide n zl 122 #[.pointer (some ⟨bs,0,none⟩),.pointer (some ⟨ba,0,none⟩),.pointer (some ⟨bo,0,none⟩)] (tT B) bS (jQ T a os) W:=by
 intro l J Jx hJ hJx hY h0;have HY:=aA hY;have HJ:=aA hJ;have HT:=aA hT;have HO:=aA ho;clear hY hJ hT ho;refine callsIn_of_wp_marks Tryz.func122 rfl trivial ?_ rfl;simp only [Tryz.ntmps122,List.size_toArray,List.length_cons,List.length_nil,Nat.reduceAdd,Nat.reduceSub,Array.replicate_succ,Array.replicate_zero,List.push_toArray,List.append_toArray,List.nil_append,List.cons_append];obtain ⟨sa,sc,rfl⟩:=aS hW.st.row;obtain ⟨oa,oc,rfl⟩:=aS hW.ot;have e1:=hW.x1.cell;have e2:=hW.x2.cell;have e1a:=λX=>Below.at' ((Below.refl W.heap.size W).alloc (zz _) X) (zz _) e1
 have e2a:=λX=>Below.at' ((Below.refl W.heap.size W).alloc (zz _) X) (zz _) e2
 have HW:=aA hW;clear hW e1 e2;gi_wp2
 clear e1a e2a;obtain ⟨W1,hW1,hb1,hy1,hs1⟩:=aDc W (.func (.yield l) #[] #[]) 171;simp only [hW1] at *;have hF1:=HW.out.kept (bU (S:=bS) hb1);refine ⟨trivial,λ_=>by omega,(callsIn_wide.2 (aWm B _ T a _ hF1.st ha)).mono ?_⟩;rintro e W3 ⟨bc,bf,v,rfl,hfac,hb3⟩;have hbb:Below W.heap.size W W3:=hb1.trans (hb3.mono hb1.size);have hyb:Boxed W3 W.heap.size 171 (.func (.yield l) #[] #[]):=(bU (S:=bS) hb3).boxed hy1 (by decide);have hF3:=HW.out.kept (bU (S:=bS) hbb);have hJ3:=oO HJ.out h0 hbb;clear hW1 hy1 hb1 hb3 h0 hF1;gi_wp2
 have hna:jE (aP T a):=by rw [tX ha];exact HT.out _ (zq ha)
 refine zB rfl (by omega) (gf:=135) (lb:=#[.pointer (some ⟨bc,0,none⟩),.pointer (some ⟨bf,0,none⟩)]) rfl trivial (enters_of Tryz.func135 (by kernel_rfl) rfl)
  (Enc:=tT B) (S:=bS) (L:=sH (aP T a) a)
  (λo o'=>aWj (n-1) bc bf B v (aP T a) a (by omega) hna _ (zx (zx hB hbb.size) (by simp;omega)) (hfac.kept (bU (((Below.refl _ W3).alloc (zz _) _).alloc (by simp) _))))
  (λx args W h=>by obtain ⟨ad,cp,rfl,_⟩:=h;rfl)
  (λk W'=>J k W'/\(qY B W' bs ba bo (.slice sa T.length sc) (.slice oa os.length oc) T a os/\Boxed W' W.heap.size 171 (.func (.yield l) #[] #[]))/\W3.heap.size<=W'.heap.size)
  (λcd _ W'=>cd=.ret/\∃k,Jx k W') ?hI ?hIx ?h0
  (λx a' W'=>∃bx ad cp,a' = {tmps:=#[.func (.yield l) #[] #[],.pointer (some ⟨bs,0,none⟩),.pointer (some ⟨ba,0,none⟩),.pointer (some ⟨bo,0,none⟩),.pointer (some ⟨W.heap.size,0,none⟩),.pointer (some ⟨bx,0,none⟩),.int .i64 x.2,undef,undef,undef,undef,.slice sa T.length sc,.int .i64 a,.func (.func 135) #[] #[.pointer (some ⟨bc,0,none⟩),.pointer (some ⟨bf,0,none⟩)],.agg #[.int .i64 x.1.r,.int .i64 x.1.a,.int .i64 x.1.b,.int .i64 x.1.i,.int .i64 x.1.j,.slice ad x.1.c.length cp],.int .i64 x.2,undef,undef,undef,undef,undef,undef,undef,undef,undef,undef,undef,undef,undef,undef,undef,undef,undef,undef,undef,undef,undef,undef,undef],defers:=[]}/\sL B W' bx x.1 ad cp) ?hAx ?assign ?body ?done ?stop
 case hI=>exact (rV HJ.out hbb.size).and ((tV (λ_ _ _ h k=>⟨h.1.kept k,k.boxed h.2 (by decide)⟩)).and (λ_ _ _ _ h hg _=>zx h hg.size))
 case hIx=>
  rintro cd s X Y row ⟨h1,k,h2⟩ hg hr;exact ⟨h1,k,rV hJx hbb.size k X Y row h2 hg hr⟩
 case h0=>exact ⟨hJ3,⟨hF3,hyb⟩,zz _⟩
 case hAx=>
  intro x a';refine tV ?_;rintro _ X Y ⟨bx,ad,cp,h1,h2⟩ k;exact ⟨bx,ad,cp,h1,h2.kept k⟩
 case assign=>
  rintro l2 k x args Wr K hx ⟨hJk,⟨hF,hy⟩,hsz⟩ ⟨ad,cp,rfl,hcl⟩ hK;have HC:=aA hcl;clear hcl;gi_wp2
  have hbA:Below Wr.heap.size Wr (Wr.alloc (.cells #[.int .i64 x.1.r,.int .i64 x.1.a,.int .i64 x.1.b,.int .i64 x.1.i,.int .i64 x.1.j,.slice ad x.1.c.length cp] 71)):=(Below.refl _ Wr).alloc (zz _) _;exact hK _ _ (Mv.of_below (S:=[]) (B:=0) hbA).keepsFrom (bU hbA) ⟨oO HJ.out hJk hbA,⟨hF.kept (bU hbA),(bU (S:=bS) hbA).boxed hy (by decide)⟩,zx hsz hbA.size⟩ ⟨Wr.heap.size,ad,cp,rfl,World.alloc_heap_new Wr _,HC.out.below hbA⟩
 case body=>
  rintro l2 k x a' Wr hl2 hx ⟨hJk,⟨hF,hy⟩,hsz⟩ ⟨bx,ad,cp,rfl,hbx⟩;obtain ⟨x0,x1,x2,x3,x4,x5⟩:=hbx.cells;have z1:=hy.cell;have hYY:=HY.out k x #[.agg #[.int .i64 x.1.r,.int .i64 x.1.a,.int .i64 x.1.b,.int .i64 x.1.i,.int .i64 x.1.j,.slice ad x.1.c.length cp],.int .i64 x.2] Wr (by unfold jQ;rw [zs (zr.1 hx).1];exact hx) hJk ⟨ad,cp,rfl,hbx.2⟩;obtain ⟨fn,tmps,assign,body,hyy,hR⟩:=hYY;have HF:=aA hF;have HYB:=aA hy;have HSZ:=aA hsz;clear hF hy hsz hbx hJk;gi_wp2
  refine ⟨λ_=>by omega,(vG hR).mono ?_⟩;rintro e W4 (⟨rfl,hJ4,hk4⟩ | ⟨rfl,hJx4,hk4⟩)
  ·gi_wp2
   exact ⟨jK hk4.2 hbb.size,hk4.1,hJ4,⟨HF.out.kept hk4.1,hk4.1.boxed HYB.out (by decide)⟩,zx HSZ.out hk4.1.size⟩
  ·gi_wp2
   exact ⟨jK hk4 hbb.size,rfl,_,hJx4⟩
 case stop=>
  rintro cd k Wd ⟨rfl,k',hJd⟩ hK;gi_wp2
  exact xL (N:=W.heap.size) (I:=λW'=>∃k,Jx k W') rfl (λ_ X Y row ⟨k,h⟩ hg hr=>⟨k,hJx k X Y row h hg hr⟩) (λv w h=>⟨⟨_,rfl⟩,.inr h⟩) [W3.heap.size] Wd ⟨k',hJd⟩ (λD hD=>by simp at hD;subst hD;exact ⟨hbb.size,hK⟩) (by simp)
 case done=>
  rintro Wd ⟨hJd,⟨hFd,hyd⟩,hsd⟩ hK;have z3:=hFd.x3.cell;gi_wp2
  clear z3;refine wpIn_loop (λa' w'=>∃(t:Nat) (ms:List Nat) (u8 u24 u25 u26 u27 u28 u29 u30 u38:Value),a' = {tmps:=#[.func (.yield l) #[] #[],.pointer (some ⟨bs,0,none⟩),.pointer (some ⟨ba,0,none⟩),.pointer (some ⟨bo,0,none⟩),.pointer (some ⟨W.heap.size,0,none⟩),undef,undef,undef,u8,undef,undef,.slice sa T.length sc,.int .i64 a,.func (.func 135) #[] #[.pointer (some ⟨bc,0,none⟩),.pointer (some ⟨bf,0,none⟩)],undef,undef,undef,undef,undef,undef,undef,.slice oa os.length oc,.int .i64 os.length,.int .i64 t,u24,u25,u26,u27,u28,u29,u30,undef,undef,undef,undef,undef,undef,undef,u38],defers:=ms.map λD=>{target:=.collected D,args:=#[]}}/\t<=os.length/\J (sH (aP T a) a++(os.take t).flatMap λb=>jG (aP T a) a (aP T b) b).length w'/\
    (qY B w' bs ba bo (.slice sa T.length sc) (.slice oa os.length oc) T a os/\Boxed w' W.heap.size 171 (.func (.yield l) #[] #[]))/\W3.heap.size<=w'.heap.size/\(∀D∈ms,W.heap.size<=D/\w'.heap[D]?=some (.deferred (some [])))/\ms.Nodup)
   (λa' _=>os.length-(intOf (a'.tmps.getD 23 undef)).toNat) ?start ?round
  case start=>exact ⟨0,[W3.heap.size],_,_,_,_,_,_,_,_,_,rfl,Nat.zero_le _,by simpa using hJd,⟨hFd,hyd⟩,hsd,λD hD=>by simp at hD;subst hD;exact ⟨hbb.size,hK⟩,by simp⟩
  case round=>
   clear hJd hFd hyd hsd hK hF3 hJ3 hyb hfac;rintro _ w' ⟨t,ms,u8,u24,u25,u26,u27,u28,u29,u30,u38,rfl,ht,hJt,⟨hF,hy⟩,hsz,hms,hnd⟩;by_cases hlt:t<os.length
   ·have hlti:(t:Int)<(os.length:Int):=by omega
    obtain ⟨b,hbe⟩ : ∃b,os[t]=b:=⟨_,rfl⟩;have hbT:b<T.length:=HO.out b (by rw [<-hbe];exact zq hlt);obtain ⟨go,rfl,hoc⟩ : ∃go,oa=some ⟨go,0,none⟩/\w'.cell? ⟨go,t,none⟩=some (.int .i64 b):=by
     obtain ⟨_,⟨_,e⟩ | ⟨go,cap',cur,e,_⟩⟩:=hF.ot
     ·omega
     ·simp at e;refine ⟨go,e.1,?_⟩;have:=hF.ot;rw [e.1] at this;rw [this.cellAt t (by simpa using hlt)];simp [hlt,hbe]
    have z1:=hF.x1.cell;have z2:=hF.x2.cell;have hnb:jE (aP T b):=by rw [tX hbT];exact HT.out _ (zq hbT)
    have htk:(os.take (t+1)).flatMap (λb=>jG (aP T a) a (aP T b) b)=(os.take t).flatMap (λb=>jG (aP T a) a (aP T b) b)++jG (aP T a) a (aP T b) b:=by rw [pI (List.getElem?_eq_getElem hlt),hbe,zo];simp
    have hix:∀k x,(jG (aP T a) a (aP T b) b)[k]?=some x->(jQ T a os)[(sH (aP T a) a++(os.take t).flatMap λb=>jG (aP T a) a (aP T b) b).length+k]?=some x:=by
     intro k x hx;have hos:os.flatMap (λb=>jG (aP T a) a (aP T b) b)=(os.take t).flatMap (λb=>jG (aP T a) a (aP T b) b)++(jG (aP T a) a (aP T b) b++(os.drop (t+1)).flatMap λb=>jG (aP T a) a (aP T b) b):=by
      conv=>lhs;rw [<-List.take_append_drop t os]
      rw [zo,List.drop_eq_getElem_cons hlt,hbe];simp
     unfold jQ;rw [hos,<-zm,List.getElem?_append_right (by omega),Nat.add_sub_cancel_left,zs (zr.1 hx).1];exact hx
    generalize hbase:(sH (aP T a) a++(os.take t).flatMap λb=>jG (aP T a) a (aP T b) b).length=base at *;have HTK:=aA htk;have HIX:=aA hix;have HBA:=aA hbase;have HF:=aA hF;have HYB:=aA hy;have HMS:=aA hms;have HJT:=aA hJt;clear htk hix hbase hms hJt hF hy;gi_wp2
    refine ⟨trivial,λ_=>by omega,(callsIn_wide.2 (aWn B _ T a b _ HF.out.st ha hbT)).mono ?_⟩;rintro e w3 ⟨bc',bd,ba',bb,v',u',rfl,hres,hb3⟩;have hF3:=HF.out.kept (bU (S:=bS) hb3);have hy3:=(bU (S:=bS) hb3).boxed HYB.out (by decide);have hJ3:=oO HJ.out HJT.out hb3;have hm3:∀D∈ms,w3.heap[D]?=some (.deferred (some [])):=λD hD=>(hb3.block D (zy.1 (HMS.out D hD).2).1).trans (HMS.out D hD).2
    have hs3:W3.heap.size<=w3.heap.size:=zx hsz hb3.size;have hW3':W.heap.size<=w3.heap.size:=zx hbb.size hs3;clear z1 z2 hoc;gi_wp2
    refine zB rfl (by omega) (gf:=137) (lb:=#[.pointer (some ⟨bc',0,none⟩),.pointer (some ⟨bd,0,none⟩),.pointer (some ⟨ba',0,none⟩),.pointer (some ⟨bb,0,none⟩)]) rfl trivial (enters_of Tryz.func137 (by kernel_rfl) rfl)
     (Enc:=tT B) (S:=bS) (L:=jG (aP T a) a (aP T b) b)
     (λo o'=>aWk (n-1) bc' bd ba' bb B v' u' (aP T a) (aP T b) a b (by omega) hna hnb _ (zx (zx hB hW3') (by simp;omega)) (hres.kept (bU (((Below.refl _ w3).alloc (zz _) _).alloc (by simp) _))))
     (λx args W h=>by obtain ⟨ad,cp,rfl,_⟩:=h;rfl)
     (λk W'=>J (base+k) W'/\(qY B W' bs ba bo (.slice sa T.length sc) (.slice (some ⟨go,0,none⟩) os.length oc) T a os/\Boxed W' W.heap.size 171 (.func (.yield l) #[] #[]))/\(w3.heap.size<=W'.heap.size/\∀D∈ms,W'.heap[D]?=some (.deferred (some []))))
     (λcd _ W'=>cd=.ret/\(∃k,Jx k W')/\∀D∈ms,W'.heap[D]?=some (.deferred (some []))) ?hI2 ?hIx2 ?h02
     (λx a' W'=>∃bx ad cp,a' = {tmps:=#[.func (.yield l) #[] #[],.pointer (some ⟨bs,0,none⟩),.pointer (some ⟨ba,0,none⟩),.pointer (some ⟨bo,0,none⟩),.pointer (some ⟨W.heap.size,0,none⟩),undef,undef,undef,.int .i64 b,.pointer (some ⟨bx,0,none⟩),.int .i64 x.2,.slice sa T.length sc,.int .i64 a,.func (.func 135) #[] #[.pointer (some ⟨bc,0,none⟩),.pointer (some ⟨bf,0,none⟩)],undef,undef,undef,undef,undef,undef,undef,.slice (some ⟨go,0,none⟩) os.length oc,.int .i64 os.length,.int .i64 t,.bool true,.pointer (some ⟨go,t,none⟩),.int .i64 b,.slice sa T.length sc,.int .i64 a,.int .i64 b,.func (.func 137) #[] #[.pointer (some ⟨bc',0,none⟩),.pointer (some ⟨bd,0,none⟩),.pointer (some ⟨ba',0,none⟩),.pointer (some ⟨bb,0,none⟩)],.agg #[.int .i64 x.1.r,.int .i64 x.1.a,.int .i64 x.1.b,.int .i64 x.1.i,.int .i64 x.1.j,.slice ad x.1.c.length cp],.int .i64 x.2,undef,undef,undef,undef,undef,u38],defers:=[]}/\sL B W' bx x.1 ad cp) ?hAx2 ?assign2 ?body2 ?done2 ?stop2
    case hI2=>
     refine (aDd HJ.out hW3' _).and ((tV (λ_ _ _ h k=>⟨h.1.kept k,k.boxed h.2 (by decide)⟩)).and ?_);rintro _ X Y row ⟨h1,h2⟩ hg hr;exact ⟨zx h1 hg.size,aKp hm3 hg hr h2⟩
    case hIx2=>
     rintro cd s X Y row ⟨h1,⟨k,h2⟩,h3⟩ hg hr;exact ⟨h1,⟨k,rV hJx hW3' k X Y row h2 hg hr⟩,aKp hm3 hg hr h3⟩
    case h02=>exact ⟨hJ3,⟨hF3,hy3⟩,zz _,hm3⟩
    case hAx2=>
     intro x a';refine tV ?_;rintro _ X Y ⟨bx,ad,cp,h1,h2⟩ k;exact ⟨bx,ad,cp,h1,h2.kept k⟩
    case assign2=>
     rintro l2 k x args Wr K hx ⟨hJk,⟨hF,hy⟩,hsz,hmk⟩ ⟨ad,cp,rfl,hcl⟩ hK;have HC:=aA hcl;clear hcl;gi_wp2
     have hbA:Below Wr.heap.size Wr (Wr.alloc (.cells #[.int .i64 x.1.r,.int .i64 x.1.a,.int .i64 x.1.b,.int .i64 x.1.i,.int .i64 x.1.j,.slice ad x.1.c.length cp] 71)):=(Below.refl _ Wr).alloc (zz _) _;exact hK _ _ (Mv.of_below (S:=[]) (B:=0) hbA).keepsFrom (bU hbA) ⟨oO HJ.out hJk hbA,⟨hF.kept (bU hbA),(bU (S:=bS) hbA).boxed hy (by decide)⟩,zx hsz hbA.size,λD hD=>(hbA.block D (zy.1 (hmk D hD)).1).trans (hmk D hD)⟩ ⟨Wr.heap.size,ad,cp,rfl,World.alloc_heap_new Wr _,HC.out.below hbA⟩
    case body2=>
     rintro l2 k x a' Wr hl2 hx ⟨hJk,⟨hF,hy⟩,hsz,hmk⟩ ⟨bx,ad,cp,rfl,hbx⟩;obtain ⟨x0,x1,x2,x3,x4,x5⟩:=hbx.cells;have z1:=hy.cell;have hYY:=HY.out (base+k) x #[.agg #[.int .i64 x.1.r,.int .i64 x.1.a,.int .i64 x.1.b,.int .i64 x.1.i,.int .i64 x.1.j,.slice ad x.1.c.length cp],.int .i64 x.2] Wr (HIX.out k x hx) hJk ⟨ad,cp,rfl,hbx.2⟩;obtain ⟨fn,tmps,assign,body,hyy,hR⟩:=hYY;have HF:=aA hF;have HYB:=aA hy;have HSZ:=aA hsz;have HMK:=aA hmk;clear hF hy hsz hbx hJk hmk;gi_wp2
     refine ⟨λ_=>by omega,(vG hR).mono ?_⟩;rintro e W4 (⟨rfl,hJ4,hk4⟩ | ⟨rfl,hJx4,hk4⟩)
     ·gi_wp2
      exact ⟨jK hk4.2 hW3',hk4.1,hJ4,⟨HF.out.kept hk4.1,hk4.1.boxed HYB.out (by decide)⟩,zx HSZ.out hk4.1.size,λD hD=>hk4.2.same D _ (HMS.out D hD).1 (HMK.out D hD) rfl⟩
     ·gi_wp2
      exact ⟨jK hk4 hW3',rfl,⟨_,hJx4⟩,λD hD=>hk4.same D _ (HMS.out D hD).1 (HMK.out D hD) rfl⟩
    case stop2=>
     rintro cd k Wd ⟨rfl,⟨k',hJd⟩,hmd⟩ hK;gi_wp2
     refine xL (N:=W.heap.size) (I:=λW'=>∃k,Jx k W') rfl (λ_ X Y row ⟨k,h⟩ hg hr=>⟨k,hJx k X Y row h hg hr⟩) (λv w h=>⟨⟨_,rfl⟩,.inr h⟩) (w3.heap.size :: ms) Wd ⟨k',hJd⟩ (λD hD=>?_) (List.nodup_cons.2 ⟨λh=>?_,hnd⟩)
     ·rcases List.mem_cons.1 hD with rfl | hD
      ·exact ⟨hW3',hK⟩
      ·exact ⟨(HMS.out D hD).1,hmd D hD⟩
     ·have:=(zy.1 (hm3 _ h)).1;omega
    case done2=>
     rintro Wd ⟨hJd,⟨hFd,hyd⟩,hsd,hmd⟩ hK;have hct:(t:Int)+1=((t+1:Nat):Int):=rfl;have HCT:=aA hct;clear hct;gi_wp2
     rw [HCT.out];refine ⟨⟨t+1,w3.heap.size :: ms,.int .i64 b,.bool true,.pointer (some ⟨go,t,none⟩),.int .i64 b,.slice sa T.length sc,.int .i64 a,.int .i64 b,.func (.func 137) #[] #[.pointer (some ⟨bc',0,none⟩),.pointer (some ⟨bd,0,none⟩),.pointer (some ⟨ba',0,none⟩),.pointer (some ⟨bb,0,none⟩)],.int .i64 ((t+1:Nat):Int),rfl,by omega,?_,⟨hFd,hyd⟩,zx hs3 hsd,λD hD=>?_,List.nodup_cons.2 ⟨λh=>?_,hnd⟩⟩,?_⟩
     ·rw [HTK.out,<-zm,List.length_append,HBA.out];exact hJd
     ·rcases List.mem_cons.1 hD with rfl | hD
      ·exact ⟨hW3',hK⟩
      ·exact ⟨(HMS.out D hD).1,hmd D hD⟩
     ·have:=(zy.1 (hm3 _ h)).1;omega
     ·simp [intOf];omega
   ·have hlti:¬(t:Int)<(os.length:Int):=by omega
    have hte:t=os.length:=by omega
    gi_wp2
    refine xL (N:=W.heap.size) (I:=λW'=>J (jQ T a os).length W') rfl (λ_ X Y row h hg hr=>HJ.out _ X Y row h hg hr) (λv w h=>⟨⟨_,rfl⟩,.inl h⟩) ms w' ?_ hms hnd;rw [hte,List.take_length] at hJt;exact hJt
end Go.Proofs.YtcldkjcpofjmhaaGreatDoor
