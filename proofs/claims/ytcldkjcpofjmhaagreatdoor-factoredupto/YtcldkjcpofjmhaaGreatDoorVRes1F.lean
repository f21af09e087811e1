import Derived.Test.YtcldkjcpofjmhaaGreatDoorWCon0F
import Derived.Test.YtcldkjcpofjmhaaGreatDoorVCon4F
open Array renaming replicate_succ→zk,replicate_zero→zj
open List renaming filterMap_append→zy,filterMap_cons→zw,filterMap_nil→zu,getElem_mem→zs,getElem_of_mem→zq,length_append→zp,append_nil→zo,mem_map→zn,getElem?_append_right→zm,getElem?_eq_some_iff→zl,append_toArray→zi,size_toArray→zg,push_toArray→zf,length_cons→ze,cons_append→zd,take_length→zc
open Nat renaming le_refl→zz,le_trans→zv
namespace Go.Proofs.YtcldkjcpofjmhaaGreatDoor
open _root_.Go.Proofs.Tryz renaming prog→zt
open World renaming alloc_heap_new→zx,size_alloc→zr,ownsRow_nil→zh
set_option maxHeartbeats 8000000
set_option maxRecDepth 100000
variable{c d:List Lt}{B a i k:Nat}{v vs:Value}{W W' w w':World}
section
open Go.RowKit Go.Shelf Go.WideMaps
theorem kI.below{tb mp:Nat}{M:List Tg}(h:kI B tb mp M w)(hb:Below w.heap.size w w'):kI B tb mp M w':=by obtain ⟨vn,ve,vl,vs,htm⟩:=h.tm;exact ⟨⟨vn,ve,vl,vs,htm.below hb⟩,h.first.at (hb.block mp h.first.lt),h.whole,zv h.big hb.size,h.ne,h.mlow⟩
theorem vR.lift{w2:World}{M0:List Tg}{b:Nat}{rest:List (Int×Lt)}{yes:Bool}{er:Int}(h:vR w2 w2.heap.size M0 a b rest v yes er w')(hb:Below w.heap.size w w2):vR w w.heap.size M0 a b rest v yes er w':=by obtain ⟨out,h1,⟨Q,q1,q2,q3,q4⟩,h3⟩:=h.out;exact ⟨⟨out,h1,⟨Q,q1,dN q2 hb.size,λq hq=>dN (q3 q hq) hb.size,q4⟩,h3⟩,hb.trans (h.low.mono hb.size)⟩
theorem aK9(a1 a2:Option Addr)(c1 c2:Nat)(c d:List Lt)(i j:Nat)(w:World)(h1:bE w a1 c)(h2:bE w a2 d)(hc:∀x∈c,aW x.2 1=true/\x.2.length<=60)(hd:∀x∈d,aW x.2 1=true/\x.2.length<=60)(hi:i<c.length)(hj:j<d.length)(hc8:c.length<=8)(hd8:d.length<=8) :
  Calls zt 37 #[.slice a1 c.length c1,.int .i64 i,.slice a2 d.length c2,.int .i64 j] w λe w'=>CoQ w w.heap.size (aO 0 c[i].2++aO 1 d[j].2) 0 c[i].2.length (bG 0 [(c,i),(d,j)]) e w':=by
 obtain ⟨b1,o1,aa,ac,rfl,e1,e2,g1⟩:=h1.cell i hi;obtain ⟨b2,o2,ba,bc,rfl,f1,f2,g2⟩:=h2.cell j hj;obtain ⟨t1,s1⟩:=hc c[i] (zs _);obtain ⟨t2,s2⟩:=hd d[j] (zs _);have hcn:=vT (m:=60) (λx hx=>(hc x hx).2);have hdn:=vT (m:=60) (λx hx=>(hd x hx).2);have CN1:=aA (zP _ c1 c w h1 hc8);have CN2:=aA (λ(wx:World) (hb:Below w.heap.size w wx)=>zP _ c2 d wx (h2.below hb (zz _)) hd8);have CW:=aA (λ(wx:World)=>aK8 (aK c+aK d) (by omega) wx);have H1:=aA h1;have H2:=aA h2;have HC:=aA hc;have HD:=aA hd;have G1:=aA g1;have G2:=aA g2;have hci:(i:Int)<(c.length:Int):=by omega
 have hdj:(j:Int)<(d.length:Int):=by omega
 have hx0:c[i].2.length<=60:=s1;clear h1 h2 hc hd g1 g2 e1 f1;go_enter Tryz.func37,Tryz.ntmps37;go_upto_region 2 with (first
  | (go_at_call 56;refine (aB CW _).mono ?_;rintro e w3 ⟨tb,mp,vn,ve,vl,vs,rfl,hN⟩;have HN:=aA hN;clear hN)
  | (go_at_call 57;refine (aB CN2 w1 HB1.out).mono ?_;rintro e w2 ⟨rfl,hb2⟩;have HB2:=aA (HB1.out.trans (hb2.mono HB1.out.size));clear hb2)
  | (go_at_call 57;refine (aB CN1).mono ?_;rintro e w1 ⟨rfl,hb1⟩;have HB1:=aA hb1;clear hb1)
  | go_in)
 have HB3:=aA (HB2.out.trans (HN.out.low.mono HB2.out.size));have HA0:=aA (kI.new HN.out);have hz2:=HB2.out.size;have hz3:=HN.out.low.size;have CA1:=aA (λ(wx:World) (hA:kI w2.heap.size tb mp [] wx) (hb:Below w.heap.size w wx)=>aAf hA 0 aa ac c[i].2 (G1.out.below hb (zz _)) t1 (λp hp=>by have:=vU G1.out t1 p hp;omega) (by simp;omega) (by omega));have CA2:=aA (λ(wx:World) (hA:kI w2.heap.size tb mp ([]++aO 0 c[i].2) wx) (hb:Below w.heap.size w wx)=>aAf hA 1 ba bc d[j].2 (G2.out.below hb (zz _)) t2 (λp hp=>by have:=vU G2.out t2 p hp;omega) (by simp;omega) (by omega));have CU:=aA (λ(wx:World) (hA:kI w2.heap.size tb mp (aO 0 c[i].2++aO 1 d[j].2) wx)=>aKh hA t1 t2 (λt ht=>by
  rcases List.mem_append.1 ht with ht | ht
  ·obtain ⟨n,hn,rfl⟩:=zn.1 ht;obtain ⟨k,hk,rfl⟩:=zq hn;exact G1.out.short k hk
  ·obtain ⟨n,hn,rfl⟩:=zn.1 ht;obtain ⟨k,hk,rfl⟩:=zq hn;exact G2.out.short k hk) (by simp;omega))
 have e3:=Below.at' HB3.out (zz _) e2;have f3:=Below.at' HB3.out (zz _) f2;rw [show (([]:List Tg).length:Int)=((0:Nat):Int) from rfl] at CA1;rw [show (([]++aO 0 c[i].2:List Tg).length:Int)=((c[i].2.length:Nat):Int) by simp] at CA2;clear CN1 CN2 CW;go_region_held3 (λw'=>w'.cell? ⟨b1,o1+i*2+1,none⟩=some (.slice aa c[i].2.length ac)/\w'.cell? ⟨b2,o2+j*2+1,none⟩=some (.slice ba d[j].2.length bc)) (first | exact ⟨Below.at' HBU.out (zz _) e2,Below.at' HBU.out (zz _) f2⟩ | exact ⟨Below.at' HB5.out (zz _) e2,Below.at' HB5.out (zz _) f2⟩ | exact ⟨Below.at' HB4.out (zz _) e2,Below.at' HB4.out (zz _) f2⟩ | go_keep) (first
  | (go_at_call 58;refine (aB CU w5 HA5.out).mono ?_;rintro e w6 ⟨ok,rfl,hb6,hs6,hy6,hn6⟩;have HBU:=aA (HB5.out.trans (hb6.mono hz2));have HL6:=aA (HL5.out.trans hb6);have HY:=aA hy6;have HNO:=aA hn6;have HSU:=aA hs6;clear hb6 hs6 hy6 hn6)
  | (go_at_call 59;refine (aB CA2 w4 HA4.out HB4.out).mono ?_;rintro e w5 ⟨rfl,hA5,hb5⟩;have HA5:=aA hA5;have HB5:=aA (HB4.out.trans (hb5.mono hz2));have HL5:=aA (HL4.out.trans hb5);clear hA5 hb5)
  | (go_at_call 59;refine (aB CA1 w3.drew (HA0.out.below (aI ⟨1,rfl⟩)) (HB3.out.trans ((aI (w1:=w3.drew) ⟨1,rfl⟩).mono (by omega)))).mono ?_;rintro e w4 ⟨rfl,hA4,hb4⟩;have HA4:=aA hA4;have HL4:=aA ((HN.out.low.trans ((aI (w1:=w3.drew) ⟨1,rfl⟩).mono hz3)).trans hb4);have HB4:=aA ((HB3.out.trans ((aI (w1:=w3.drew) ⟨1,rfl⟩).mono (by omega))).trans (hb4.mono hz2));clear hA4 hb4))
 have hrest:∀r∈bG 0 [(c,i),(d,j)],aW r.2.2 1=true:=by
  intro r hr;obtain ⟨q,hq,hm⟩:=xR _ _ r hr;simp at hq;rcases hq with rfl | rfl
  ·exact (HC.out _ hm).1
  ·exact (HD.out _ hm).1
 cases ok with
 | false=>
  have HO:Hid (eY (aO 0 c[i].2++aO 1 d[j].2) 0 c[i].2.length (bG 0 [(c,i),(d,j)]) [] false 0):=aA (Or.inl ⟨HNO.out rfl _ hrest,rfl,rfl,rfl⟩);clear hrest;go_wp2;go_returns;exact ⟨_,_,_,rfl,⟨⟨[],HO.out,bM.nil _ _,by simp⟩,HBU.out⟩⟩
 | true=>
  obtain ⟨nb,hcon⟩:=HY.out rfl;have hA6:Below w6.heap.size w6 (w6.alloc (.cells #[.slice (some ⟨b1,o1,none⟩) c.length c1,.int .i64 i,.slice (some ⟨b2,o2,none⟩) d.length c2,.int .i64 j] 112)):=(Below.refl _ _).alloc (zz _) _;have hz6:=HL6.out.size;have hst:rE w2 w2.heap.size tb mp (aO 0 c[i].2++aO 1 d[j].2) 0 c[i].2.length w6.heap.size #[.slice (some ⟨b1,o1,none⟩) c.length c1,.int .i64 i,.slice (some ⟨b2,o2,none⟩) d.length c2,.int .i64 j] [] (.slice none 0 0) (w6.alloc (.cells #[.slice (some ⟨b1,o1,none⟩) c.length c1,.int .i64 i,.slice (some ⟨b2,o2,none⟩) d.length c2,.int .i64 j] 112)):=
   ⟨⟨nb,[],[],⟨by simpa [aJ,bN] using hcon.below hA6,rfl,rfl,zh _ _ _ _,λq hq=>by simp at hq,HL6.out.trans (hA6.mono hz6)⟩⟩,by show (w6.heap.push _)[w6.heap.size]?=_;simp⟩
  have CC:=aA (aK4 w2 w2.heap.size tb mp (aO 0 c[i].2++aO 1 d[j].2) 0 c[i].2.length w6.heap.size 2 _ (λk=>if k=0 then some ⟨b1,o1,none⟩ else some ⟨b2,o2,none⟩) (λk=>if k=0 then c1 else c2) [(c,i),(d,j)] _ hst rfl (λk hk=>by
   match k,hk with
   | 0,_=>exact ⟨rfl,rfl,H1.out.below HB2.out (zz _),hi,hc8,HC.out⟩
   | 1,_=>exact ⟨rfl,rfl,H2.out.below HB2.out (zz _),hj,hd8,HD.out⟩) (by simp) (by simp;omega))
  clear hrest hcon hst hA6;go_wp2_with (first
   | (go_at_call 60;refine (aB CC).mono ?_;rintro e w8 ⟨v8,y8,r8,rfl,h8⟩;have H8:=aA (h8.lift HB2.out);clear h8)
   | go_in)
  go_returns;exact ⟨_,_,_,rfl,H8.out⟩
theorem aKa(a1:Option Addr)(c1:Nat)(c:List Lt)(i j:Nat)(w:World)(h1:bE w a1 c)(hc:∀x∈c,aW x.2 1=true/\x.2.length<=60)(hi:i<c.length)(hj:j<c.length)(hc8:c.length<=8) :
  Calls zt 47 #[.slice a1 c.length c1,.int .i64 i,.int .i64 j] w λe w'=>CoQ w w.heap.size (aO 0 c[i].2++aO 0 c[j].2) 0 c[i].2.length (bG 0 [(c,j)]) e w':=by
 obtain ⟨b1,o1,aa,ac,rfl,e1,e2,g1⟩:=h1.cell i hi;obtain ⟨b2,o2,ba,bc,hb2,f1,f2,g2⟩:=h1.cell j hj;simp at hb2;obtain ⟨rfl,rfl⟩:=hb2;obtain ⟨t1,s1⟩:=hc c[i] (zs _);obtain ⟨t2,s2⟩:=hc c[j] (zs _);have hcn:=vT (m:=60) (λx hx=>(hc x hx).2);have CN1:=aA (zP _ c1 c w h1 hc8);have CW:=aA (λ(wx:World)=>aK8 (aK c) (by omega) wx);have H1:=aA h1;have HC:=aA hc;have G1:=aA g1;have G2:=aA g2;have hci:(i:Int)<(c.length:Int):=by omega
 have hdj:(j:Int)<(c.length:Int):=by omega
 have hx0:c[i].2.length<=60:=s1;clear h1 hc g1 g2 e1 f1;go_enter Tryz.func47,Tryz.ntmps47;go_upto_region 2 with (first
  | (go_at_call 56;refine (aB CW _).mono ?_;rintro e w3 ⟨tb,mp,vn,ve,vl,vs,rfl,hN⟩;have HN:=aA hN;clear hN)
  | (go_at_call 57;refine (aB CN1).mono ?_;rintro e w2 ⟨rfl,hb1⟩;have HB2:=aA hb1;clear hb1)
  | go_in)
 have HB3:=aA (HB2.out.trans (HN.out.low.mono HB2.out.size));have HA0:=aA (kI.new HN.out);have hz2:=HB2.out.size;have hz3:=HN.out.low.size;have CA1:=aA (λ(wx:World) (hA:kI w2.heap.size tb mp [] wx) (hb:Below w.heap.size w wx)=>aAf hA 0 aa ac c[i].2 (G1.out.below hb (zz _)) t1 (λp hp=>by have:=vU G1.out t1 p hp;omega) (by simp;omega) (by omega));have CA2:=aA (λ(wx:World) (hA:kI w2.heap.size tb mp ([]++aO 0 c[i].2) wx) (hb:Below w.heap.size w wx)=>aAf hA 0 ba bc c[j].2 (G2.out.below hb (zz _)) t2 (λp hp=>by have:=vU G2.out t2 p hp;omega) (by simp;omega) (by omega));have CU:=aA (λ(wx:World) (hA:kI w2.heap.size tb mp (aO 0 c[i].2++aO 0 c[j].2) wx)=>aKh hA t1 t2 (λt ht=>by
  rcases List.mem_append.1 ht with ht | ht
  ·obtain ⟨n,hn,rfl⟩:=zn.1 ht;obtain ⟨k,hk,rfl⟩:=zq hn;exact G1.out.short k hk
  ·obtain ⟨n,hn,rfl⟩:=zn.1 ht;obtain ⟨k,hk,rfl⟩:=zq hn;exact G2.out.short k hk) (by simp;omega))
 have e3:=Below.at' HB3.out (zz _) e2;have f3:=Below.at' HB3.out (zz _) f2;rw [show (([]:List Tg).length:Int)=((0:Nat):Int) from rfl] at CA1;rw [show (([]++aO 0 c[i].2:List Tg).length:Int)=((c[i].2.length:Nat):Int) by simp] at CA2;clear CN1 CW;go_region_held3 (λw'=>w'.cell? ⟨b1,o1+i*2+1,none⟩=some (.slice aa c[i].2.length ac)/\w'.cell? ⟨b1,o1+j*2+1,none⟩=some (.slice ba c[j].2.length bc)) (first | exact ⟨Below.at' HBU.out (zz _) e2,Below.at' HBU.out (zz _) f2⟩ | exact ⟨Below.at' HB5.out (zz _) e2,Below.at' HB5.out (zz _) f2⟩ | exact ⟨Below.at' HB4.out (zz _) e2,Below.at' HB4.out (zz _) f2⟩ | go_keep) (first
  | (go_at_call 58;refine (aB CU w5 HA5.out).mono ?_;rintro e w6 ⟨ok,rfl,hb6,hs6,hy6,hn6⟩;have HBU:=aA (HB5.out.trans (hb6.mono hz2));have HL6:=aA (HL5.out.trans hb6);have HY:=aA hy6;have HNO:=aA hn6;have HSU:=aA hs6;clear hb6 hs6 hy6 hn6)
  | (go_at_call 59;refine (aB CA2 w4 HA4.out HB4.out).mono ?_;rintro e w5 ⟨rfl,hA5,hb5⟩;have HA5:=aA hA5;have HB5:=aA (HB4.out.trans (hb5.mono hz2));have HL5:=aA (HL4.out.trans hb5);clear hA5 hb5)
  | (go_at_call 59;refine (aB CA1 w3.drew (HA0.out.below (aI ⟨1,rfl⟩)) (HB3.out.trans ((aI (w1:=w3.drew) ⟨1,rfl⟩).mono (by omega)))).mono ?_;rintro e w4 ⟨rfl,hA4,hb4⟩;have HA4:=aA hA4;have HL4:=aA ((HN.out.low.trans ((aI (w1:=w3.drew) ⟨1,rfl⟩).mono hz3)).trans hb4);have HB4:=aA ((HB3.out.trans ((aI (w1:=w3.drew) ⟨1,rfl⟩).mono (by omega))).trans (hb4.mono hz2));clear hA4 hb4))
 have hrest:∀r∈bG 0 [(c,j)],aW r.2.2 1=true:=by intro r hr;obtain ⟨q,hq,hm⟩:=xR _ _ r hr;simp at hq;subst hq;exact (HC.out _ hm).1
 cases ok with
 | false=>
  have HO:Hid (eY (aO 0 c[i].2++aO 0 c[j].2) 0 c[i].2.length (bG 0 [(c,j)]) [] false 0):=aA (Or.inl ⟨HNO.out rfl _ hrest,rfl,rfl,rfl⟩);clear hrest;go_wp2;go_returns;exact ⟨_,_,_,rfl,⟨⟨[],HO.out,bM.nil _ _,by simp⟩,HBU.out⟩⟩
 | true=>
  obtain ⟨nb,hcon⟩:=HY.out rfl;have hA6:Below w6.heap.size w6 (w6.alloc (.cells #[.slice (some ⟨b1,o1,none⟩) c.length c1,.int .i64 j] 112)):=(Below.refl _ _).alloc (zz _) _;have hz6:=HL6.out.size;have hst:rE w2 w2.heap.size tb mp (aO 0 c[i].2++aO 0 c[j].2) 0 c[i].2.length w6.heap.size #[.slice (some ⟨b1,o1,none⟩) c.length c1,.int .i64 j] [] (.slice none 0 0) (w6.alloc (.cells #[.slice (some ⟨b1,o1,none⟩) c.length c1,.int .i64 j] 112)):=
   ⟨⟨nb,[],[],⟨by simpa [aJ,bN] using hcon.below hA6,rfl,rfl,zh _ _ _ _,λq hq=>by simp at hq,HL6.out.trans (hA6.mono hz6)⟩⟩,by show (w6.heap.push _)[w6.heap.size]?=_;simp⟩
  have CC:=aA (aK4 w2 w2.heap.size tb mp (aO 0 c[i].2++aO 0 c[j].2) 0 c[i].2.length w6.heap.size 1 _ (λ_=>some ⟨b1,o1,none⟩) (λ_=>c1) [(c,j)] _ hst rfl (λk hk=>by
   match k,hk with
   | 0,_=>exact ⟨rfl,rfl,H1.out.below HB2.out (zz _),hj,hc8,HC.out⟩) (by simp) (by simp;omega))
  clear hrest hcon hst hA6;go_wp2_with (first
   | (go_at_call 60;refine (aB CC).mono ?_;rintro e w8 ⟨v8,y8,r8,rfl,h8⟩;have H8:=aA (h8.lift HB2.out);clear h8)
   | go_in)
  go_returns;exact ⟨_,_,_,rfl,H8.out⟩
attribute [local go_sem] Oper.semAt_some
structure aN where
 r:Nat
 a:Nat
 b:Nat
 i:Nat
 j:Nat
 c:List Lt
noncomputable def uD(c:List Lt)(i j:Nat):List Lt×Bool×Int:=Classical.epsilon λx=>eY (aO 0 (c.getD i default).2++aO 0 (c.getD j default).2) 0 (c.getD i default).2.length (bG 0 [(c,j)]) x.1 x.2.1 x.2.2
noncomputable def sS(c:List Lt)(i:Nat)(d:List Lt)(j:Nat):List Lt×Bool×Int:=Classical.epsilon λx=>eY (aO 0 (c.getD i default).2++aO 1 (d.getD j default).2) 0 (c.getD i default).2.length (bG 0 [(c,i),(d,j)]) x.1 x.2.1 x.2.2
def nZ(c:List Lt)(i:Nat):Bool:=(c.getD i default).1
noncomputable def mR(c:List Lt)(a:Nat)(p:Nat×Nat):Option (aN×Int):=
 if p.1<p.2/\nZ c p.1=nZ c p.2 then (if (uD c p.1 p.2).2.1=true\/(uD c p.1 p.2).2.2≠0 then some (⟨3,a,0,p.1,p.2,(uD c p.1 p.2).1⟩,(uD c p.1 p.2).2.2) else none) else none
noncomputable def sT(c:List Lt)(a:Nat):List (aN×Int):=(kH c c).filterMap (mR c a)
def uE(B:Nat)(x:aN×Int)(args:Array Value)(W:World):Prop:=∃ad cp,args=#[.agg #[.int .i64 x.1.r,.int .i64 x.1.a,.int .i64 x.1.b,.int .i64 x.1.i,.int .i64 x.1.j,.slice ad x.1.c.length cp],.int .i64 x.2]/\bM B W (.slice ad x.1.c.length cp) x.1.c
theorem bM.shape(h:bM B w v c):∃ad cp,v=.slice ad c.length cp:=by obtain ⟨Q,rfl,h2,_⟩:=h;obtain ⟨a,cp,e⟩:=aS h2;exact ⟨a,cp,by simpa using e⟩
theorem bM.low{B':Nat}(h:bM B w v c)(hB:B'<=B):bM B' w v c:=by obtain ⟨Q,q1,q2,q3,q4⟩:=h;exact ⟨Q,q1,dN q2 hB,λq hq=>dN (q3 q hq) hB,q4⟩
theorem bM.below(h:bM B w v c)(hb:Below w.heap.size w w'):bM B w' v c:=(Mv.of_below (S:=[]) (B:=0) hb).clause h (by simp) (by simp)
theorem oA(hi:i<c.length):c.getD i default=c[i]:=by simp [hi]
structure uF(B:Nat)(W:World)(bc ba:Nat)(v:Value)(c:List Lt)(a:Nat):Prop where
 x1:Boxed W bc 22 v
 x2:Boxed W ba 3 (.int .i64 a)
 m1:bM B W v c
theorem uF.kept{bc ba:Nat}(h:uF B W bc ba v c a)(k:dD bT W W'):uF B W' bc ba v c a:=
 ⟨k.boxed h.x1 (by decide),k.boxed h.x2 (by decide),k.clause h.m1 (by decide) (by decide)⟩
theorem bV{S:List TypeId}(h:Below W.heap.size W W'):dD S W W':=(Mv.of_below (S:=S) (B:=0) h).kps
theorem oV{J:Nat->World->Prop}{N:Nat}(h:OwnFrom N J){s:Nat}{w w':World}(hJ:J s w)(hb:Below w.heap.size w w'):J s w':=
 h s w w' none hJ (fV hb) (λr e=>by cases e)
theorem uG{β:Type}{N:Nat}{I:β->World->Prop}(h:∀s W W',I s W->dD bT W W'->I s W'):OwnFrom N I:=λs W W' _ hs hg hr=>h s W W' hs (dD.grown hg (λr e=>(hr r e).2))
theorem vW{l l2 n m:Nat}{f:FuncId}{tmps:Array Value}{assign body:Code}{R:Ending->World->Prop}(h:RoundIn Fence.wide n zt l f tmps assign body w R):RoundIn (Fence.wide.inRound l2) m zt l f tmps assign body w R:=
 ⟨h.1,λc cs _=>h.2 c cs (λd hd=>by cases hd)⟩
theorem aKb(a1 a2:Option Addr)(n1 n2 c1 c2:Nat)(w:World):Calls zt 136 #[.slice a1 n1 c1,.slice a2 n2 c2] w λe w'=>e=.returned (.func (.func 149) #[] #[.pointer (some ⟨w.heap.size,0,none⟩),.pointer (some ⟨w.heap.size+1,0,none⟩)])/\w'=(w.alloc (.cells #[.slice a1 n1 c1] 22)).alloc (.cells #[.slice a2 n2 c2] 22):=by go_enter Tryz.func136,Tryz.ntmps136;go_wp2;go_ret;exact ⟨rfl,rfl⟩
theorem xT(w:World)(v1 v2:Value)(T:TypeId):∃w3,(w.alloc (.cells #[v1] T)).alloc (.cells #[v2] T)=w3/\Below w.heap.size w w3/\Boxed w3 w.heap.size T v1/\Boxed w3 (w.heap.size+1) T v2/\w3.heap.size=w.heap.size+2:=by refine ⟨_,rfl,((Below.refl _ w).alloc (zz _) _).alloc (by simp) _,(Below.heap_alloc _ _ _ (by simp)).trans (zx w _),?_,by simp⟩;have:=zx (w.alloc (.cells #[v1] T)) (.cells #[v2] T);rwa [zr] at this
theorem aDk(w:World)(v:Value)(T:TypeId):∃w1,w.alloc (.cells #[v] T)=w1/\Below w.heap.size w w1/\Boxed w1 w.heap.size T v/\w1.heap.size=w.heap.size+1:=⟨_,rfl,(Below.refl _ w).alloc (zz _) _,zx w _,by simp⟩
theorem aKc{j:Nat}(h:(kH c d)[k]?=some (i,j)):i<c.length/\j<d.length:=by have hm:=List.mem_of_getElem? h;simp only [kH,mM,lN,List.mem_flatMap,zn,List.mem_filter,List.mem_range] at hm;obtain ⟨x,hx,y,⟨hy,_⟩,e⟩:=hm;cases e;exact ⟨hx,hy⟩
theorem aXc{j:Nat}(hi:i<c.length)(hj:j<c.length){out:List Lt}{yes:Bool}{er:Int}(h:eY (aO 0 c[i].2++aO 0 c[j].2) 0 c[i].2.length (bG 0 [(c,j)]) out yes er):uD c i j=(out,yes,er):=by have hx:∃x:List Lt×Bool×Int,eY (aO 0 (c.getD i default).2++aO 0 (c.getD j default).2) 0 (c.getD i default).2.length (bG 0 [(c,j)]) x.1 x.2.1 x.2.2:=⟨(out,yes,er),by rw [oA hi,oA hj];exact h⟩;have h1:=Classical.epsilon_spec hx;rw [<-oA hi,<-oA hj] at h;obtain ⟨e1,e2,e3⟩:=aAc h1 h;unfold uD;exact Prod.ext e1 (Prod.ext e2 e3)
theorem pP{α:Type}{L:List α}{x:α}(h:L[k]?=some x):L.take (k+1)=L.take k++[x]:=by rw [List.take_add_one,h];rfl
theorem aAg{α β:Type}{L:List α}{f:α->Option β}{x:α}{y:β}(h:L[k]?=some x)(hf:f x=some y):(L.filterMap f)[((L.take k).filterMap f).length]?=some y:=by
 have hk:=(zl.1 h).1;have:L.filterMap f=(L.take k).filterMap f++(L.drop k).filterMap f:=by rw [<-zy,List.take_append_drop]
 rw [this,zm (zz _),Nat.sub_self,List.drop_eq_getElem_cons hk,(zl.1 h).2];simp [hf]
theorem aDl{J:Nat->World->Prop}{N N':Nat}(h:OwnFrom N J)(hN:N<=N')(g:Nat->Nat):OwnFrom N' (λk W=>J (g k) W):=λs X Y row hs hg hr=>sC h hN (g s) X Y row hs hg hr
theorem aXd(n bc ba B:Nat)(v:Value)(c:List Lt)(a:Nat)(hn:3<=n)(nc:jH c)(W:World)(hB:B<=W.heap.size)(hW:uF B W bc ba v c a) :
  tU Fence.wide n zt 135 #[.pointer (some ⟨bc,0,none⟩),.pointer (some ⟨ba,0,none⟩)] (uE B) bT (sT c a) W:=by
 intro l J Jx hJ hJx hY h0;have hc8:=nc.len;have HY:=aA hY;have HJ:=aA hJ;clear hY hJ;refine callsIn_of_wp_marks Tryz.func135 rfl trivial ?_ rfl;simp only [Tryz.ntmps135,zg,ze,List.length_nil,Nat.reduceAdd,Nat.reduceSub,zk,zj,zf,zi,List.nil_append,zd];obtain ⟨a1,c1,rfl,_,L1,_⟩:=hW.m1.lits nc;have e1:=hW.x1.cell;have e1a:=λX=>Below.at' ((Below.refl W.heap.size W).alloc (zz _) X) (zz _) e1
 have HW:=aA hW;clear hW L1 e1;gi_wp2
 clear e1a;refine ⟨trivial,λ_=>by omega,(callsIn_wide.2 (aKb _ _ _ _ _ _ _)).mono ?_⟩;rintro e w' ⟨rfl,rfl⟩;gi_wp2
 obtain ⟨W1,hW1,hb1,hy1,hs1⟩:=aDk W (.func (.yield l) #[] #[]) 171;simp only [hW1] at *;obtain ⟨W3,hW3,hb3,hp1,hp2,hs3⟩:=xT W1 (.slice a1 c.length c1) (.slice a1 c.length c1) 22;simp only [hW3] at *;have hbb:Below W.heap.size W W3:=hb1.trans (hb3.mono hb1.size);have hyb:Boxed W3 W.heap.size 171 (.func (.yield l) #[] #[]):=(bV (S:=bT) hb3).boxed hy1 (by decide);have hF3:=HW.out.kept (bV (S:=bT) hbb);have hJ3:=oV HJ.out h0 hbb;clear hW1 hW3 hy1 hb1 hb3 h0;rw [hs1] at hp1 hp2;refine aHc rfl (by omega) (gf:=149) (lb:=#[.pointer (some ⟨W.heap.size+1,0,none⟩),.pointer (some ⟨W.heap.size+1+1,0,none⟩)]) rfl trivial (enters_of Tryz.func149 (by kernel_rfl) rfl)
  (Enc:=λ(x:Nat×Nat) args _=>args=#[.int .i64 x.1,.int .i64 x.2]) (S:=bT) (L:=kH c c)
  (λo o'=>aJi (n-1) (W.heap.size+1) (W.heap.size+1+1) B (.slice a1 c.length c1) (.slice a1 c.length c1) c c (by omega) nc nc _ (oP.kept ⟨hp1,hp2,hF3.m1,hF3.m1⟩ (bV (((Below.refl _ W3).alloc (zz _) _).alloc (by simp) _))))
  (λx args W h=>by rw [h];rfl)
  (λk W'=>J (((kH c c).take k).filterMap (mR c a)).length W'/\(uF B W' bc ba (.slice a1 c.length c1) c a/\Boxed W' W.heap.size 171 (.func (.yield l) #[] #[]))/\W3.heap.size<=W'.heap.size)
  (λcd _ W'=>cd=.ret/\∃k,Jx k W') ?hI ?hIx ?h0 ?A ?assign ?body ?done ?stop
 case hI=>exact (aDl HJ.out hbb.size _).and ((uG (λ_ _ _ h k=>⟨h.1.kept k,k.boxed h.2 (by decide)⟩)).and (λ_ _ _ _ h hg _=>zv h hg.size))
 case hIx=>
  rintro cd s X Y row ⟨h1,k,h2⟩ hg hr;exact ⟨h1,k,sC hJx hbb.size k X Y row h2 hg hr⟩
 case h0=>exact ⟨by simpa using hJ3,⟨hF3,hyb⟩,zz _⟩
 case assign=>
  rintro l2 x args Wr K rfl hK;gi_wp2
  exact hK
 case body=>
  rintro l2 k ⟨i,j⟩ Wr hl2 hx ⟨hJk,⟨hF,hy⟩,hsz⟩;obtain ⟨hi,hj⟩:=aKc hx;obtain ⟨a1',c1',ea,_,L1,_⟩:=hF.m1.lits nc;cases ea;obtain ⟨g1,o1,aa,ac,e,k1,k2,k3⟩:=L1.cell i hi;obtain ⟨g2,o2,ba',bc',e',q1,q2,q3⟩:=L1.cell j hj;rw [e] at e';cases e';subst e;have hm1:=hF.x1.cell;have hm2:=hF.x2.cell;have hii:(i:Int)<(c.length:Int):=by omega
  have hjj:(j:Int)<(c.length:Int):=by omega
  have hsi:nZ c i=c[i].1:=by unfold nZ;rw [oA hi]
  have hsj:nZ c j=c[j].1:=by unfold nZ;rw [oA hj]
  have HF:=aA hF;have HYB:=aA hy;have HJK:=aA hJk;have HSZ:=aA hsz;have HX:=aA hx;have hmix:zt.follows .mixedOrders=true:=by kernel_rfl
  have hskip:mR c a (i,j)=none->∀nq d,zJ W3.heap.size bT (λk W'=>J (((kH c c).take k).filterMap (mR c a)).length W'/\(uF B W' bc ba (.slice (some ⟨g1,o1,none⟩) c.length c1) c a/\Boxed W' W.heap.size 171 (.func (.yield l) #[] #[]))/\W3.heap.size<=W'.heap.size) (λcd _ W'=>cd=.ret/\∃k,Jx k W') k Wr .normal d (Wr.drewN nq):=by intro hs nq d;have hb:Below Wr.heap.size Wr (Wr.drewN nq):=aI ⟨nq,rfl⟩;refine ⟨(Mv.of_below (S:=[]) (B:=0) hb).keepsFrom,bV hb,?_,⟨HF.out.kept (bV hb),(bV (S:=bT) hb).boxed HYB.out (by decide)⟩,HSZ.out⟩;rw [pP HX.out,zy];simp only [zw,hs,zu,zo];exact oV HJ.out HJK.out hb
  have HSK:=aA hskip;clear hF hy hJk hsz hx hskip;by_cases hij:i<j
  ·have hiji:¬(j:Int)<=(i:Int):=by omega
   have hdec:decide (j<=i)=false:=decide_eq_false (by omega);by_cases hsg:c[i].1=c[j].1
   ·have hne:(c[i].1 != c[j].1)=false:=by simp [hsg]
    obtain ⟨out0,yes0,er0,hfc⟩ : ∃o y e,uD c i j=(o,y,e):=⟨_,_,_,rfl⟩;have CF:=aA (λ(wx:World) (hb:Below Wr.heap.size Wr wx)=>(aKa (some ⟨g1,o1,none⟩) c1 c i j wx (L1.below hb (zz _)) nc.term hi hj nc.len).mono (R':=λe w2=>∃ad cp,e=.returned (.tuple #[.slice ad out0.length cp,.bool yes0,.int .i64 er0])/\bM B w2 (.slice ad out0.length cp) out0/\Below wx.heap.size wx w2) (λe w2 he=>by
     obtain ⟨v,yes,er,rfl,hco⟩:=he;obtain ⟨out,h1,h2,_⟩:=hco.out;have:=aXc hi hj h1;rw [hfc] at this;cases this;obtain ⟨ad,cp,rfl⟩:=h2.shape;exact ⟨ad,cp,rfl,h2.low (by have:=hb.size;have:=HSZ.out;have:=hbb.size;omega),hco.low⟩))
    rw [<-hsg] at q1;clear L1 k2 k3 q2 q3;gi_wp2
    refine xZ [_,_,_,_,_,_,_,_,_,_,_,_,_,_,_,_] rfl (by kernel_rfl) hmix (by kernel_rfl) (by kernel_rfl) ?_;repeat (gi_big_quiet_step (fail))
    refine wpQuietIn_nil ?_;rintro _ ⟨nq,rfl⟩;gi_wp2
    refine ⟨trivial,λ_=>by omega,(CallsIn.inRound l2 (callsIn_wide.2 (aB CF (Wr.drewN nq) (aI ⟨nq,rfl⟩)))).mono ?_⟩;rintro e w2 ⟨ad,cp,rfl,hcl,hb2⟩;have hbw:Below Wr.heap.size Wr w2:=(aI ⟨nq,rfl⟩).trans hb2;have hy2:=(bV (S:=bT) hbw).boxed HYB.out (by decide);have z1:=hy2.cell;have z2:=(HF.out.kept (bV hbw)).x2.cell;have HY2:=aA hy2;have HBW:=aA hbw;have HCL:=aA hcl;have HJ2:=aA (oV HJ.out HJK.out hbw);clear hy2 hbw hcl hb2 CF;cases yes0 with
    | true=>
     have hfs:mR c a (i,j)=some (⟨3,a,0,i,j,out0⟩,er0):=by unfold mR;rw [if_pos ⟨hij,by rw [hsi,hsj];exact hsg⟩,hfc];simp
     have hYY:=HY.out _ (⟨3,a,0,i,j,out0⟩,er0) #[.agg #[.int .i64 3,.int .i64 a,.int .i64 0,.int .i64 i,.int .i64 j,.slice ad out0.length cp],.int .i64 er0] w2 (aAg HX.out hfs) HJ2.out ⟨ad,cp,rfl,HCL.out⟩;obtain ⟨fn,tmps,assign,body,hy,hR⟩:=hYY;gi_wp2
     refine ⟨λ_=>by omega,(vW hR).mono ?_⟩;rintro e W4 (⟨rfl,hJ4,hk4⟩ | ⟨rfl,hJx4,hk4⟩)
     ·gi_wp2
      refine ⟨lJ (Mv.of_below (S:=[]) (B:=0) HBW.out).keepsFrom (jP hk4.2 hbb.size),(bV HBW.out).trans hk4.1,?_,⟨(HF.out.kept (bV HBW.out)).kept hk4.1,hk4.1.boxed HY2.out (by decide)⟩,zv (zv HSZ.out HBW.out.size) hk4.1.size⟩;rw [pP HX.out,zy,zp];simp only [zw,hfs,zu];exact hJ4
     ·gi_wp2
      exact ⟨lJ (Mv.of_below (S:=[]) (B:=0) HBW.out).keepsFrom (jP hk4 hbb.size),rfl,_,hJx4⟩
    | false=>
     by_cases her:er0=0
     ·have hfs:mR c a (i,j)=none:=by
       unfold mR;rw [if_pos ⟨hij,by rw [hsi,hsj];exact hsg⟩,hfc];simp [her]
      subst her;gi_wp2
      refine ⟨λ_ h=>(by cases h),?_⟩;gi_wp2
      refine ⟨(Mv.of_below (S:=[]) (B:=0) HBW.out).keepsFrom,bV HBW.out,?_,⟨HF.out.kept (bV HBW.out),HY2.out⟩,zv HSZ.out HBW.out.size⟩;rw [pP HX.out,zy];simp only [zw,hfs,zu,zo];exact HJ2.out
     ·have hern:(er0 != 0)=true:=by simp [her]
      have hfs:mR c a (i,j)=some (⟨3,a,0,i,j,out0⟩,er0):=by unfold mR;rw [if_pos ⟨hij,by rw [hsi,hsj];exact hsg⟩,hfc];simp [her]
      have hYY:=HY.out _ (⟨3,a,0,i,j,out0⟩,er0) #[.agg #[.int .i64 3,.int .i64 a,.int .i64 0,.int .i64 i,.int .i64 j,.slice ad out0.length cp],.int .i64 er0] w2 (aAg HX.out hfs) HJ2.out ⟨ad,cp,rfl,HCL.out⟩;obtain ⟨fn,tmps,assign,body,hy,hR⟩:=hYY;gi_wp2
      refine ⟨λ_=>by omega,(vW hR).mono ?_⟩;rintro e W4 (⟨rfl,hJ4,hk4⟩ | ⟨rfl,hJx4,hk4⟩)
      ·gi_wp2
       refine ⟨lJ (Mv.of_below (S:=[]) (B:=0) HBW.out).keepsFrom (jP hk4.2 hbb.size),(bV HBW.out).trans hk4.1,?_,⟨(HF.out.kept (bV HBW.out)).kept hk4.1,hk4.1.boxed HY2.out (by decide)⟩,zv (zv HSZ.out HBW.out.size) hk4.1.size⟩;rw [pP HX.out,zy,zp];simp only [zw,hfs,zu];exact hJ4
      ·gi_wp2
       exact ⟨lJ (Mv.of_below (S:=[]) (B:=0) HBW.out).keepsFrom (jP hk4 hbb.size),rfl,_,hJx4⟩
   ·have hne2:(c[i].1 == c[j].1)=false:=by simp [hsg]
    have hne:(c[i].1 != c[j].1)=true:=by simp [hsg]
    clear L1 k2 k3 q2 q3;gi_wp2
    refine xZ [_,_,_,_,_,_,_,_,_,_,_,_,_,_,_,_] rfl (by kernel_rfl) hmix (by kernel_rfl) (by kernel_rfl) ?_;repeat (gi_big_quiet_step (fail))
    refine wpQuietIn_nil ?_;rintro _ ⟨nq,rfl⟩;gi_wp2
    exact HSK.out (by unfold mR;rw [if_neg (by rw [hsi,hsj];exact λh=>hsg h.2)]) _ _
  ·have hiji:(j:Int)<=(i:Int):=by omega
   clear L1 k2 k3 q2 q3;gi_wp2
   refine xZ [_,_,_,_,_,_,_,_,_,_,_,_,_,_,_,_] rfl (by kernel_rfl) hmix (by kernel_rfl) (by kernel_rfl) ?_;repeat (gi_big_quiet_step (fail))
   refine wpQuietIn_nil ?_;rintro _ ⟨nq,rfl⟩;gi_wp2
   exact HSK.out (by unfold mR;rw [if_neg (by omega)]) _ _
 case done=>
  rintro Wd ⟨hJd,_,_⟩ hK;gi_wp2
  refine ⟨by simp,.inl ⟨_,_,rfl,run_takeDeferred hK,?_⟩⟩;refine ⟨_,results_none rfl _ _ _,⟨_,rfl⟩,.inl ?_⟩;rw [zc] at hJd;exact HJ.out.putObj _ hJd hbb.size hK rfl
 case stop=>
  rintro cd k Wd ⟨rfl,k',hJd⟩ hK;gi_wp2
  refine ⟨by simp,.inl ⟨_,_,rfl,run_takeDeferred hK,?_⟩⟩;refine ⟨_,results_none rfl _ _ _,⟨_,rfl⟩,.inr ⟨k',?_⟩⟩;exact hJx.putObj _ hJd hbb.size hK rfl
end
section
open Go.RowKit Go.Shelf Go.WideMaps
attribute [local go_sem] Oper.semAt_some
noncomputable def lO(c:List Lt)(a:Nat)(d:List Lt)(b:Nat)(p:Nat×Nat):Option (aN×Int):=
 if nZ c p.1≠nZ d p.2 then (if (sS c p.1 d p.2).2.1=true\/(sS c p.1 d p.2).2.2≠0 then some (⟨2,a,b,p.1,p.2,(sS c p.1 d p.2).1⟩,(sS c p.1 d p.2).2.2) else none) else none
noncomputable def jK(c:List Lt)(a:Nat)(d:List Lt)(b:Nat):List (aN×Int):=(kH c d).filterMap (lO c a d b)
structure uH(B:Nat)(W:World)(bc bd ba bb:Nat)(v u:Value)(c d:List Lt)(a b:Nat):Prop where
 x1:Boxed W bc 22 v
 x2:Boxed W bd 22 u
 x3:Boxed W ba 3 (.int .i64 a)
 x4:Boxed W bb 3 (.int .i64 b)
 m1:bM B W v c
 m2:bM B W u d
theorem uH.kept{bc bd ba bb:Nat}{u:Value}{b:Nat}(h:uH B W bc bd ba bb v u c d a b)(k:dD bT W W'):uH B W' bc bd ba bb v u c d a b:=
 ⟨k.boxed h.x1 (by decide),k.boxed h.x2 (by decide),k.boxed h.x3 (by decide),k.boxed h.x4 (by decide),k.clause h.m1 (by decide) (by decide),k.clause h.m2 (by decide) (by decide)⟩
theorem aKd{j:Nat}(hi:i<c.length)(hj:j<d.length){out:List Lt}{yes:Bool}{er:Int}(h:eY (aO 0 c[i].2++aO 1 d[j].2) 0 c[i].2.length (bG 0 [(c,i),(d,j)]) out yes er):sS c i d j=(out,yes,er):=by have hx:∃x:List Lt×Bool×Int,eY (aO 0 (c.getD i default).2++aO 1 (d.getD j default).2) 0 (c.getD i default).2.length (bG 0 [(c,i),(d,j)]) x.1 x.2.1 x.2.2:=⟨(out,yes,er),by rw [oA hi,oA hj];exact h⟩;have h1:=Classical.epsilon_spec hx;rw [<-oA hi,<-oA hj] at h;obtain ⟨e1,e2,e3⟩:=aAc h1 h;unfold sS;exact Prod.ext e1 (Prod.ext e2 e3)
theorem aXe(n bc bd ba bb B:Nat)(v u:Value)(c d:List Lt)(a b:Nat)(hn:3<=n)(nc:jH c)(nd:jH d)(W:World)(hB:B<=W.heap.size)(hW:uH B W bc bd ba bb v u c d a b) :
  tU Fence.wide n zt 137 #[.pointer (some ⟨bc,0,none⟩),.pointer (some ⟨bd,0,none⟩),.pointer (some ⟨ba,0,none⟩),.pointer (some ⟨bb,0,none⟩)] (uE B) bT (jK c a d b) W:=by
 intro l J Jx hJ hJx hY h0;have hc8:=nc.len;have hd8:=nd.len;have HY:=aA hY;have HJ:=aA hJ;clear hY hJ;refine callsIn_of_wp_marks Tryz.func137 rfl trivial ?_ rfl;simp only [Tryz.ntmps137,zg,ze,List.length_nil,Nat.reduceAdd,Nat.reduceSub,zk,zj,zf,zi,List.nil_append,zd];obtain ⟨a1,c1,rfl,_,L1,_⟩:=hW.m1.lits nc;obtain ⟨a2,c2,rfl,_,L2,_⟩:=hW.m2.lits nd;have e1:=hW.x1.cell;have e2:=hW.x2.cell;have e1a:=λX=>Below.at' ((Below.refl W.heap.size W).alloc (zz _) X) (zz _) e1
 have e2a:=λX=>Below.at' ((Below.refl W.heap.size W).alloc (zz _) X) (zz _) e2
 have HW:=aA hW;clear hW L1 L2 e1 e2;gi_wp2
 clear e1a e2a;refine ⟨trivial,λ_=>by omega,(callsIn_wide.2 (aKb _ _ _ _ _ _ _)).mono ?_⟩;rintro e w' ⟨rfl,rfl⟩;gi_wp2
 obtain ⟨W1,hW1,hb1,hy1,hs1⟩:=aDk W (.func (.yield l) #[] #[]) 171;simp only [hW1] at *;obtain ⟨W3,hW3,hb3,hp1,hp2,hs3⟩:=xT W1 (.slice a1 c.length c1) (.slice a2 d.length c2) 22;simp only [hW3] at *;have hbb:Below W.heap.size W W3:=hb1.trans (hb3.mono hb1.size);have hyb:Boxed W3 W.heap.size 171 (.func (.yield l) #[] #[]):=(bV (S:=bT) hb3).boxed hy1 (by decide);have hF3:=HW.out.kept (bV (S:=bT) hbb);have hJ3:=oV HJ.out h0 hbb;clear hW1 hW3 hy1 hb1 hb3 h0;rw [hs1] at hp1 hp2;refine aHc rfl (by omega) (gf:=149) (lb:=#[.pointer (some ⟨W.heap.size+1,0,none⟩),.pointer (some ⟨W.heap.size+1+1,0,none⟩)]) rfl trivial (enters_of Tryz.func149 (by kernel_rfl) rfl)
  (Enc:=λ(x:Nat×Nat) args _=>args=#[.int .i64 x.1,.int .i64 x.2]) (S:=bT) (L:=kH c d)
  (λo o'=>aJi (n-1) (W.heap.size+1) (W.heap.size+1+1) B (.slice a1 c.length c1) (.slice a2 d.length c2) c d (by omega) nc nd _ (oP.kept ⟨hp1,hp2,hF3.m1,hF3.m2⟩ (bV (((Below.refl _ W3).alloc (zz _) _).alloc (by simp) _))))
  (λx args W h=>by rw [h];rfl)
  (λk W'=>J (((kH c d).take k).filterMap (lO c a d b)).length W'/\(uH B W' bc bd ba bb (.slice a1 c.length c1) (.slice a2 d.length c2) c d a b/\Boxed W' W.heap.size 171 (.func (.yield l) #[] #[]))/\W3.heap.size<=W'.heap.size)
  (λcd _ W'=>cd=.ret/\∃k,Jx k W') ?hI ?hIx ?h0 ?A ?assign ?body ?done ?stop
 case hI=>exact (aDl HJ.out hbb.size _).and ((uG (λ_ _ _ h k=>⟨h.1.kept k,k.boxed h.2 (by decide)⟩)).and (λ_ _ _ _ h hg _=>zv h hg.size))
 case hIx=>
  rintro cd s X Y row ⟨h1,k,h2⟩ hg hr;exact ⟨h1,k,sC hJx hbb.size k X Y row h2 hg hr⟩
 case h0=>exact ⟨by simpa using hJ3,⟨hF3,hyb⟩,zz _⟩
 case assign=>
  rintro l2 x args Wr K rfl hK;gi_wp2
  exact hK
 case body=>
  rintro l2 k ⟨i,j⟩ Wr hl2 hx ⟨hJk,⟨hF,hy⟩,hsz⟩;obtain ⟨hi,hj⟩:=aKc hx;obtain ⟨a1',c1',ea,_,L1,_⟩:=hF.m1.lits nc;cases ea;obtain ⟨a2',c2',eb,_,L2,_⟩:=hF.m2.lits nd;cases eb;obtain ⟨g1,o1,aa,ac,rfl,k1,k2,k3⟩:=L1.cell i hi;obtain ⟨g2,o2,ba',bc',rfl,q1,q2,q3⟩:=L2.cell j hj;have hm1:=hF.x1.cell;have hm2:=hF.x2.cell;have hm3:=hF.x3.cell;have hm4:=hF.x4.cell;have hii:(i:Int)<(c.length:Int):=by omega
  have hjj:(j:Int)<(d.length:Int):=by omega
  have hsi:nZ c i=c[i].1:=by unfold nZ;rw [oA hi]
  have hsj:nZ d j=d[j].1:=by unfold nZ;rw [oA hj]
  have HF:=aA hF;have HYB:=aA hy;have HJK:=aA hJk;have HSZ:=aA hsz;have HX:=aA hx;have hmix:zt.follows .mixedOrders=true:=by kernel_rfl
  have hskip:lO c a d b (i,j)=none->∀nq dd,zJ W3.heap.size bT (λk W'=>J (((kH c d).take k).filterMap (lO c a d b)).length W'/\(uH B W' bc bd ba bb (.slice (some ⟨g1,o1,none⟩) c.length c1) (.slice (some ⟨g2,o2,none⟩) d.length c2) c d a b/\Boxed W' W.heap.size 171 (.func (.yield l) #[] #[]))/\W3.heap.size<=W'.heap.size) (λcd _ W'=>cd=.ret/\∃k,Jx k W') k Wr .normal dd (Wr.drewN nq):=by intro hs nq dd;have hb:Below Wr.heap.size Wr (Wr.drewN nq):=aI ⟨nq,rfl⟩;refine ⟨(Mv.of_below (S:=[]) (B:=0) hb).keepsFrom,bV hb,?_,⟨HF.out.kept (bV hb),(bV (S:=bT) hb).boxed HYB.out (by decide)⟩,HSZ.out⟩;rw [pP HX.out,zy];simp only [zw,hs,zu,zo];exact oV HJ.out HJK.out hb
  have HSK:=aA hskip;clear hF hy hJk hsz hx hskip;by_cases hsg:c[i].1≠d[j].1
  ·have hne2:(c[i].1 == d[j].1)=false:=by simp [hsg]
   obtain ⟨out0,yes0,er0,hfc⟩ : ∃o y e,sS c i d j=(o,y,e):=⟨_,_,_,rfl⟩;have CF:=aA (λ(wx:World) (hb:Below Wr.heap.size Wr wx)=>(aK9 (some ⟨g1,o1,none⟩) (some ⟨g2,o2,none⟩) c1 c2 c d i j wx (L1.below hb (zz _)) (L2.below hb (zz _)) nc.term nd.term hi hj nc.len nd.len).mono (R':=λe w2=>∃ad cp,e=.returned (.tuple #[.slice ad out0.length cp,.bool yes0,.int .i64 er0])/\bM B w2 (.slice ad out0.length cp) out0/\Below wx.heap.size wx w2) (λe w2 he=>by
    obtain ⟨v,yes,er,rfl,hco⟩:=he;obtain ⟨out,h1,h2,_⟩:=hco.out;have:=aKd hi hj h1;rw [hfc] at this;cases this;obtain ⟨ad,cp,rfl⟩:=h2.shape;exact ⟨ad,cp,rfl,h2.low (by have:=hb.size;have:=HSZ.out;have:=hbb.size;omega),hco.low⟩))
   clear L1 L2 k2 k3 q2 q3;gi_wp2
   refine xZ [_,_,_,_,_,_,_,_,_,_,_] rfl (by kernel_rfl) hmix (by kernel_rfl) (by kernel_rfl) ?_;repeat (gi_big_quiet_step (fail))
   refine wpQuietIn_nil ?_;rintro _ ⟨nq,rfl⟩;gi_wp2
   refine ⟨trivial,λ_=>by omega,(CallsIn.inRound l2 (callsIn_wide.2 (aB CF (Wr.drewN nq) (aI ⟨nq,rfl⟩)))).mono ?_⟩;rintro e w2 ⟨ad,cp,rfl,hcl,hb2⟩;have hbw:Below Wr.heap.size Wr w2:=(aI ⟨nq,rfl⟩).trans hb2;have hy2:=(bV (S:=bT) hbw).boxed HYB.out (by decide);have z1:=hy2.cell;have z2:=(HF.out.kept (bV hbw)).x3.cell;have z3:=(HF.out.kept (bV hbw)).x4.cell;have HY2:=aA hy2;have HBW:=aA hbw;have HCL:=aA hcl;have HJ2:=aA (oV HJ.out HJK.out hbw);clear hy2 hbw hcl hb2 CF;cases yes0 with
   | true=>
    have hfs:lO c a d b (i,j)=some (⟨2,a,b,i,j,out0⟩,er0):=by unfold lO;rw [if_pos (by rw [hsi,hsj];exact hsg),hfc];simp
    have hYY:=HY.out _ (⟨2,a,b,i,j,out0⟩,er0) #[.agg #[.int .i64 2,.int .i64 a,.int .i64 b,.int .i64 i,.int .i64 j,.slice ad out0.length cp],.int .i64 er0] w2 (aAg HX.out hfs) HJ2.out ⟨ad,cp,rfl,HCL.out⟩;obtain ⟨fn,tmps,assign,body,hy,hR⟩:=hYY;gi_wp2
    refine ⟨λ_=>by omega,(vW hR).mono ?_⟩;rintro e W4 (⟨rfl,hJ4,hk4⟩ | ⟨rfl,hJx4,hk4⟩)
    ·gi_wp2
     refine ⟨lJ (Mv.of_below (S:=[]) (B:=0) HBW.out).keepsFrom (jP hk4.2 hbb.size),(bV HBW.out).trans hk4.1,?_,⟨(HF.out.kept (bV HBW.out)).kept hk4.1,hk4.1.boxed HY2.out (by decide)⟩,zv (zv HSZ.out HBW.out.size) hk4.1.size⟩;rw [pP HX.out,zy,zp];simp only [zw,hfs,zu];exact hJ4
    ·gi_wp2
     exact ⟨lJ (Mv.of_below (S:=[]) (B:=0) HBW.out).keepsFrom (jP hk4 hbb.size),rfl,_,hJx4⟩
   | false=>
    by_cases her:er0=0
    ·have hfs:lO c a d b (i,j)=none:=by
      unfold lO;rw [if_pos (by rw [hsi,hsj];exact hsg),hfc];simp [her]
     subst her;gi_wp2
     refine ⟨λ_ h=>(by cases h),?_⟩;gi_wp2
     refine ⟨(Mv.of_below (S:=[]) (B:=0) HBW.out).keepsFrom,bV HBW.out,?_,⟨HF.out.kept (bV HBW.out),HY2.out⟩,zv HSZ.out HBW.out.size⟩;rw [pP HX.out,zy];simp only [zw,hfs,zu,zo];exact HJ2.out
    ·have hern:(er0 != 0)=true:=by simp [her]
     have hfs:lO c a d b (i,j)=some (⟨2,a,b,i,j,out0⟩,er0):=by unfold lO;rw [if_pos (by rw [hsi,hsj];exact hsg),hfc];simp [her]
     have hYY:=HY.out _ (⟨2,a,b,i,j,out0⟩,er0) #[.agg #[.int .i64 2,.int .i64 a,.int .i64 b,.int .i64 i,.int .i64 j,.slice ad out0.length cp],.int .i64 er0] w2 (aAg HX.out hfs) HJ2.out ⟨ad,cp,rfl,HCL.out⟩;obtain ⟨fn,tmps,assign,body,hy,hR⟩:=hYY;gi_wp2
     refine ⟨λ_=>by omega,(vW hR).mono ?_⟩;rintro e W4 (⟨rfl,hJ4,hk4⟩ | ⟨rfl,hJx4,hk4⟩)
     ·gi_wp2
      refine ⟨lJ (Mv.of_below (S:=[]) (B:=0) HBW.out).keepsFrom (jP hk4.2 hbb.size),(bV HBW.out).trans hk4.1,?_,⟨(HF.out.kept (bV HBW.out)).kept hk4.1,hk4.1.boxed HY2.out (by decide)⟩,zv (zv HSZ.out HBW.out.size) hk4.1.size⟩;rw [pP HX.out,zy,zp];simp only [zw,hfs,zu];exact hJ4
     ·gi_wp2
      exact ⟨lJ (Mv.of_below (S:=[]) (B:=0) HBW.out).keepsFrom (jP hk4 hbb.size),rfl,_,hJx4⟩
  ·have hse:c[i].1=d[j].1:=by simpa using hsg
   rw [<-hse] at q1;clear L1 L2 k2 k3 q2 q3;gi_wp2
   refine xZ [_,_,_,_,_,_,_,_,_,_,_] rfl (by kernel_rfl) hmix (by kernel_rfl) (by kernel_rfl) ?_;repeat (gi_big_quiet_step (fail))
   refine wpQuietIn_nil ?_;rintro _ ⟨nq,rfl⟩;gi_wp2
   exact HSK.out (by unfold lO;rw [if_neg (by rw [hsi,hsj];exact hsg)]) _ _
 case done=>
  rintro Wd ⟨hJd,_,_⟩ hK;gi_wp2
  refine ⟨by simp,.inl ⟨_,_,rfl,run_takeDeferred hK,?_⟩⟩;refine ⟨_,results_none rfl _ _ _,⟨_,rfl⟩,.inl ?_⟩;rw [zc] at hJd;exact HJ.out.putObj _ hJd hbb.size hK rfl
 case stop=>
  rintro cd k Wd ⟨rfl,k',hJd⟩ hK;gi_wp2
  refine ⟨by simp,.inl ⟨_,_,rfl,run_takeDeferred hK,?_⟩⟩;refine ⟨_,results_none rfl _ _ _,⟨_,rfl⟩,.inr ⟨k',?_⟩⟩;exact hJx.putObj _ hJd hbb.size hK rfl
end
section
open Go.RowKit Go.Shelf Go.WideMaps
def kX(p:aN×Value):List Value:=[.int .i64 p.1.r,.int .i64 p.1.a,.int .i64 p.1.b,.int .i64 p.1.i,.int .i64 p.1.j,p.2]
def jU(T:List (aN×Value)):List Value:=T.flatMap kX
theorem aXf(T:List (aN×Value)):(jU T).length=T.length*6:=by
 induction T with
 | nil=>rfl
 | cons x r ih=>simp [jU,kX] at ih ⊢;omega
theorem aKe:∀(T:List (aN×Value)) (k:Nat) (h:k<T.length),(jU T)[k*6+5]?=some T[k].2
 | [],k,h=>by simp at h
 | x :: T,0,_=>by simp [jU,kX]
 | x :: T,k+1,h=>by
  have:=aKe T k (by simpa using h);rw [show jU (x :: T)=kX x++jU T from rfl,zm (by simp [kX];omega),show (k+1)*6+5-(kX x).length=k*6+5 by simp [kX];omega,this];simp
structure kJ(B:Nat)(W:World)(vs:Value)(T:List (aN×Value)):Prop where
 row:W.ownsRow B 71 6 vs T.length (jU T)
 cl:∀p∈T,bM B W p.2 p.1.c
theorem kJ.kept{T:List (aN×Value)}{S:List TypeId}(h:kJ B W vs T)(k:dD S W W')(h1:71∉S)(h2:39∉S)(h3:36∉S):kJ B W' vs T:=
 ⟨k.row h.row h1,λp hp=>k.clause (h.cl p hp) h2 h3⟩
theorem kJ.cell{T:List (aN×Value)}(h:kJ B W vs T){k:Nat}(hk:k<T.length):∃g cap ad cp,vs=.slice (some ⟨g,0,none⟩) T.length cap/\T[k].2=.slice ad T[k].1.c.length cp/\W.cell? ⟨g,k*6+5,none⟩=some (.slice ad T[k].1.c.length cp)/\bM B W (.slice ad T[k].1.c.length cp) T[k].1.c:=by
 have hc:=h.cl T[k] (zs hk);obtain ⟨ad,cp,e⟩:=hc.shape;obtain ⟨h1,⟨_,e1⟩ | ⟨g,cap,cur,rfl,hb,hh,hr⟩⟩:=h.row
 ·omega
 ·have hl:=aXf T;refine ⟨g,cap,ad,cp,rfl,e,?_,by rw [<-e];exact hc⟩;rw [h.row.cellAt (k*6+5) (by omega),aKe T k hk,e]
def aQ(T:List (aN×Value))(k:Nat):List Lt:=((T[k]?).map λp=>p.1.c).getD []
theorem uI{T:List (aN×Value)}(hk:k<T.length):aQ T k=T[k].1.c:=by simp [aQ,hk]
theorem aXg(B:Nat)(vs:Value)(T:List (aN×Value))(a:Nat)(w:World)(h:kJ B w vs T)(ha:a<T.length) :
  Calls zt 123 #[vs,.int .i64 a] w λe w'=>∃bc ba v,e=.returned (.func (.func 135) #[] #[.pointer (some ⟨bc,0,none⟩),.pointer (some ⟨ba,0,none⟩)])/\uF B w' bc ba v (aQ T a) a/\Below w.heap.size w w':=by
 obtain ⟨g,cap,ad,cp,rfl,_,hc,hm⟩:=h.cell ha;rw [<-uI ha] at hc hm;have hai:(a:Int)<(T.length:Int):=by omega
 have e1:=λX=>Below.at' ((Below.refl w.heap.size w).alloc (zz _) X) (zz _) hc
 clear hc;go_enter Tryz.func123,Tryz.ntmps123;go_wp2;go_ret;have hb1:Below w.heap.size w (w.alloc (.cells #[.int .i64 a] 3)):=(Below.refl _ w).alloc (zz _) _;have hb2:Below w.heap.size w ((w.alloc (.cells #[.int .i64 a] 3)).alloc (.cells #[.slice ad (aQ T a).length cp] 22)):=hb1.alloc (by simp) _;refine ⟨w.heap.size+1,w.heap.size,.slice ad (aQ T a).length cp,rfl,⟨?_,?_,hm.below hb2⟩,hb2⟩
 ·have:=zx (w.alloc (.cells #[.int .i64 a] 3)) (.cells #[.slice ad (aQ T a).length cp] 22);rwa [zr] at this
 ·exact (Below.heap_alloc _ _ _ (by simp)).trans (zx w _)
theorem aXh(B:Nat)(vs:Value)(T:List (aN×Value))(a b:Nat)(w:World)(h:kJ B w vs T)(ha:a<T.length)(hb:b<T.length) :
  Calls zt 124 #[vs,.int .i64 a,.int .i64 b] w λe w'=>∃bc bd ba bb v u,e=.returned (.func (.func 137) #[] #[.pointer (some ⟨bc,0,none⟩),.pointer (some ⟨bd,0,none⟩),.pointer (some ⟨ba,0,none⟩),.pointer (some ⟨bb,0,none⟩)])/\uH B w' bc bd ba bb v u (aQ T a) (aQ T b) a b/\Below w.heap.size w w':=by
 obtain ⟨g,cap,ad,cp,rfl,_,hc,hm⟩:=h.cell ha;obtain ⟨g',cap',ad',cp',e,_,hc',hm'⟩:=h.cell hb;cases e;rw [<-uI ha] at hc hm;rw [<-uI hb] at hc' hm';have hai:(a:Int)<(T.length:Int):=by omega
 have hbi:(b:Int)<(T.length:Int):=by omega
 go_enter Tryz.func124,Tryz.ntmps124;have hmix:zt.follows .mixedOrders=true:=by kernel_rfl
 go_wp2;obtain ⟨w2,hw2,hb2,x1,x2,hs2⟩:=xT w (.int .i64 a) (.int .i64 b) 3;simp only [hw2];clear hw2;have f0:=Below.at' hb2 (zz _) hc;have f1:=Below.at' hb2 (zz _) hc';have f2:=x1.cell;have f3:=x2.cell;have e0:=λX=>Below.at' ((Below.refl w2.heap.size w2).alloc (zz _) X) (zz _) f0
 have e1:=λX=>Below.at' ((Below.refl w2.heap.size w2).alloc (zz _) X) (zz _) f1
 have e2:=λX=>Below.at' ((Below.refl w2.heap.size w2).alloc (zz _) X) (zz _) f2
 have e3:=λX=>Below.at' ((Below.refl w2.heap.size w2).alloc (zz _) X) (zz _) f3
 have d0:=λX Y=>Below.at' (((Below.refl w2.heap.size w2).alloc (zz _) X).alloc (by simp) Y) (zz _) f0
 have d1:=λX Y=>Below.at' (((Below.refl w2.heap.size w2).alloc (zz _) X).alloc (by simp) Y) (zz _) f1
 have d2:=λX Y=>Below.at' (((Below.refl w2.heap.size w2).alloc (zz _) X).alloc (by simp) Y) (zz _) f2
 have d3:=λX Y=>Below.at' (((Below.refl w2.heap.size w2).alloc (zz _) X).alloc (by simp) Y) (zz _) f3
 clear hc hc';go_region
 ·go_wp2;go_ret;obtain ⟨w3,hw3,hb3,y1,y2,_⟩:=xT w2 (.slice ad (aQ T a).length cp) (.slice ad' (aQ T b).length cp') 22;rw [hw3];rw [hs2] at y1 y2;have hb4:Below w2.heap.size w2 w3.drew:=hb3.trans ((aI ⟨1,rfl⟩).mono hb3.size);have hk:dD bT w3 w3.drew:=bV (aI ⟨1,rfl⟩);have hb5:Below w.heap.size w w3.drew:=hb2.trans (hb4.mono hb2.size);exact ⟨w.heap.size+2,w.heap.size+2+1,w.heap.size,w.heap.size+1,_,_,rfl,⟨hk.boxed y1 (by decide),hk.boxed y2 (by decide),(bV (S:=bT) hb4).boxed x1 (by decide),(bV (S:=bT) hb4).boxed x2 (by decide),hm.below hb5,hm'.below hb5⟩,hb5⟩
 ·go_wp2;go_ret;obtain ⟨w3,hw3,hb3,y1,y2,_⟩:=xT w2 (.slice ad' (aQ T b).length cp') (.slice ad (aQ T a).length cp) 22;rw [hw3];rw [hs2] at y1 y2;have hb4:Below w2.heap.size w2 w3.drew:=hb3.trans ((aI ⟨1,rfl⟩).mono hb3.size);have hk:dD bT w3 w3.drew:=bV (aI ⟨1,rfl⟩);have hb5:Below w.heap.size w w3.drew:=hb2.trans (hb4.mono hb2.size);exact ⟨w.heap.size+2+1,w.heap.size+2,w.heap.size,w.heap.size+1,_,_,rfl,⟨hk.boxed y2 (by decide),hk.boxed y1 (by decide),(bV (S:=bT) hb4).boxed x1 (by decide),(bV (S:=bT) hb4).boxed x2 (by decide),hm.below hb5,hm'.below hb5⟩,hb5⟩
structure rH(B:Nat)(W:World)(bs ba bo:Nat)(vs vo:Value)(T:List (aN×Value))(a:Nat)(os:List Nat):Prop where
 x1:Boxed W bs 45 vs
 x2:Boxed W ba 3 (.int .i64 a)
 x3:Boxed W bo 25 vo
 st:kJ B W vs T
 ot:W.ownsRow B 3 1 vo os.length (os.map λk=>Value.int .i64 (k:Nat))
theorem rH.kept{bs ba bo:Nat}{vo:Value}{T:List (aN×Value)}{os:List Nat}(h:rH B W bs ba bo vs vo T a os)(k:dD bT W W'):rH B W' bs ba bo vs vo T a os:=
 ⟨k.boxed h.x1 (by decide),k.boxed h.x2 (by decide),k.boxed h.x3 (by decide),h.st.kept k (by decide) (by decide) (by decide),k.row h.ot (by decide)⟩
theorem aXi(B:Nat)(a1 a2:Option Addr)(n1 n2 c1 c2:Nat)(T:List (aN×Value))(a:Nat)(os:List Nat)(w:World)(h:kJ B w (.slice a1 n1 c1) T)(ho:w.ownsRow B 3 1 (.slice a2 n2 c2) os.length (os.map λk=>Value.int .i64 (k:Nat))) :
  Calls zt 97 #[.slice a1 n1 c1,.int .i64 a,.slice a2 n2 c2] w λe w'=>∃bs ba bo,e=.returned (.func (.func 122) #[] #[.pointer (some ⟨bs,0,none⟩),.pointer (some ⟨ba,0,none⟩),.pointer (some ⟨bo,0,none⟩)])/\rH B w' bs ba bo (.slice a1 n1 c1) (.slice a2 n2 c2) T a os/\Below w.heap.size w w':=by
 go_enter Tryz.func97,Tryz.ntmps97;go_wp2;go_ret;have hb1:Below w.heap.size w (w.alloc (.cells #[.slice a1 n1 c1] 45)):=(Below.refl _ w).alloc (zz _) _;have hb2:Below w.heap.size w ((w.alloc (.cells #[.slice a1 n1 c1] 45)).alloc (.cells #[.int .i64 a] 3)):=hb1.alloc (by simp) _;have hb3:Below w.heap.size w (((w.alloc (.cells #[.slice a1 n1 c1] 45)).alloc (.cells #[.int .i64 a] 3)).alloc (.cells #[.slice a2 n2 c2] 25)):=hb2.alloc (by simp;omega) _;refine ⟨w.heap.size,w.heap.size+1,w.heap.size+1+1,rfl,⟨?_,?_,?_,h.kept (S:=[]) (bV hb3) (by simp) (by simp) (by simp),aU ho hb3 (zz _)⟩,hb3⟩
 ·exact (Below.heap_alloc _ _ _ (by simp;omega)).trans ((Below.heap_alloc _ _ _ (by simp)).trans (zx w _))
 ·refine (Below.heap_alloc _ _ _ (by simp)).trans ?_;have:=zx (w.alloc (.cells #[.slice a1 n1 c1] 45)) (.cells #[.int .i64 a] 3);rwa [zr] at this
 ·have:=zx ((w.alloc (.cells #[.slice a1 n1 c1] 45)).alloc (.cells #[.int .i64 a] 3)) (.cells #[.slice a2 n2 c2] 25);rwa [zr,zr] at this
theorem xU{F:Fence}{n:Nat}{P:Program}{fn:Func}{tmps:Array Value}{R:Ending->World->Prop}{N:Nat}{I:World->Prop}(hres:fn.results=#[])(hI:OwnFrom N (λ(_:Unit) W=>I W))(hR:∀v w,I w->R (.returned v) w) :
  ∀(ms:List Nat) (w:World),I w->(∀D∈ms,N<=D/\w.heap[D]?=some (.deferred (some [])))->ms.Nodup->LeavesInM F n P fn tmps R (ms.map λD=>{target:=.collected D,args:=#[]}) .returning w
 | [],w,h,_,_=>⟨_,results_none hres _ _ _,hR _ w h⟩
 | D :: ms,w,h,hd,hn=>by
  obtain ⟨h1,h2⟩:=hd D (by simp);refine ⟨by simp,.inl ⟨D,_,rfl,run_takeDeferred h2,?_⟩⟩;refine xU hres hI hR ms _ (hI.putObj (s:=()) _ h h1 h2 rfl) (λD' hD'=>?_) (List.nodup_cons.1 hn).2;have hne:D'≠D:=λe=>(List.nodup_cons.1 hn).1 (by rw [<-e];exact hD')
  obtain ⟨h3,h4⟩:=hd D' (by simp [hD']);exact ⟨h3,(World.putObj_heap_other hne).trans h4⟩
end
end Go.Proofs.YtcldkjcpofjmhaaGreatDoor
