import Derived.Test.YtcldkjcpofjmhaaGreatDoorUSzF
import Derived.Deep.CutRange
import Derived.Test.YtcldkjcpofjmhaaGreatDoorVExtF
open List renaming eraseIdx_of_length_le→zu,eraseIdx_append_of_length_le→zt,take_succ_eq_append_getElem→zs,length_cons→zq,length_append→zo,replicate→zm,getElem?_eq_some_iff→zk,mem_map→zi,mem_cons_of_mem→ze,flatten_cons→zc,cons_append→za
open Nat renaming le_refl→zy,le_trans→zv
open Or renaming inr→zp,inl→z5
open Prod renaming snd→zw
namespace Go.Proofs.YtcldkjcpofjmhaaGreatDoor
open Oper renaming semAt_some→zh
open _root_.Go.Proofs.Tryz renaming prog→zr
open Value renaming ownBlock→zz,slice→zf
open World renaming block_lt_of_cell?→zx,cell?_setCell_same'→zl,frozen?_of_block→zj,frozen?_setCell→zg,grownBy→zd,size_alloc→zb
set_option maxHeartbeats 2000000
set_option maxRecDepth 100000
variable{S:List Int}{F:List Nat}{out:List Nd}{xs:List Value}{B n size tb:Nat}{e:TypeId}{v ve vl vm vn vs:Value}{w:World}
section
open Go.RowKit Go.Shelf Go.WideMaps
attribute [local go_sem] zh
theorem aA7(h:w.ownsRow B e size v n xs)(hv:v.ownBlock≠none):∃g c,v=.slice (some ⟨g,0,none⟩) n c:=by
 obtain ⟨_,⟨rfl,_⟩ | ⟨g,cap,cur,rfl,_⟩⟩:=h
 ·exact absurd rfl hv
 ·exact ⟨g,cap,rfl⟩
theorem aJs(w:World)(x y:Value)(t1 t2:TypeId):∃W,W=(w.alloc (.cells #[x] t1)).alloc (.cells #[y] t2)/\Below w.heap.size w W/\W.cell? ⟨w.heap.size,0,none⟩=some x/\W.cell? ⟨w.heap.size+1,0,none⟩=some y/\W.frozen? ⟨w.heap.size+1,0,none⟩=false/\W.heap.size=w.heap.size+2:=by
 refine ⟨_,rfl,((Below.refl _ _).alloc (zy _) _).alloc (by simp) _,?_,?_,?_,by simp⟩
 ·exact Below.at' ((Below.refl _ (w.alloc (.cells #[x] t1))).alloc (zy _) (.cells #[y] t2)) (zy _) (rB w x t1).1
 ·have:=(rB (w.alloc (.cells #[x] t1)) y t2).1;rw [zb] at this;exact this
 ·have:=(rB (w.alloc (.cells #[x] t1)) y t2).2;rw [zb] at this;exact this
def aJt(Q:Exit->Act->World->Prop):Exit->Act->World->Prop
 | .panic _,_,_=>False
 | e,a,w=>Q e a w
theorem aW8{c:Code}{Q:Exit->Act->World->Prop}{a:Act}(h:c.wp zr (aJt Q) a w):c.wp zr Q a w:=
 Code.wp_mono (λe a w h=>by cases e <;> first | exact h | exact False.elim h) h
theorem aJu{w2 w3:World}{gv:Nat}{t u:Value}{o:Obj}(hg:(w2.drew.alloc o).grownBy w3 (some gv))(k0:w2.cell? ⟨w.heap.size,0,none⟩=some t)(k1:w2.cell? ⟨w.heap.size+1,0,none⟩=some u)(kf:w2.frozen? ⟨w.heap.size+1,0,none⟩=false)(h0:w.heap.size≠gv)(h1:w.heap.size+1≠gv) :
  w3.cell? ⟨w.heap.size,0,none⟩=some t/\w3.cell? ⟨w.heap.size+1,0,none⟩=some u/\w3.frozen? ⟨w.heap.size+1,0,none⟩=false:=by
 have hb:Below w2.heap.size w2 (w2.drew.alloc o):=(aI (w1:=w2.drew) ⟨1,rfl⟩).alloc (zy _) o;have j0:=Below.at' hb (zy _) k0;have j1:=Below.at' hb (zy _) k1;refine ⟨hg.cell j0 (by simpa using h0),hg.cell j1 (by simpa using h1),?_⟩;rw [zj (hg.block _ (zx _ _ j1) (by simpa using h1)),hb.frozen (p:=⟨w.heap.size+1,0,none⟩) (zx _ _ k1)];exact kf
theorem aW9{Q:Exit->Act->World->Prop}{a:Act}(h:Q .normal a w):aJt Q .normal a w:=h
theorem aWa{w0 w2 w3:World}{L:List Nd}{B1 gv cv g3 c3:Nat}{nd:Nd}{ex:Nat->List Nd}{o:Obj}(h0:bF w0 B tb vn ve vl vs vm L F S)(h:bF w B tb vn ve vl vs vm L F S)(hb:Below w.heap.size w w2)(hB1:w0.heap.size<=B1)(hgv:B1<=gv/\gv<w.heap.size)(hg:(w2.drew.alloc o).grownBy w3 (some gv))(k0:w2.cell? ⟨w.heap.size,0,none⟩=some (.pointer (some ⟨tb,0,none⟩))){u:Value}(k1:w2.cell? ⟨w.heap.size+1,0,none⟩=some u)(kf:w2.frozen? ⟨w.heap.size+1,0,none⟩=false)
  (ho:w3.ownsRow B1 36 2 (.slice (some ⟨g3,0,none⟩) (out.length+1) c3) (out.length+1) (aG (out++[nd]))) (hw:(zf (some ⟨g3,0,none⟩) (out.length+1) c3).ownBlock=some gv\/(zf (some ⟨g3,0,none⟩) (out.length+1) c3).ownBlock=some (w2.drew.alloc o).heap.size) :
  mN w B tb vn ve vl vs vm L F S B1 (.slice (some ⟨gv,0,none⟩) out.length cv) (out++[nd]) ex (w.heap.size+1) (w.heap.size+2) [] (w3.setCell ⟨w.heap.size+1,0,none⟩ (.slice (some ⟨g3,0,none⟩) (out.length+1) c3)):=by
 have hb2:Below w2.heap.size w2 (w2.drew.alloc o):=(aI (w1:=w2.drew) ⟨1,rfl⟩).alloc (zy _) o;have hbA:Below w.heap.size w (w2.drew.alloc o):=hb.trans (hb2.mono hb.size);obtain ⟨e0,e1,e2,e3,e4⟩:=h0.lts (zv hB1 hgv.1);have ht3:=(h.below hbA).grown hg e0 (zp e1) (zp e2) (zp e3) (zp e4);obtain ⟨d0,d1,df⟩:=aJu hg k0 k1 kf (by omega) (by omega);have hlt2:w.heap.size+1<w2.heap.size:=zx _ _ k1;have hs3:=hg.size;have hsA:(w2.drew.alloc o).heap.size=w2.heap.size+1:=by simp
 have hg3:g3=gv\/g3=w2.heap.size+1:=by simp only [zz,Option.some.injEq] at hw;rw [hsA] at hw;exact hw
 have hne:g3≠w.heap.size+1/\g3≠w.heap.size:=by omega
 have hss:(w3.setCell ⟨w.heap.size+1,0,none⟩ (.slice (some ⟨g3,0,none⟩) (out.length+1) c3)).heap.size=w3.heap.size:=by simp [World.setCell]
 refine ⟨by omega,ht3.boxed h (by omega) 0 _,⟨_,zl _ _ _ (by rw [d1];rfl),?_,by simp [zz],?_,by simpa [zz] using hne.1,by simpa [zz] using hne.2,?_⟩,?_,mJ (xL hbA hg) (by omega) 0 _,fY d0 (by omega)⟩
 ·have:=qN ho (p:=⟨w.heap.size+1,0,none⟩) (by simp [zz];omega) (.slice (some ⟨g3,0,none⟩) (out.length+1) c3);simpa using this
 ·rcases hg3 with e | e
  ·exact z5 (by simp [zz,e])
  ·exact zp ⟨g3,rfl,by omega⟩
 ·intro k h1 h2 e;simp [zz] at e;omega
 ·rw [zg];exact df
theorem aWb(h:w.ownsRow B e size v n xs)(hv:v.ownBlock≠none):∃g m c,v=.slice (some ⟨g,0,none⟩) m c:=by obtain ⟨g,c,h⟩:=aA7 h hv;exact ⟨g,_,c,h⟩
theorem aWc{C:List Nat}{ex:Nat->List Nd}(h:∀y∈C,1<=(ex y).length):C.length<=((C.map ex).flatten).length/\∀x∈C,(ex x).length+C.length<=((C.map ex).flatten).length+1:=by
 induction C with
 | nil=>simp
 | cons y C ih=>
  obtain ⟨h1,h2⟩:=ih (λz hz=>h z (ze _ hz));have hy:=h y (by simp);simp only [List.map_cons,zc,zo,zq];refine ⟨by omega,λx hx=>?_⟩;rcases List.mem_cons.1 hx with rfl | hx
  ·omega
  ·have:=h2 x hx;omega
theorem aWd{pre:List Nat}{ex:Nat->List Nd}{M:Nat}(h:∀y∈pre,(ex y).length<=M):((pre.map ex).flatten).length<=pre.length*M:=by
 induction pre with
 | nil=>simp
 | cons y C ih=>
  have h1:=ih (λz hz=>h z (ze _ hz));have h2:=h y (by simp);simp only [List.map_cons,zc,zo,zq,Nat.add_mul];omega
theorem aWe{j k M e:Nat}(hk:j<k)(hn:k+M=n)(he:e<=M):1+j*M+e*e<=n*n:=by
 subst hn;have h1:e*e<=M*M:=Nat.mul_le_mul he he;have h2:j*M<=k*M:=Nat.mul_le_mul_right _ (Nat.le_of_lt hk);have h3:0<k*k:=Nat.mul_pos (by omega) (by omega);have h4:(k+M)*(k+M)=k*k+k*M+(k*M+M*M):=by rw [Nat.add_mul,Nat.mul_add,Nat.mul_add,Nat.mul_comm M k]
 rw [h4];omega
theorem mN.boxes{W W6:World}{L:List Nd}{B1:Nat}{ex:Nat->List Nd}{nb N0:Nat}(h:mN w B tb vn ve vl vs vm L F S B1 v out ex nb N0 [] W)(hb:Below W.heap.size W W6)(hs:W6.heap.size=W.heap.size+2):mN w B tb vn ve vl vs vm L F S B1 v out ex nb W6.heap.size [] W6:=by
 obtain ⟨v',h1,h2,h3,h4,h5,h6,h7⟩:=h.st;refine ⟨zy _,h.tm.below hb,⟨v',Below.at' hb (zy _) h1,aU h2 hb (zy _),h3,h4,h5,h6,?_⟩,(hb.frozen (p:=⟨nb,0,none⟩) (zx _ _ h1)).trans h.nf,aGu h.far (aX.refl _ _) ?_,Below.at' hb (zy _) h.x0⟩
 ·intro k k1 k2 e;have:=(aT h2 k e).2;omega
 ·exact fV hb
theorem mN.next{W W':World}{L:List Nd}{B1:Nat}{ex:Nat->List Nd}{nb N0 x:Nat}{pre:List Nat}(h0:bF w B tb vn ve vl vs vm L F S)(h:mN w B tb vn ve vl vs vm L F S B1 v out ex nb N0 pre W)(hnb:w.heap.size<nb)(hN:nb<N0){g n c:Nat}{v2:Value}(hc:W.cell? ⟨nb,0,none⟩=some (.slice (some ⟨g,0,none⟩) n c))(hm:aX w v (.slice (some ⟨g,0,none⟩) n c))(h1:g≠nb)(h2:g≠w.heap.size)(h3:∀k,N0<=k+2->k<N0->g≠k)
  (hr:aJl W B tb vn ve vl vs vm L F S B1 (.slice (some ⟨g,0,none⟩) n c) (out++(pre.map ex).flatten++ex x) v2 W'):mN w B tb vn ve vl vs vm L F S B1 v out ex nb N0 (pre++[x]) (W'.setCell ⟨nb,0,none⟩ v2)/\W'.cell? ⟨nb,0,none⟩=some (.slice (some ⟨g,0,none⟩) n c)/\W'.frozen? ⟨nb,0,none⟩=false:=by
 have hfar:W.grownBy W' (some g):=hr.far;have hsz:=hfar.size;have hbig:=h.big;have hd:=hfar.cell hc (by simp;omega);have hdf:W'.frozen? ⟨nb,0,none⟩=false:=(zj (hfar.block nb (zx W ⟨nb,0,none⟩ hc) (by simp;omega))).trans h.nf;have hv2:v2.ownBlock=some g\/∃k,v2.ownBlock=some k/\W.heap.size<=k:=hr.moved;have hss:(W'.setCell ⟨nb,0,none⟩ v2).heap.size=W'.heap.size:=by simp [World.setCell]
 have hn2:v2.ownBlock≠some nb:=by rcases hv2 with e | ⟨k,e,hk⟩ <;> rw [e] <;> simp <;> omega
 have hn3:v2.ownBlock≠some w.heap.size:=by rcases hv2 with e | ⟨k,e,hk⟩ <;> rw [e] <;> simp <;> omega
 have hws:=h.far.size;refine ⟨⟨by omega,hr.tm.boxed h0 (by omega) 0 _,⟨v2,zl _ _ _ (by rw [hd];rfl),?_,hr.some,hm.trans hr.moved hws,hn2,hn3,?_⟩,?_,mJ (aGu h.far hm hr.far) (by omega) 0 _,fY (hfar.cell h.x0 (by simp;omega)) (by omega)⟩,hd,hdf⟩
 ·have:=qN hr.row (p:=⟨nb,0,none⟩) (λe=>hn2 e.symm) v2;have e:out++((pre++[x]).map ex).flatten=out++(pre.map ex).flatten++ex x:=by simp
  rw [e];exact this
 ·intro k k1 k2;rcases hv2 with e | ⟨k',e,hk⟩ <;> rw [e] <;> simp
  ·exact h3 k k1 k2
  ·omega
 ·rw [zg];exact hdf
theorem aWf(B tb:Nat)(vn ve vl vs vm:Value)(L:List Nd)(F:List Nat)(S:List Int)(rt d:Nat->Nat)(hL:dE L)(hF:gB F rt d)(hN:jT L rt)(hC:dR (aC L) (λi j=>rt i=rt j) λ_ _=>False)(w0:World)(h0:bF w0 B tb vn ve vl vs vm L F S)(B1:Nat)(hB1:w0.heap.size<=B1) :
  ∀(m:Nat) (a:Nat) (l out:List Nd) (v:Value) (w:World),l.length<m->aL (aC L) (λi j=>rt i=rt j) rt [a] l->bF w B tb vn ve vl vs vm L F S->w.ownsRow B1 36 2 v out.length (aG out)->v.ownBlock≠none->B1<=w.heap.size->out.length+l.length*l.length<=1000000->a<L.length->
  Calls zr 116 #[.pointer (some ⟨tb,0,none⟩),v,.int .i64 a] w λe w'=>∃v',e=.returned v'/\aJl w B tb vn ve vl vs vm L F S B1 v (out++l) v' w':=by
 obtain ⟨hD,hNC⟩:=aJc hC (qB rt);intro m;induction m with
 | zero=>intro a l out v w hm;omega
 | succ m ih=>
  intro a l out v w hm hX h hv hvn hBw hsq ha;have hlen:out.length+l.length<=1000000:=zv (Nat.add_le_add_left (Nat.le_mul_self _) _) hsq;have HSQ:=aA hsq;clear hsq;obtain ⟨gv,cv,rfl⟩:=aA7 hv hvn;have hgv:=aT hv gv rfl;obtain ⟨w1,hw1,hb1,x0,x1,f1,hs1⟩:=aJs w (.pointer (some ⟨tb,0,none⟩)) (.slice (some ⟨gv,0,none⟩) out.length cv) 107 37;have CA:=aA (aD8 B tb vn ve vl vs vm L F S rt d a w1 (h.below hb1) hF ha);have hra:rt a<L.length:=by rw [<-h.lf];exact hF.rt_lt (by rw [h.lf];exact ha)
  have hrr:=hF.rt_rt a;obtain ⟨nd,hnd⟩ : ∃n,L[rt a]?=some n:=⟨L[rt a],List.getElem?_eq_getElem hra⟩;obtain ⟨gn,cn,rfl,c0,c1⟩:=(h.below hb1).node hnd;have cn0:=(h.below hb1).c0;have hfew:=h.few;have HT:=aA h;have HB1:=aA hb1;have HX:=aA hX;have HV:=aA hv;have HD:=aA hD;have HNC:=aA hNC;have HN:=aA hN;have HF:=aA hF;have IH:=aA ih;have HM:=aA hm;obtain ⟨s,xx⟩:=nd;simp only at c0 c1;obtain ⟨r,hr⟩ : ∃r,r=rt a:=⟨_,rfl⟩;rw [<-hr] at hra hrr hnd c0 c1 CA;have HRT:=aA hr;have HRR:=aA hrr;have HND:=aA hnd;have hri:(r:Int)<(L.length:Int):=by omega
  have CV:=aA (λwx=>qS s xx wx);clear h hb1 hX hv hvn hD hNC hN hF ih hm hr hrr hnd hC;refine (callsIn_wide (n:=3)).1 ?_;refine callsIn_of_wp_marks Tryz.func116 rfl trivial ?_;simp only [Tryz.ntmps116,List.size_toArray,zq,List.length_nil,Nat.reduceAdd,Nat.reduceSub,Array.replicate_succ,Array.replicate_zero,List.push_toArray,List.append_toArray,List.nil_append,za];refine wpIn_wide.2 ?_;by_cases hvar:s.toList.isEmpty=true
  ·rw [hvar] at CV;have hvb:aF (s,xx)=true:=hvar;have hnn:∀j,rt r=rt j->¬(aC L).named j:=by
    intro j e hj;have:=HN.out j hj;rw [<-e,HRR.out,fL HND.out,hvb] at this;cases this
   have hl:l=[(⟨#[]⟩,(r:Int))]:=by have h1:aL (aC L) (λi j=>rt i=rt j) rt [a] [(⟨#[]⟩,((rt a:Nat):Int))]:=aL.var (λj e hj=>hnn j (by rw [HRR.out,HRT.out];exact e) hj) aL.nil;have h2:=HX.out.one HD.out HNC.out (oD L) (λ_ _ e=>e) _ h1;rw [h2,HRT.out]
   subst hl;have HAP:=aA (λ(w2:World) (hb2:Below w1.heap.size w1 w2)=>aJk (w2.alloc (.cells #[.string ⟨#[]⟩,.int .i64 r] 36)) 37 B1 _ out ((aU (aU HV.out HB1.out (zy _)) hb2 (zy _)).alloc _) (by simp [zz]) (by omega) (by have:=HB1.out.size;have:=hb2.size;simp;omega) w2.heap.size 1 (⟨#[]⟩,(r:Int)) (tQ _ _ _ _).1 (tQ _ _ _ _).2);subst hw1;clear hnn hvb;go_wp2_with (first
    | (go_at_call 114;refine (aB CA).mono ?_;rintro e w' ⟨rfl,rfl⟩)
    | (go_at_call 83;refine (aB CV _).mono ?_;rintro e w2 ⟨rfl,hb2⟩;have k1:=Below.at' hb2 (zy _) x1;have HB2:=aA hb2;obtain ⟨v3,w3,hr3,ho3,hg3,hw3⟩:=HAP.out w2 hb2;have HR3:=aA hr3;have HO3:=aA ho3;have HG3:=aA hg3;have HW3:=aA hw3;clear hb2 hr3 ho3 hg3 hw3)
    | (at_builtin;refine Go.Lib.wpList_append_run _ rfl _ _ _ _ rfl _ _ rfl rfl _ _ (aB HR3) ?_)
    | go_in)
   refine uB (v:=v3) rfl (by simp [results,Tryz.results116,go_sem]) ?_;have hbA:Below w.heap.size w (w2.alloc (.cells #[.string ⟨#[]⟩,.int .i64 r] 36)):=(HB1.out.trans (HB2.out.mono HB1.out.size)).alloc (zv HB1.out.size HB2.out.size) _;obtain ⟨e0,e1,e2,e3,e4⟩:=h0.lts (zv hB1 hgv.1);exact ⟨v3,rfl,⟨(HT.out.below hbA).grown HG3.out e0 (zp e1) (zp e2) (zp e3) (zp e4),by simpa using HO3.out,by rcases HW3.out with e | e <;> rw [e] <;> simp [zz],xL hbA HG3.out,by
    rcases HW3.out with e | e
    ·exact z5 e
    ·exact zp ⟨_,e,hbA.size⟩⟩⟩
  ·have hvb:aF (s,xx)=false:=by simpa [aF] using hvar
   rw [show s.toList.isEmpty=false by simpa using hvar] at CV;have hnm:(aC L).named r:=by rw [fL HND.out];exact hvb
   have hra2:rt a=rt r:=by rw [HRR.out,HRT.out]
   obtain ⟨l',hl',hX'⟩ : ∃l',l=(s,xx) :: l'/\aL (aC L) (λi j=>rt i=rt j) rt ((aC L).ch r) l':=by
    have hX:=HX.out;cases hX with
    | var h1 _=>exact absurd hnm (h1 r hra2)
    | @name _ j _ l' h1 h2 h3=>
     have hjr:rt j=rt r:=h1.symm.trans hra2;refine ⟨l',by rw [HNC.out j r hjr h2 hnm,lC HND.out],?_⟩;rw [List.append_nil] at h3;exact h3.same HD.out (λ_ _ e=>e) _ (uX HD.out HNC.out (oD L) hjr h2 hnm)
   subst hl';have hlen1:out.length+(l'.length+1)<=1000000:=by simpa using hlen
   obtain ⟨C,hCe⟩ : ∃C,(aC L).ch r=C:=⟨_,rfl⟩;rw [hCe] at hX';obtain ⟨ex,hex,hexl,hexf⟩:=aJn HD.out HNC.out (oD L) (λ_ _ e=>e) hX';obtain ⟨ge,ce,rfl,_⟩:=HT.out.ends (by omega);subst hw1;go_upto_region 4 with (first
    | (go_at_call 114;refine (aB CA).mono ?_;rintro e w' ⟨rfl,rfl⟩)
    | (go_at_call 83;refine (aB CV _).mono ?_;rintro e w2 ⟨rfl,hb2⟩;have k0:=Below.at' hb2 (zy _) x0;have k1:=Below.at' hb2 (zy _) x1;have kf1:=(hb2.frozen (p:=⟨w.heap.size+1,0,none⟩) (zx _ _ x1)).trans f1;have kc0:=Below.at' hb2 (zy _) c0;have kc1:=Below.at' hb2 (zy _) c1;have kn0:=Below.at' hb2 (zy _) cn0;have HB2:=aA (HB1.out.trans (hb2.mono HB1.out.size));clear hb2)
    | go_in)
   have hw2:=HB2.out.size;have hW2:w.heap.size+1<w2.heap.size:=zx _ _ k1;have HV2:=aA (aU HV.out (HB2.out.trans ((aI (w1:=w2.drew) ⟨1,rfl⟩).mono hw2)) (zy _));have HKP:=aA (λ(w3:World) (hg:(w2.drew.alloc (.cells #[.string s,.int .i64 xx] 36)).grownBy w3 (some gv))=>aJu hg k0 k1 kf1 (by omega) (by omega));have kA0:=λX=>Below.at' ((Below.refl w2.heap.size w2).alloc (zy _) X) (zy _) k1
   have kA1:=λX=>Below.at' ((Below.refl w2.heap.size w2).alloc (zy _) X) (zy _) k0
   have hrz:(0:Int)<=(r:Int):=Int.natCast_nonneg _;have HMID:=aA (λ(w3:World) (g3 c3:Nat) (hg:(w2.drew.alloc (.cells #[.string s,.int .i64 xx] 36)).grownBy w3 (some gv)) (ho:w3.ownsRow B1 36 2 (.slice (some ⟨g3,0,none⟩) (out.length+1) c3) (out.length+1) (aG (out++[(s,xx)]))) (hw:(zf (some ⟨g3,0,none⟩) (out.length+1) c3).ownBlock=some gv\/(zf (some ⟨g3,0,none⟩) (out.length+1) c3).ownBlock=some (w2.drew.alloc (.cells #[.string s,.int .i64 xx] 36)).heap.size)=>aWa (cv:=cv) (ex:=ex) h0 HT.out HB2.out hB1 hgv hg k0 k1 kf1 ho hw);go_cut [24] from 24 to 33 (λt wx=>t=t/\mN w B tb (.slice (some ⟨gn,0,none⟩) L.length cn) (.slice (some ⟨ge,0,none⟩) L.length ce) vl vs vm L F S B1 (.slice (some ⟨gv,0,none⟩) out.length cv) (out++[(s,xx)]) ex (w.heap.size+1) (w.heap.size+2) [] wx)
   case first=>
    refine aW8 ?_;go_region_law (refine aW1 (by rfl) _ _ (by rfl) B1 _ out (by rfl) (HV2.out.alloc _) (by simp [zz]) (by omega) (by simp;omega) w2.heap.size 1 (s,xx) (by rfl) (tQ _ _ _ _).1 (tQ _ _ _ _).2 ?_;intro v3 w3 ho3 hg3 hw3;have hv3:v3.ownBlock≠none:=(by rcases hw3 with e | e <;> rw [e] <;> simp [zz]);obtain ⟨g3,c3,rfl⟩:=aA7 ho3 hv3;obtain ⟨d0,d1,df1⟩:=HKP.out w3 hg3);all_goals
     refine aW9 ?_;go_wp2_with fail;go_meet;case rel=>exact ⟨by first | rfl | trivial,HMID.out w3 g3 c3 hg3 ho3 hw3⟩
   case rest=>
    obtain ⟨_,hmid⟩:=hcut;have CP:=aA (λwx=>aD0 tb r wx);have z0:=hmid.x0;have HMD:=aA hmid;have hwcb:=hmid.big;clear hmid CA CV HMID HKP HV2 kA0 kA1;have nA:=λX=>Below.at' ((Below.refl wc.heap.size wc).alloc (zy _) X) (zy _) z0
    go_wp2_with (first
     | (go_at_call 115;refine (aB CP _).mono ?_;rintro e w5 ⟨rfl,rfl⟩)
     | go_in)
    clear nA CP;obtain ⟨w6,hw6,hal,ot0,oa0,_,hs6⟩:=aJs wc (.pointer (some ⟨tb,0,none⟩)) (.int .i64 r) 107 3;rw [<-hw6];clear hw6;have hI6:=HMD.out.boxes hal hs6;have hIt:kW w6 (wc.heap.size+1) wc.heap.size tb ge L r:=kW.of hI6.tm (by omega) oa0 ot0;have htb0:=(Array.getElem?_eq_some_iff.1 h0.box).1;have hge0:=(aT h0.re ge rfl).2;have hks:∀k∈[wc.heap.size+1,wc.heap.size,tb,ge],k<w6.heap.size:=by intro k hk;simp at hk;rcases hk with rfl | rfl | rfl | rfl <;> omega
    have hnd:=HND.out;refine (wpIn_wide (n:=3)).1 ?_;refine wpIn_rangeFunc_ownG rfl (by omega) (gf:=133) (lb:=#[.pointer (some ⟨wc.heap.size+1,0,none⟩),.pointer (some ⟨wc.heap.size,0,none⟩)]) rfl trivial (enters_of Tryz.func133 (by kernel_rfl) rfl)
     (encs:=λx:nW C=>#[.int .i64 (x.1:Nat)]) (Kp:=iQ [wc.heap.size+1,wc.heap.size,tb,ge]) (S:=λxs=>xs.map (λx=>x.1)=C) (Sp:=λpre=>pre.map (λx=>x.1) <+: C) (N:=C.length) (w0:=w6)
     (λl J Jx W hW hJ hJx hY h0=>by
      have:=aDc 2 l (wc.heap.size+1) wc.heap.size tb ge L r (s,xx) C hCe (by omega) hL hfew hnd J Jx _ hJ hY W (hIt.kept (aD2 hW hks)) h0;simpa using this)
     (λh k=>h.trans k) (iQ.put hks) (Below.refl _ _) (λ_=>rfl)
     (λpre W=>mN w B tb (.slice (some ⟨gn,0,none⟩) L.length cn) (.slice (some ⟨ge,0,none⟩) L.length ce) vl vs vm L F S B1 (.slice (some ⟨gv,0,none⟩) out.length cv) (out++[(s,xx)]) ex (w.heap.size+1) w6.heap.size (pre.map λx=>x.1) W)
     (λc pre W=>False)
     (mN.own (by omega)) (λc=>by intro _ _ _ _ h;cases h) ?h0 ?a1 ?assign ?body ?done ?stop
    case h0=>exact hI6
    case assign=>
     intro l x W K hK;gi_wp2
     exact hK
    case body=>
     rintro l pre x W hI hln;obtain ⟨v',hc',hr',hv',hm',hq1,hq2,hq3⟩:=hI.st;have hxp:x.1<L.length:=aD4 hL hnd x.1 (by rw [hCe];exact x.2);obtain ⟨g,c,rfl⟩:=aA7 hr' hv';have hxl:=hexl x.1 x.2;have hpos:∀y∈C,1<=(ex y).length:=λy hy=>(hex y hy).pos
     have hroom:(out++[(s,xx)]++((pre.map λx=>x.1).map ex).flatten).length+(ex x.1).length*(ex x.1).length<=1000000:=by
      obtain ⟨q1,q2⟩:=aWc hpos;rw [hexf] at q1 q2;have q3:=aWd (pre:=pre.map λx=>x.1) (ex:=ex) (M:=l'.length+1-C.length) (λy hy=>by
       obtain ⟨z,_,rfl⟩:=zi.1 hy;have:=q2 z.1 z.2;omega)
      rw [List.length_map] at q3;have q4:=q2 x.1 x.2;have q5:=aWe (j:=pre.length) (k:=C.length) (M:=l'.length+1-C.length) (e:=(ex x.1).length) (n:=l'.length+1) hln (by omega) (by omega);have q6:out.length+(l'.length+1)*(l'.length+1)<=1000000:=by simpa using HSQ.out
      simp only [zo,zq,List.length_nil];omega
     have hBW:B1<=W.heap.size:=by have:=hI.far.size;omega
     have CJ:=aA (IH.out x.1 (ex x.1) _ _ W (by have:=HM.out;simp at this;omega) (hex x.1 x.2) hI.tm hr' hv' hBW hroom hxp);have hgl:=aT hr' g rfl;have hW6:=hI.big;have hq1':g≠w.heap.size+1:=by simpa [zz] using hq1
     have hq2':g≠w.heap.size:=by simpa [zz] using hq2
     have hq3':∀k,w6.heap.size<=k+2->k<w6.heap.size->g≠k:=λk k1 k2=>by simpa [zz] using hq3 k k1 k2
     have hkk:∀k∈[wc.heap.size+1,wc.heap.size,tb,ge],k<W.heap.size/\k≠g:=by
      intro k hk;simp at hk;rcases hk with rfl | rfl | rfl | rfl
      ·exact ⟨by omega,(hq3' _ (by omega) (by omega)).symm⟩
      ·exact ⟨by omega,(hq3' _ (by omega) (by omega)).symm⟩
      ·exact ⟨by omega,by omega⟩
      ·exact ⟨by omega,by omega⟩
     have hkn:∀k∈[wc.heap.size+1,wc.heap.size,tb,ge],k≠w.heap.size+1:=by intro k hk;simp at hk;rcases hk with rfl | rfl | rfl | rfl <;> omega
     have HNX:=aA (λ(W':World) (v2:Value) hr=>mN.next (x:=x.1) (W':=W') (v2:=v2) HT.out hI (by omega) (by omega) hc' hm' hq1' hq2' hq3' hr);have HKG:=aA (λ(W':World) (hg:W.grownBy W' (some g))=>And.intro (xK w6.heap.size hg (xN hr' rfl)) (aD5 hg hkk));have HKS:=aA (λ(W':World) (hs:W.heap.size<=W'.heap.size) (v:Value) (k:Nat) hk=>(bR W' ⟨w.heap.size+1,0,none⟩ v).block k (Nat.lt_of_lt_of_le (hkk k hk).1 hs) (by simpa using hkn k hk));have x0':=hI.x0;clear hI hr' hv' hm' hq1 hq2 hq3 hroom hpos hxl hkk hkn hq1' hq2' hq3' hgl;generalize (out++[(s,xx)]++((pre.map λx=>x.1).map ex).flatten).length=n at *;gi_wp2_with (first
      | (refine ⟨trivial,?_⟩;gi_at_call 116;refine (CallsIn.inRound l (callsIn_wide.2 (aB CJ))).mono ?_;rintro e W' ⟨v2,rfl,hres⟩;obtain ⟨g2,m2,c2,rfl⟩:=aWb hres.row hres.some;obtain ⟨hnx,hcn,hfn⟩:=HNX.out W' _ hres;obtain ⟨hkf,hkp⟩:=HKG.out W' hres.far;have hsz:=HKS.out W' hres.far.size (.slice (some ⟨g2,0,none⟩) m2 c2);have HNN:=aA hnx;have HKF:=aA hkf;have HKP:=aA hkp;have HSZ:=aA hsz;clear hnx hkf hkp hsz hres)
      | fail)
     refine ⟨HKF.out.trans (sP _ hcn _),HKP.out.trans (λk hk=>HSZ.out k hk),?_⟩;have hnn:=HNN.out;rw [show (pre.map λx=>x.1)++[x.1]=(pre++[x]).map λx=>x.1 by simp] at hnn;exact hnn
    case done=>
     rintro D ys W hD hSy hI hK;obtain ⟨v',hc',hr',hv',hm',_⟩:=hI.st;rw [hSy,hexf] at hr';have HI:=aA hI;have HR':=aA hr';have HK:=aA hK;have HM':=aA hm';clear hI hr' hK hm';go_wp2;have hK:=HK.out;refine ⟨by simp,.inl ⟨_,_,rfl,run_takeDeferred hK,?_⟩⟩;refine ⟨v',by simp [results,Tryz.results116,go_sem],?_⟩;have hot:∀r,(some D:Option Nat)=some r->∃o:Obj,W.heap[r]?=some o/\o.isCells=false:=λr e=>by cases e;exact ⟨_,hK,rfl⟩
     have hl:out++(s,xx) :: l'=out++[(s,xx)]++l':=by simp
     refine ⟨v',rfl,⟨HI.out.tm.others (grownBy_putObj' W D (.deferred none)) hot,by rw [hl];exact aJm HR'.out (grownBy_putObj' W D (.deferred none)) hot,hv',nU HI.out.far (grownBy_putObj' W D (.deferred none)) (λr e=>by cases e;omega),HM'.out⟩⟩
    case stop=>
     rintro D c pre W hD hSy hI hK;cases hI
end
section
open Go.RowKit Go.Shelf Go.WideMaps
attribute [local go_sem] zh
theorem aWg{B':Nat}(h:w.ownsRow B' e size v n xs)(hB:B<=B'):w.ownsRow B e size v n xs:=by
 obtain ⟨h1,⟨rfl,h2⟩ | ⟨g,cap,cur,rfl,hb,hr⟩⟩:=h
 ·exact ⟨h1,z5 ⟨rfl,h2⟩⟩
 ·exact ⟨h1,zp ⟨g,cap,cur,rfl,zv hB hb,hr⟩⟩
structure aWh(w:World)(B tb:Nat)(vn ve vl vs vm:Value)(L:List Nd)(F:List Nat)(S:List Int)(rt:Nat->Nat)(a:Nat)(v:Value)(b:Bool)(w':World)(S':List Int):Prop where
 tm:bF w' B tb vn ve vl vs vm L F S'
 far:w.grownBy w' vs.ownBlock
 keep:bD (aC L) (λi j=>rt i=rt j) a->rC L rt S'/\∀p:Nat,S'[p]?=some (-1)↔S[p]?=some (-1)
 yes:b=true->bD (aC L) (λi j=>rt i=rt j) a/\v.ownBlock≠none/\∃l,aL (aC L) (λi j=>rt i=rt j) rt [a] l/\l.length<=500/\w'.ownsRow w.heap.size 36 2 v l.length (aG l)
 no:b=false->v=.slice none 0 0/\(¬bD (aC L) (λi j=>rt i=rt j) a\/∃l,aL (aC L) (λi j=>rt i=rt j) rt [a] l/\500<l.length)
theorem aWi(B tb:Nat)(vn ve vl vs vm:Value)(L:List Nd)(F:List Nat)(rt d:Nat->Nat)(hL:dE L)(hF:gB F rt d)(hN:jT L rt)(hC:dR (aC L) (λi j=>rt i=rt j) λ_ _=>False)(S:List Int)(a:Nat)(w:World)(h:bF w B tb vn ve vl vs vm L F S)(hS:rC L rt S)(hR:∀r:Nat,S[r]?=some (-1)->fE (aC L) (λi j=>rt i=rt j) r a)(ha:a<L.length) :
  Calls zr 92 #[.pointer (some ⟨tb,0,none⟩),.int .i64 a] w λe w'=>∃v b S',e=.returned (.tuple #[v,.bool b])/\aWh w B tb vn ve vl vs vm L F S rt a v b w' S':=by
 have CS:=aA (aJj B tb vn ve vl vs vm L F rt d hL hF hN hC (kG S+1) S a w (by omega) h hS hR ha);have HC:=aA hC;have HF:=aA hF;have HN:=aA hN;have HVS:=aA h.rs;clear h hS hR hC hF hN;obtain ⟨iN,hN,hN0,hN1,hN2⟩:=info_parts nB;go_enter Tryz.func92,Tryz.ntmps92;go_upto_region 2 with (first
  | (go_at_call 89;refine (aB CS).mono ?_;rintro e w1 ⟨n,b,S1,rfl,hres⟩)
  | go_in)
 clear CS;cases b with
 | false=>
  obtain ⟨rfl,hno⟩:=hres.no rfl;have HRES:=aA hres;clear hres;go_wp2;go_ret2;refine ⟨.slice none 0 0,false,S1,rfl,⟨HRES.out.tm,HRES.out.far,λe=>absurd e hno,λe=>(by cases e),λ_=>⟨rfl,z5 hno⟩⟩⟩
 | true=>
  obtain ⟨k1,k2,k3,l,k4,k5⟩:=hres.yes rfl;obtain ⟨k,hk⟩ : ∃k,k=min 501 l.length:=⟨_,rfl⟩;rw [<-hk] at k5;subst k5;have HRES:=aA hres;have HK1:=aA k1;have HK2:=aA k2;have HK3:=aA k3;have HK4:=aA k4;have HKL:=aA hk;clear hres k1 k2 k3 k4 hk;by_cases hbig:500<k
  ·have hbi:(500:Int)<(k:Int):=by omega
   go_wp2;go_ret2;refine ⟨.slice none 0 0,false,S1,rfl,⟨HRES.out.tm,HRES.out.far,λ_=>⟨HK1.out,HK2.out⟩,λe=>(by cases e),λ_=>⟨rfl,zp ⟨l,HK4.out,by have:=HKL.out;omega⟩⟩⟩⟩
  ·have hbi:¬(500:Int)<(k:Int):=by omega
   have hkl:k=l.length:=by have:=HKL.out;omega
   subst hkl;have hl5:l.length<=500:=by omega
   have HWR:=aA (λ(w2:World) (ho:w2.ownsRow w1.heap.size 36 2 (.slice (some ⟨w1.heap.size,0,none⟩) 0 l.length) 0 []) (hg:w1.grownBy w2 none)=>aWf B tb vn ve vl vs vm L F S1 rt d hL HF.out HN.out HC.out w1 HRES.out.tm w1.heap.size (zy _) (l.length+1) a l [] _ w2 (by omega) HK4.out (HRES.out.tm.grown hg (by simp) (by cases vn.ownBlock <;> simp) (by cases ve.ownBlock <;> simp) (by cases vl.ownBlock <;> simp) (by cases vs.ownBlock <;> simp)) ho (by simp [zz]) hg.size (by have:=Nat.mul_le_mul hl5 hl5;simp;omega) ha);go_wp2_with (first
    | (at_make;refine wpList_make_own _ rfl _ _ 37 rfl w1.heap.size 36 iN (.agg #[.string ⟨#[]⟩,.int .i64 0]) 2 Tryz.underlying37 hN hN0 hN1 .i64 .i64 _ l.length rfl rfl rfl (by rw [hN2];omega) (by unfold maxLen;omega) (zy _) ?_;intro w2 ho hg;have HO:=aA ho;have HG:=aA hg;clear ho hg)
    | (go_at_call 116;refine (aB HWR w2 HO.out HG.out).mono ?_;rintro e w3 ⟨v3,rfl,hres3⟩;have HR3:=aA hres3;clear hres3)
    | go_in)
   go_ret2;have hr3:=HR3.out;have hrow:w3.ownsRow w1.heap.size 36 2 v3 l.length (aG l):=by simpa using hr3.row
   refine ⟨v3,true,S1,rfl,⟨hr3.tm,?_,λ_=>⟨HK1.out,HK2.out⟩,λ_=>⟨HK3.out,hr3.some,l,HK4.out,hl5,?_⟩,λe=>(by cases e)⟩⟩
   ·have h1:=HRES.out.far;exact nU (nU h1 HG.out (λr e=>by cases e)) hr3.far (λr e=>by simp [zz] at e;have:=h1.size;omega)
   ·exact aWg hrow HRES.out.far.size
end
section
open Go.RowKit Go.Shelf Go.WideMaps
attribute [local go_sem] zh
theorem bF.cleared{L:List Nd}{gs cs:Nat}:∀(m o:Nat) (w:World) (S:List Int),bF w B tb vn ve vl (.slice (some ⟨gs,0,none⟩) L.length cs) vm L F S->o+m=L.length->(∀i,i<o->S[i]?=some 0)->
  ∃S',bF (w.setCells gs o (zm m (.int .i64 0))) B tb vn ve vl (.slice (some ⟨gs,0,none⟩) L.length cs) vm L F S'/\(∀i,i<L.length->S'[i]?=some 0)/\w.grownBy (w.setCells gs o (zm m (.int .i64 0))) (some gs):=by
 intro m;induction m with
 | zero=>
  intro o w S h ho h0;exact ⟨S,h,λi hi=>h0 i (by omega),zd.refl _ _⟩
 | succ m ih=>
  intro o w S h ho h0;obtain ⟨h1,h2⟩:=h.sized o 0;have hls:=h.ls;obtain ⟨S',k1,k2,k3⟩:=ih (o+1) _ _ h1 (by omega) (λi hi=>by
   by_cases e:i=o
   ·subst e;rw [List.getElem?_set_self (by omega)]
   ·rw [List.getElem?_set_ne (λx=>e x.symm)];exact h0 i (by omega))
  exact ⟨S',k1,k2,h2.trans k3⟩
theorem xQ{w':World}{o:Option Nat}(ho:∀g,o=some g->B<=g)(hB:B<=w.heap.size)(hg:w.grownBy w' o):Below B w w':=
 ⟨hg.os,hg.tape,hg.output,hg.size,λk hk=>hg.block k (by omega) (λe=>by have:=ho k e.symm;omega)⟩
structure aWj(w:World)(B tb:Nat)(vn ve vl vs vm:Value)(L:List Nd)(rt:Nat->Nat)(a b:Nat)(ok:Bool)(w':World):Prop where
 size:w.heap.size<=w'.heap.size
 low:Below B w w'
 keep:∀k,k<w.heap.size->vl.ownBlock≠some k->vs.ownBlock≠some k->w'.heap[k]?=w.heap[k]?
 yes:ok=true↔dW (aC L) (Cl (aC L) λi j=>rt i=rt j\/(i=a/\j=b))/\bD (aC L) (Cl (aC L) λi j=>rt i=rt j\/(i=a/\j=b)) a
 st:ok=true->∃F' S' rt' d',bF w' B tb vn ve vl vs vm L F' S'/\gB F' rt' d'/\jT L rt'/\dR (aC L) (λi j=>rt' i=rt' j) (λ_ _=>False)/\(∀i j,rt' i=rt' j↔Cl (aC L) (λi j=>rt i=rt j\/(i=a/\j=b)) i j)/\rC L rt' S'/\∀r:Nat,S'[r]?≠some (-1)
theorem aWk(B tb:Nat)(vn ve vl vs vm:Value)(L:List Nd)(F:List Nat)(rt d:Nat->Nat)(hL:dE L)(hF:gB F rt d)(hN:jT L rt)(hC:dR (aC L) (λi j=>rt i=rt j) λ_ _=>False)(S:List Int)(a b:Nat)(w:World)(h:bF w B tb vn ve vl vs vm L F S)(ha:a<L.length)(hb:b<L.length) :
  Calls zr 58 #[.pointer (some ⟨tb,0,none⟩),.int .i64 a,.int .i64 b] w λe w'=>∃ok:Bool,e=.returned (.bool ok)/\aWj w B tb vn ve vl vs vm L rt a b ok w':=by
 obtain ⟨gs,cs,n0,rfl,hn0,c1,cf1⟩:=h.size ha;have hls:=h.ls;have hcl:∀ty,(Builtin.clear_ #[25] ty #[.slice (some ⟨gs,0,none⟩) L.length cs]).run zr w=.ok (.tuple #[]) (w.setCells gs 0 (zm L.length (.int .i64 0))):=λty=>
  Lib.run_clear_slice w _ 3 ty (.int .i64 0) Tryz.underlying25 (λw=>by obtain ⟨iI,hI,hI0,hI1,hI2⟩:=info_parts pB;simp [zeroValue,typeInfo,hI,hI0]) rfl rfl gs 0 _ _ (by omega) (λj hj=>by
   obtain ⟨g',c',n',e1,e2,e3,e4⟩:=h.size hj;simp at e1;obtain ⟨rfl,_⟩:=e1;rw [Nat.zero_add,e3];rfl) (λj hj=>by
   obtain ⟨g',c',n',e1,e2,e3,e4⟩:=h.size hj;simp at e1;obtain ⟨rfl,_⟩:=e1;rw [Nat.zero_add,e4])
 obtain ⟨S1,h1,h2,h3⟩:=bF.cleared L.length 0 w S h (by omega) (λi hi=>by omega);have c3:=h.c3;clear c1 cf1 hn0 hls;generalize w.setCells gs 0 (zm L.length (.int .i64 0))=w1 at *;have CJ:=aA (aVi B tb vn ve vl _ vm L S1 hL (lS F+1) F rt d a b w1 (by omega) h1 hF hN ha hb);have HH:=aA h;have H2:=aA h2;have H3:=aA h3;have HC:=aA hC;have HRB:=aA (aT h.rs gs rfl).1;clear h h1 h2 h3 hF hN hC;go_enter Tryz.func58,Tryz.ntmps58;go_wp2_with (first
  | (go_at_call 88;refine (aB CJ).mono ?_)
  | go_in)
 rintro e w2 ⟨ok,F2,rt2,d2,rfl,hres⟩;clear CJ hcl c3;have hbl:∀w3,w2.grownBy w3 (some gs)->Below B w w3:=λw3 hg=>by
  have hB:B<=w.heap.size:=zv HRB.out (Nat.le_of_lt (aT HH.out.rs gs rfl).2);have s1:=H3.out.size;have s2:=hres.far.size;exact ((xQ (λg e=>by simp at e;subst e;exact HRB.out) hB H3.out).trans (xQ (λg e=>(aT HH.out.rl g e).1) (by omega) hres.far)).trans (xQ (λg e=>by simp at e;subst e;exact HRB.out) (by omega) hg)
 have hkp:∀w3,w2.grownBy w3 (some gs)->∀k,k<w.heap.size->vl.ownBlock≠some k->gs≠k->w3.heap[k]?=w.heap[k]?:=λw3 hg k k1 k2 k3=>by
  have s1:=H3.out.size;have s2:=hres.far.size;rw [hg.block k (by omega) (by simpa using λe=>k3 e.symm),hres.far.block k (by omega) (λe=>k2 e.symm),H3.out.block k k1 (by simpa using λe=>k3 e.symm)]
 have hsem:=hres.sem (λi j=>rt i=rt j\/(i=a/\j=b)) (λ_ _=>False) (λi j e=>Cl.base (z5 e)) (Cl.base (zp ⟨rfl,rfl⟩)) (HC.out.mono λ_ _ e=>e.elim);cases ok with
 | false=>
  have HR:=aA (hsem.2 rfl);have HBL:=aA (hbl w2 (zd.refl _ _));have HKP:=aA (hkp w2 (zd.refl _ _));clear hres hsem hbl hkp;go_wp2;go_ret;exact ⟨false,rfl,HBL.out.size,HBL.out,λk k1 k2 k3=>HKP.out k k1 k2 (by simpa [zz] using k3),⟨λe=>(by cases e),λe=>absurd e.1 HR.out⟩,λe=>(by cases e)⟩
 | true=>
  obtain ⟨j1,j2,j3⟩:=hsem.1 rfl;obtain ⟨k1,k2⟩:=j3.done (qB rt2) j2 (λi j e=>by
   rcases e with e | ⟨rfl,rfl⟩
   ·exact hres.mono i j e
   ·exact j1)
  have hz:∀r:Nat,S1[r]?≠some (-1):=λr e=>by
   have hr:=(zk.1 e).1;rw [hres.tm.ls] at hr;rw [H2.out r hr] at e;cases e
  have CS:=aA (aJj B tb vn ve vl _ vm L F2 rt2 d2 hL hres.forest hres.named j3 (kG S1+1) S1 a w2 (by omega) hres.tm (λp n e=>by
   have hr:=(zk.1 e).1;rw [hres.tm.ls] at hr;rw [H2.out p hr] at e;simp at e;exact z5 e.symm) (λr e=>absurd e (hz r)) ha)
  have HK1:=aA k1;have HK2:=aA k2;have HJ3:=aA j3;have HZ:=aA hz;have HBL:=aA hbl;have HKP:=aA hkp;have HRES:=aA hres;clear hres hsem hbl hkp j1 j2 j3 k1 k2 hz;go_wp2_with (first
   | (go_at_call 89;refine (aB CS).mono ?_;rintro e w3 ⟨n,bs,S3,rfl,hsz⟩;have HSZ:=aA hsz;clear hsz)
   | go_in)
  go_ret;have hsz:=HSZ.out;have hlow:=HBL.out w3 hsz.far;have hie:∀i,bD (aC L) (λi j=>rt2 i=rt2 j) i↔bD (aC L) (Cl (aC L) λi j=>rt i=rt j\/(i=a/\j=b)) i:=λi=>bD.iff HK1.out
  refine ⟨bs,rfl,hlow.size,hlow,λk k1 k2 k3=>HKP.out w3 hsz.far k k1 k2 (by simpa [zz] using k3),?_,?_⟩
  ·cases bs with
   | true=>exact ⟨λ_=>⟨HK2.out,(hie a).1 (hsz.yes rfl).2.2.1⟩,λ_=>rfl⟩
   | false=>exact ⟨λe=>(by cases e),λe=>absurd ((hie a).2 e.2) (hsz.no rfl).2⟩
  ·rintro rfl;obtain ⟨z1,z2,z3,z4⟩:=hsz.yes rfl;exact ⟨F2,S3,rt2,d2,hsz.tm,HRES.out.forest,HRES.out.named,HJ3.out,HK1.out,z1,λr e=>HZ.out r ((z2 r).1 e)⟩
end
section
open Go.RowKit Go.Shelf Go.WideMaps
theorem bF.toRaw{L:List Nd}(h:bF w B tb vn ve vl vs vm L F S)(ne:ve.ownBlock≠none)(nl:vl.ownBlock≠none)(ns:vs.ownBlock≠none):cB w B tb vn ve vl vs vm L (eG L) F S:=
 ⟨h.box,h.high,h.rn,by rw [gV];exact h.re,by rw [h.lf];exact h.rl,by rw [h.ls];exact h.rs,h.ab,h.ac,h.bc,ne,nl,ns⟩
structure gW(B tb mp:Nat)(nb:Option Nat)(M:List Tg)(a b:Nat)(ps:List Nat)(ls:List (List Nd))(w:World):Prop where
 tm:∃vn ve vl vs F rt d S,vn.ownBlock=nb/\cB w B tb vn ve vl vs (.map (some mp)) (M.map zw) (eG (M.map zw)) F S/\iD M a b F rt d S/\(∀p,p<M.length->bD (aC (M.map zw)) (λi j=>rt i=rt j) p)/\aM (λp l=>aL (aC (M.map zw)) (λi j=>rt i=rt j) rt [p] l) ps ls
 low:∀p∈ps,p<M.length
 first:gI w mp M
 big:B<=w.heap.size
 ne:mp≠tb
 mlow:B<=mp
 short:∀t∈M,t.2.1.size<=140737488355328
def oR(nb:Option Nat)(w w':World):Prop:=∀(k:Nat) (cs:Array Value) (T:TypeId) (fr:Nat×Nat),w.heap[k]?=some (.cells cs T fr)->T≠3->T≠137->nb≠some k->w'.heap[k]?=w.heap[k]?
def aJv(w:World)(nb nb':Option Nat):Prop:=nb'=nb\/∃g,nb'=some g/\w.heap.size<=g
section
variable {B tb mp:Nat}{nb:Option Nat}{M:List Tg}{a b:Nat}{ps:List Nat}{ls:List (List Nd)}{w:World}
theorem aWl(h:gW B tb mp nb M a b ps ls w)(o:Int)(ad:Option Addr)(c:Nat)(t:List Nd)(hn:cU w ad t)(ht:aW t 1=true)(hlow:∀p,ad=some p->p.block<B)(hlen:M.length+t.length<=1000000)(ho : -1000<=o/\o<=1000) :
  Calls zr 59 #[.pointer (some ⟨tb,0,none⟩),.int .i64 o,.slice ad t.length c] w λe w'=>e=.returned (.int .i64 M.length)/\∃nb',gW B tb mp nb' (M++aO o t) a b ps ls w'/\Below B w w'/\aJv w nb nb'/\oR nb w w':=by
 obtain ⟨vn,ve,vl,vs,F,rt,d,S,hnb,htm,hv,hen,hls⟩:=h.tm;have hl:(M.map zw).length=M.length:=by simp
 refine (aJ4 B tb mp vn ve vl vs (M.map zw) F S M o ad c t w htm rfl hv.whole h.first (by rw [hv.lf,hl]) (by rw [hv.ls,hl]) h.big h.ne h.mlow ht hn hlow (by rw [hl];exact hlen) ho).mono ?_;rintro e w' ⟨vn',ve',vl',vs',rfl,h1,h2,h3,h4⟩;have hs:(M++aO o t).map zw=M.map zw++t:=by rw [List.map_append,tA]
 refine ⟨by rw [hl],vn'.ownBlock,⟨⟨vn',ve',vl',vs',_,_,_,_,rfl,by rw [hs];exact h1,hv.add (o:=o) ht,?_,?_⟩,λp hp=>by have:=h.low p hp;simp;omega,h2,zv h.big h3.low.size,h.ne,h.mlow,?_⟩,h3.low,by rw [<-hnb];exact h4,by rw [<-hnb];exact h3.nod⟩
 ·intro p hp;rw [hs];have hp':p<M.length+t.length:=by simpa using hp
  exact hv.endsAll (o:=o) ht hen (M.length+t.length-p) p (by omega)
 ·rw [hs];have key:∀{ps:List Nat} {ls:List (List Nd)},aM (λp l=>aL (aC (M.map zw)) (λi j=>rt i=rt j) rt [p] l) ps ls->(∀p∈ps,p<M.length)->aM (λp l=>aL (aC (M.map zw++t)) (λi j=>cZ M (M++t.map λn=>(o,n)) rt i=cZ M (M++t.map λn=>(o,n)) rt j) (cZ M (M++t.map λn=>(o,n)) rt) [p] l) ps ls:=by
   intro ps ls h;induction h with
   | nil=>intro _;exact aM.nil
   | cons c _ ih=>
    intro hp;exact aM.cons (hv.exp (o:=o) c (λi hi=>by simp at hi;subst hi;exact hp _ (by simp))) (ih λp hq=>hp p (by simp [hq]))
  exact key hls h.low
 ·intro x hx;rcases List.mem_append.1 hx with hx | hx
  ·exact h.short x hx
  ·obtain ⟨n,hn',rfl⟩:=zi.1 hx;obtain ⟨k,hk,rfl⟩:=List.getElem_of_mem hn';exact hn.short k hk
theorem aWm(h:gW B tb mp nb M a b ps ls w)(p:Nat)(hp:p<M.length)(hM:M.length<=1000000) :
  Calls zr 92 #[.pointer (some ⟨tb,0,none⟩),.int .i64 p] w λe w'=>∃v y,e=.returned (.tuple #[v,.bool y])/\Below B w w'/\w.heap.size<=w'.heap.size/\oR nb w w'/\∃l,
   (y=true->l.length<=500/\v.ownBlock≠none/\w'.ownsRow w.heap.size 36 2 v l.length (aG l)/\gW B tb mp nb M a b (ps++[p]) (ls++[l]) w')/\
   (y=false->v=.slice none 0 0/\500<l.length/\gW B tb mp nb M a b (ps++[p]) (ls++[l]) w'):=by
 obtain ⟨vn,ve,vl,vs,F,rt,d,S,hnb,htm,hv,hen,hls⟩:=h.tm;have hl:(M.map zw).length=M.length:=by simp
 have hin:=htm.toIn (by rw [hv.lf,hl]) (by rw [hv.ls,hl]) (by rw [hl];exact hM) (λn hn=>by obtain ⟨t,ht,rfl⟩:=zi.1 hn;exact h.short t ht);refine (aWi B tb vn ve vl vs _ (M.map zw) F rt d hv.whole hv.forest hv.named hv.cl S p w hin hv.sz (λr e=>absurd e (hv.none r)) (by rw [hl];exact hp)).mono ?_;rintro e w' ⟨v,y,S',rfl,r⟩;obtain ⟨k1,k2⟩:=r.keep (hen p hp);have hfar:Below B w w':=⟨r.far.os,r.far.tape,r.far.output,r.far.size,λk hk=>r.far.block k (by have:=h.big;omega) (λe=>by have:=(aT htm.rs k e.symm).1;omega)⟩;have hst:oR nb w w':=λk cs T fr hk k1 _ _=>r.far.block k (Array.getElem?_eq_some_iff.1 hk).1 (λe=>by
  obtain ⟨_,⟨rfl,_⟩ | ⟨g,cap,cur,rfl,_,hh,_⟩⟩:=htm.rs
  ·simp [zz] at e
  ·simp [zz] at e;subst e;rw [hh] at hk;simp at hk;exact k1 hk.2.1.symm)
 have hcon:∀l,aL (aC (M.map zw)) (λi j=>rt i=rt j) rt [p] l->gW B tb mp nb M a b (ps++[p]) (ls++[l]) w':=λl hx=>
  ⟨⟨vn,ve,vl,vs,F,rt,d,S',hnb,r.tm.toRaw htm.ne htm.nl htm.ns,⟨hv.whole,hv.lf,by rw [r.tm.ls,hl],hv.forest,hv.named,hv.cl,hv.iff,k1,λq e=>hv.none q ((k2 q).1 e),hv.ha,hv.hb⟩,hen,hls.snoc hx⟩,λq hq=>by
   rcases List.mem_append.1 hq with hq | hq
   ·exact h.low q hq
   ·simp at hq;subst hq;exact hp,h.first.grown r.far (pM htm.rs h.first),zv h.big r.far.size,h.ne,h.mlow,h.short⟩
 cases y with
 | true=>
  obtain ⟨_,e2,l,e3,e4,e5⟩:=r.yes rfl;exact ⟨v,true,rfl,hfar,r.far.size,hst,l,λ_=>⟨e4,e2,e5,hcon l e3⟩,(λe=>by cases e)⟩
 | false=>
  obtain ⟨e1,e2⟩:=r.no rfl;obtain ⟨l,e3,e4⟩ : ∃l,aL (aC (M.map zw)) (λi j=>rt i=rt j) rt [p] l/\500<l.length:=by
   rcases e2 with e2 | e2
   ·exact absurd (hen p hp) e2
   ·exact e2
  exact ⟨v,false,rfl,hfar,r.far.size,hst,l,(λe=>by cases e),λ_=>⟨e1,e4,hcon l e3⟩⟩
end
def iC(c:List Lt)(out j:Nat):List Lt:=(c.take j).eraseIdx out
theorem aJw{c:List Lt}{out:Nat}(h:out<c.length):iC c out (out+1)=iC c out out:=by
 unfold iC;have hl:(c.take out).length=out:=by simp;omega
 rw [zs h,zt (by omega),hl,Nat.sub_self,zu (l:=c.take out) (by omega)];simp
theorem aJx{c:List Lt}{out j:Nat}(h:j<c.length)(hne:j≠out):iC c out (j+1)=iC c out j++[c[j]]:=by
 unfold iC;rw [zs h];have hl:(c.take j).length=j:=by simp;omega
 by_cases ho:out<j
 ·rw [List.eraseIdx_append_of_lt_length (by omega)]
 ·rw [zt (by omega),zu (l:=c.take j) (by omega),zu (by simp;omega)]
theorem aJy(c:List Lt)(out:Nat):iC c out c.length=c.eraseIdx out:=by unfold iC;rw [List.take_length]
theorem aWn(c:List Lt)(out:Nat):iC c out 0=[]:=by simp [iC]
def bG:Nat->List (List Lt×Nat)->List (Int×Lt)
 | _,[]=>[]
 | o,p :: ps=>((p.1.eraseIdx p.2).map λl=>((o:Int),l))++bG (o+1) ps
theorem aJz:∀(ps:List (List Lt×Nat)) (o k:Nat) (h:k<ps.length),bG o (ps.take (k+1))=bG o (ps.take k)++((ps[k].1.eraseIdx ps[k].2).map λl=>(((o+k:Nat):Int),l)):=by
 intro ps;induction ps with
 | nil=>intro o k h;simp at h
 | cons p ps ih=>
  intro o k h;cases k with
  | zero=>simp [bG]
  | succ k=>
   simp only [List.take_succ_cons,bG,List.getElem_cons_succ,List.append_assoc];rw [ih (o+1) k (by simpa using h)];congr 2
   simp only [show o+1+k=o+(k+1) by omega]
theorem aK0(R:List (Int×Lt))(r:Int×Lt):aJ (R++[r])=aJ R++r.2.2.map λn=>(r.1,n):=by simp [aJ]
theorem aK1:∀(R:List (Int×Lt)) (n:Nat) (r:Int×Lt),bN n (R++[r])=bN n R++[n+(aJ R).length]:=by
 intro R;induction R with
 | nil=>intro n r;simp [bN,aJ]
 | cons x R ih=>
  intro n r;simp only [za,bN,ih];rw [aAd];simp;omega
theorem aWo(R:List (Int×Lt))(ls:List (List Nd))(h:R.length=ls.length)(r:Int×Lt)(l:List Nd):cM (R++[r]) (ls++[l])=cM R ls++[(r.2.1,l)]:=by unfold cM;rw [List.zipWith_append h];rfl
section
variable {B tb mp:Nat}{nb:Option Nat}{M:List Tg}{a b:Nat}{ps:List Nat}{ls:List (List Nd)}{w w':World}
theorem gW.below(h:gW B tb mp nb M a b ps ls w)(hb:Below w.heap.size w w'):gW B tb mp nb M a b ps ls w':=by obtain ⟨vn,ve,vl,vs,F,rt,d,S,hnb,htm,hr⟩:=h.tm;exact ⟨⟨vn,ve,vl,vs,F,rt,d,S,hnb,htm.below hb,hr⟩,h.low,h.first.at (hb.block mp h.first.lt),zv h.big hb.size,h.ne,h.mlow,h.short⟩
theorem gW.lits(h:gW B tb mp nb M a b ps ls w){v:Value}{n B':Nat}{xs:List Value}(ho:w.ownsRow B' 39 2 v n xs)(hg:w.grownBy w' v.ownBlock):gW B tb mp nb M a b ps ls w':=by obtain ⟨vn,ve,vl,vs,F,rt,d,S,hnb,htm,hr⟩:=h.tm;exact ⟨⟨vn,ve,vl,vs,F,rt,d,S,hnb,htm.grown hg (cE ho htm.box (by decide)) (bW htm.rn ho (by decide)) (bW htm.re ho (by decide)) (bW htm.rl ho (by decide)) (bW htm.rs ho (by decide)),hr⟩,h.low,h.first.grown hg (pM ho h.first),zv h.big hg.size,h.ne,h.mlow,h.short⟩
theorem gW.nbT(h:gW B tb mp nb M a b ps ls w){k:Nat}(hk:nb=some k):∃cs,w.heap[k]?=some (.cells cs 36):=by
 obtain ⟨vn,ve,vl,vs,F,rt,d,S,hnb,htm,hr⟩:=h.tm;rw [<-hnb] at hk;obtain ⟨_,⟨rfl,_⟩ | ⟨g,cap,cur,rfl,_,hh,_⟩⟩:=htm.rn
 ·simp [zz] at hk
 ·simp [zz] at hk;subst hk;exact ⟨_,hh⟩
theorem gW.pure(h:gW B tb mp nb M a b ps ls w):oU M a b ps ls:=by obtain ⟨vn,ve,vl,vs,F,rt,d,S,_,_,hv,hen,hls⟩:=h.tm;exact ⟨F,rt,d,S,hv,hen,hls,h.low⟩
theorem gW.nodes(h:gW B tb mp nb M a b ps ls w)(hM:M.length<=1000000):∀l∈ls,vA l/\∀n∈l,n.1.size<=140737488355328:=by
 obtain ⟨vn,ve,vl,vs,F,rt,d,S,_,htm,hv,hen,hls⟩:=h.tm;have key:∀{ps:List Nat} {ls:List (List Nd)},aM (λp l=>aL (aC (M.map zw)) (λi j=>rt i=rt j) rt [p] l) ps ls->(∀p∈ps,p<M.length)->∀l∈ls,∀n∈l,(aF n=true/\∃i,i<(M.map zw).length/\n=(⟨#[]⟩,(rt i:Int)))\/(aF n=false/\n∈M.map zw):=by
  intro ps ls h;induction h with
  | nil=>intro _ l hl;simp at hl
  | cons c _ ih=>
   intro hp l hl;rcases List.mem_cons.1 hl with rfl | hl
   ·exact aXb hv.whole c (λi hi=>by simp at hi;subst hi;simpa using hp _ (by simp))
   ·exact ih (λp hq=>hp p (by simp [hq])) l hl
 intro l hl;refine ⟨λn hn hvn=>?_,λn hn=>?_⟩
 ·rcases key hls h.low l hl n hn with ⟨_,i,hi,rfl⟩ | ⟨e,_⟩
  ·have h1:=hv.rt_lt (p:=i) (by simpa using hi);constructor
   ·simp
   ·simp;omega
  ·rw [hvn] at e;cases e
 ·rcases key hls h.low l hl n hn with ⟨_,i,hi,rfl⟩ | ⟨_,e⟩
  ·exact Nat.zero_le _
  ·obtain ⟨t,ht,rfl⟩:=zi.1 e;exact h.short t ht
end
end
end Go.Proofs.YtcldkjcpofjmhaaGreatDoor
