import Derived.Test.YtcldkjcpofjmhaaGreatDoorGNumF
import Derived.Test.YtcldkjcpofjmhaaGreatDoorBBookF
open Array renaming getElem?_eq_some_iff→zw
open List renaming mem_append→zz,mem_flatMap→zv,length_append→zq,mem_filterMap→zo,mem_cons→zl,map_singleton→zj
open Nat renaming le_refl→zy,lt_of_lt_of_le→zk,le_trans→zi
open Or renaming inr→zx,inl→zu
open Prod renaming fst→zr
namespace Go.Proofs.YtcldkjcpofjmhaaGreatDoor
open _root_.Go.Proofs.Tryz renaming prog→zs,underlying22→zg,underlying79→zf
open Value renaming ownBlock→zp
open World renaming cell?→zt,setCell_alloc_past→zn,setCell→zm,ownsRow_nil→zh
set_option maxHeartbeats 4000000
set_option maxRecDepth 100000
variable{cs:Array Value}{s:ByteArray}{T:List Tk}{B g lb mg pb tp:Nat}{v vC vP vl:Value}{w w' w1 w3:World}{s1 st:bB}
section
open Go.RowKit Go.WideMaps
def aNm(B pb:Nat)(w:World)(s:ByteArray)(T:List Tk)(g:Nat)(vC:Value)(mg:Nat)(r:Except Nat (bB×List Lt))(e:Ending)(w':World):Prop:=
 bO B w.heap.size mg w w'/\
  match r with
  | .ok (s1,c)=>∃P vc vP,e=.returned (.tuple #[vc,.bool true])/\bQ B w' pb s T s1 g vC vP mg/\w'.ownsRow w.heap.size 39 2 vc P.length (bA P)/\(∀q∈P,w'.ownsRow w.heap.size 36 2 q.2 q.1.2.length (aG q.1.2))/\P.map zr=c
  | .error p=>∃a n c i vP vM,e=.returned (.tuple #[.slice a n c,.bool false])/\dK B w' pb s T i g vC vP vM/\(aE T i).pos=p
structure LLq(B pb:Nat)(w:World)(s:ByteArray)(T:List Tk)(g:Nat)(vC:Value)(mg:Nat)(r:Except Nat (bB×List Lt))(k:Nat)(vc:Value)(wr:World)(st:bB)(P:List (Lt×Value))(vP:Value):Prop where
 q:bQ B wr pb s T st g vC vP mg
 kept:bO B w.heap.size mg w wr
 row:wr.ownsRow w.heap.size 39 2 vc P.length (bA P)
 atoms:∀q∈P,wr.ownsRow w.heap.size 36 2 q.2 q.1.2.length (aG q.1.2)
 eq:r=iK T k st (P.map zr)
 fuel:T.length<st.i+k
 pl:st.places.length<=st.i
 vs:st.vars.length<=st.i
 few:P.length<=st.i
section
variable {B pb:Nat}{w w1 w2 w3:World}{s:ByteArray}{T:List Tk}{g:Nat}{vC vP vc:Value}{mg:Nat}{st:bB}{P:List (Lt×Value)}
theorem wL{st1:bB}(hq:bQ B w1 pb s T st1 g vC vP mg)(hk:bO B w.heap.size mg w w1)(hr:w1.ownsRow w.heap.size 39 2 vc P.length (bA P))(ha:∀q∈P,w1.ownsRow w.heap.size 36 2 q.2 q.1.2.length (aG q.1.2)){i':Nat}(hg:w1.grownBy w2 (some pb))(hp:dK B w2 pb s T i' g vC vP (.map (some mg))) :
  bQ B w2 pb s T ⟨i',st1.vars,st1.places⟩ g vC vP mg/\bO B w.heap.size mg w w2/\w2.ownsRow w.heap.size 39 2 vc P.length (bA P)/\(∀q∈P,w2.ownsRow w.heap.size 36 2 q.2 q.1.2.length (aG q.1.2)):=by
 obtain ⟨left,hb,hBp⟩:=hq.pp.box;exact ⟨hq.take hg hp,hk.grownBox hb hBp hg,hr.kept hg (hb.apart hr (by decide)),λq hq'=>(ha q hq').kept hg (hb.apart (ha q hq') (by decide))⟩
theorem aFl{st1:bB}{l:List Nd}(hq:bQ B w1 pb s T st1 g vC vP mg)(hk:bO B w.heap.size mg w w1)(hr:w1.ownsRow w.heap.size 39 2 vc P.length (bA P))(ha:∀q∈P,w1.ownsRow w.heap.size 36 2 q.2 q.1.2.length (aG q.1.2))(hk2:bO B w1.heap.size mg w1 w2)(hl:w2.ownsRow w1.heap.size 36 2 vl l.length (aG l)) :
  bO B w.heap.size mg w w2/\w2.ownsRow w.heap.size 39 2 vc P.length (bA P)/\(∀q∈P,w2.ownsRow w.heap.size 36 2 q.2 q.1.2.length (aG q.1.2))/\w2.ownsRow w.heap.size 36 2 vl l.length (aG l):=by
 obtain ⟨D,hm,_⟩:=hq.map;exact ⟨hk.trans (hk2.mono hk.size),hk2.own hr (by decide) (by intro e;exact absurd e (by decide)) (rZ hr hm),λq hq'=>hk2.own (ha q hq') (by decide) (λ_=>zy _) (rZ (ha q hq') hm),dN hl hk.size⟩
theorem aFm{st2:bB}{v3:Value}{x:Lt}{X:Obj}(hq:bQ B w2 pb s T st2 g vC vP mg)(hk:bO B w.heap.size mg w w2)(hr:w2.ownsRow w.heap.size 39 2 vc P.length (bA P))(ha:∀q∈P,w2.ownsRow w.heap.size 36 2 q.2 q.1.2.length (aG q.1.2))(hl:w2.ownsRow w.heap.size 36 2 vl x.2.length (aG x.2))
  (ho:w3.ownsRow w.heap.size 39 2 v3 (P.length+1) (bA P++[.bool x.1,vl])) (hg:(w2.alloc X).grownBy w3 vc.ownBlock) :
  bQ B w3 pb s T st2 g vC vP mg/\bO B w.heap.size mg w w3/\w3.ownsRow w.heap.size 39 2 v3 (P++[(x,vl)]).length (bA (P++[(x,vl)]))/\(∀q∈P++[(x,vl)],w3.ownsRow w.heap.size 36 2 q.2 q.1.2.length (aG q.1.2)):=by
 have hA:=(Below.refl w2.heap.size w2).alloc (zy _) X;have hrA:=aU hr hA (zy _);have haA:=λq hq'=>aU (ha q hq') hA (zy _)
 have hlA:=aU hl hA (zy _);refine ⟨(hq.below hA).far hrA (by decide) hg,?_,by rw [aCe,zq];exact ho,λq hq'=>?_⟩
 ·have hkA:=hk.trans (bO.of_below (B:=B) (B':=w.heap.size) (mg:=mg) hA);exact ⟨hg.os.trans hkA.os,hg.tape.trans hkA.tape,hg.output.trans hkA.output,zi hkA.size hg.size,λk hk' hc=>by
   rw [hg.block k (zk hk' hkA.size) (λe=>by have:=(aT hrA k e.symm).1;omega),hkA.block k hk' hc]⟩
 ·rcases zz.1 hq' with hq' | hq'
  ·exact (haA q hq').kept hg (bW (haA q hq') hrA (by decide))
  ·simp at hq';subst hq';exact hlA.kept hg (bW hlA hrA (by decide))
theorem aNn(hT:∀i,(aE T i).kind∈gP)(hx:∀i,(aE T i).txt.size<=1000000)(hs:s.size<=3000)(hTl:T.length<=1000000)(h:bQ B w pb s T st g vC vP mg)(hBw:B<=w.heap.size)(hp1:st.places.length<=st.i)(hv1:st.vars.length<=st.i) :
  Calls zs 82 #[.pointer (some ⟨pb,0,none⟩)] w λe w'=>aNm B pb w s T g vC mg (iK T (T.length+1) st []) e w':=by
 obtain ⟨iL,hI,hI0,hI1,hI2⟩:=info_parts sF;have H0:Hid (LLq B pb w s T g vC mg (iK T (T.length+1) st []) (T.length+1) (.slice none 0 0) w st [] vP):=aA ⟨h,bO.refl _ _ _ _,zh _ _ _ _,λq hq=>by simp at hq,rfl,by omega,hp1,hv1,by simp⟩;obtain ⟨R,hR⟩ : ∃R,iK T (T.length+1) st []=R:=⟨_,rfl⟩;rw [hR] at H0;simp only [hR];have HT:=aA hT;have HX:=aA hx;clear h hR hT hx hp1 hv1;go_enter Tryz.func82,Tryz.ntmps82;go_wp2;go_loopg [4] (T.length+1) (λk vc wr=>∃st' P vP',LLq B pb w s T g vC mg R k vc wr st' P vP');case atStart=>exact ⟨st,[],vP,H0.out⟩
 case round=>
  clear H0;obtain ⟨st',P,vP',hL⟩:=hrel;have hlt':=hL.q.pp.lt;have hfu:=hL.fuel;have hpl:=hL.pl;have hvs:=hL.vs;have hfew:=hL.few;obtain ⟨k',rfl⟩ : ∃k',gk=k'+1:=⟨gk-1,by omega⟩;obtain ⟨va,vcc,rfl⟩:=aS hL.row;obtain ⟨q1,q2,q3,q4⟩:=aCl T st';have C126:=aA (lE 126 (by decide) (by decide) (by decide) HT.out hs hL.q.pp);rw [show dO 126=126 from rfl] at C126;have CA:=aA (λw1 (hk1:w.heap.size<=w1.heap.size) (hq1:bQ B w1 pb s T (jS T st') g vC vP' mg)=>aO3 HT.out HX.out hs hTl hq1 (zi hBw hk1) (by rw [q4];omega) (by rw [q3];omega));have HL:=aA hL;obtain ⟨nb,hnb⟩ : ∃nb,decide ((aE T st'.i).kind=126)=nb:=⟨_,rfl⟩;rw [hnb] at C126;have HNB:=aA hnb;clear hL hnb;cases hq:cX T (T.length+1) true (jS T st') [] with
  | error p=>
   rw [hq] at CA;have HR:Hid (R=.error p):=aA (by rw [HL.out.eq,aCi hq]);clear hq;go_wp2_with (first
    | (go_at_call 108;refine (CA.out _ HZ1.out.2.1.size HZ1.out.1).mono ?_;rintro e w2 ⟨hk2,a2,n2,c2,i2,vP2,vM2,rfl,hp2,hpos⟩;have HK2:=aA (HZ1.out.2.1.trans (hk2.mono HZ1.out.2.1.size));have HP2:=aA hp2;have HPO:=aA hpos;clear hk2 hp2 hpos)
    | (go_at_call 81;refine (aB C126).mono ?_;rintro e w1 ⟨rfl,hg1,hp1⟩;have HZ1:=aA (wL HL.out.q HL.out.kept HL.out.row HL.out.atoms hg1 hp1);clear hg1 hp1)
    | go_in)
   go_ret2;refine ⟨HK2.out,?_⟩;rw [HR.out];exact ⟨_,_,_,_,_,_,rfl,HP2.out,HPO.out⟩
  | ok y=>
   obtain ⟨s2,x⟩:=y;have hon:=(vN T (T.length+1)).1 _ _ _ _ _ hq;simp only [List.length_nil] at hon;rw [q3,q4] at hon;rw [hq] at CA;have HQ:=aA hq;clear hq;have C124:=aA (λw3 vP3 (hp:dK B w3 pb s T s2.i g vC vP3 (.map (some mg)))=>lE 124 (by decide) (by decide) (by decide) HT.out hs hp);rw [show dO 124=124 from rfl] at C124;by_cases h124:(aE T s2.i).kind=124
   ·rw [if_pos h124,decide_eq_true h124] at C124;have HR:Hid (∀vl,R=iK T k' ⟨s2.i+1,s2.vars,s2.places⟩ ((P++[((nb,x),vl)]).map zr)):=aA (λvl=>by rw [HL.out.eq,aCj HQ.out h124,HNB.out,List.map_append,zj]);go_wp2_with (first
     | (go_at_call 81;refine (C124.out _ _ HZ3.out.1.pp).mono ?_;rintro e w4 ⟨rfl,hg4,hp4⟩;have HZ4:=aA (wL HZ3.out.1 HZ3.out.2.1 HZ3.out.2.2.1 HZ3.out.2.2.2 hg4 hp4);clear hg4 hp4)
     | (at_builtin;refine wpList_append_own _ rfl (.tmp 17) (.tmp 21) 22 rfl w.heap.size 39 iL (.agg #[.bool false,.slice none 0 0]) 2 32 zg hI hI0 hI1 hI2 rfl (by decide) _ _ _ rfl (HZ2.out.2.1.alloc _) ⟨_,0,none⟩ 1 1 [.bool nb,.slice la x.length lac] rfl rfl (gK w2 _ _ _ _ rfl) (sG _ _ _ _) (by unfold maxLen;omega) (by omega) (by simp;omega) ?_;intro v3 w3 ho3 hg3 _;have HZ3:=aA (aFm (x:=(nb,x)) HQ2.out HZ2.out.1 HZ2.out.2.1 HZ2.out.2.2.1 HZ2.out.2.2.2 ho3 hg3);obtain ⟨va3,vc3,rfl⟩:=aS ho3;clear ho3 hg3)
     | (go_at_call 108;refine (CA.out _ HZ1.out.2.1.size HZ1.out.1).mono ?_;rintro e w2 ⟨hk2,vl,vP2,rfl,hq2,hl2⟩;obtain ⟨la,lac,rfl⟩:=aS hl2;have HZ2:=aA (aFl HZ1.out.1 HZ1.out.2.1 HZ1.out.2.2.1 HZ1.out.2.2.2 hk2 hl2);have HQ2:=aA hq2;have hz2:=HZ2.out.1.size;clear hk2 hq2 hl2)
     | (go_at_call 81;refine (aB C126).mono ?_;rintro e w1 ⟨rfl,hg1,hp1⟩;have HZ1:=aA (wL HL.out.q HL.out.kept HL.out.row HL.out.atoms hg1 hp1);clear hg1 hp1)
     | go_in)
    go_roundg k';case measure=>omega
    case rel=>exact ⟨⟨s2.i+1,s2.vars,s2.places⟩,P++[((nb,x),_)],_,HZ4.out.1,HZ4.out.2.1,HZ4.out.2.2.1,HZ4.out.2.2.2,HR.out _,by simp;omega,by simp;omega,by simp;omega,by simp;omega⟩
   ·rw [if_neg h124,decide_eq_false h124] at C124;have HR:Hid (∀vl,R=.ok (s2,(P++[((nb,x),vl)]).map zr)):=aA (λvl=>by rw [HL.out.eq,aCk HQ.out h124,HNB.out,List.map_append,zj]);go_wp2_with (first
     | (go_at_call 81;refine (C124.out _ _ HZ3.out.1.pp).mono ?_;rintro e w4 ⟨rfl,hg4,hp4⟩;have HZ4:=aA (wL HZ3.out.1 HZ3.out.2.1 HZ3.out.2.2.1 HZ3.out.2.2.2 hg4 hp4);clear hg4 hp4)
     | (at_builtin;refine wpList_append_own _ rfl (.tmp 17) (.tmp 21) 22 rfl w.heap.size 39 iL (.agg #[.bool false,.slice none 0 0]) 2 32 zg hI hI0 hI1 hI2 rfl (by decide) _ _ _ rfl (HZ2.out.2.1.alloc _) ⟨_,0,none⟩ 1 1 [.bool nb,.slice la x.length lac] rfl rfl (gK w2 _ _ _ _ rfl) (sG _ _ _ _) (by unfold maxLen;omega) (by omega) (by simp;omega) ?_;intro v3 w3 ho3 hg3 _;have HZ3:=aA (aFm (x:=(nb,x)) HQ2.out HZ2.out.1 HZ2.out.2.1 HZ2.out.2.2.1 HZ2.out.2.2.2 ho3 hg3);obtain ⟨va3,vc3,rfl⟩:=aS ho3;clear ho3 hg3)
     | (go_at_call 108;refine (CA.out _ HZ1.out.2.1.size HZ1.out.1).mono ?_;rintro e w2 ⟨hk2,vl,vP2,rfl,hq2,hl2⟩;obtain ⟨la,lac,rfl⟩:=aS hl2;have HZ2:=aA (aFl HZ1.out.1 HZ1.out.2.1 HZ1.out.2.2.1 HZ1.out.2.2.2 hk2 hl2);have HQ2:=aA hq2;have hz2:=HZ2.out.1.size;clear hk2 hq2 hl2)
     | (go_at_call 81;refine (aB C126).mono ?_;rintro e w1 ⟨rfl,hg1,hp1⟩;have HZ1:=aA (wL HL.out.q HL.out.kept HL.out.row HL.out.atoms hg1 hp1);clear hg1 hp1)
     | go_in)
    go_ret2;refine ⟨HZ4.out.2.1,?_⟩;rw [HR.out];exact ⟨_,_,_,rfl,HZ4.out.1,HZ4.out.2.2.1,HZ4.out.2.2.2,rfl⟩
end
abbrev Pc:=(Nat×List (Lt×Value))×Value
def oF(CV:List Pc):List Value:=CV.flatMap λp=>[.int .i64 p.1.1,p.2]
theorem aNo(CV:List Pc)(p:Pc):oF (CV++[p])=oF CV++[.int .i64 p.1.1,p.2]:=by simp [oF]
structure fN(B:Nat)(w:World)(vC:Value)(CV:List Pc):Prop where
 row:w.ownsRow B 105 2 vC CV.length (oF CV)
 each:∀p∈CV,pH w B (p.1.2,p.2)
def iX(p:Pc):Nat×List Lt:=(p.1.1,p.1.2.map zr)
structure rX(B:Nat)(w:World)(pb:Nat)(s:ByteArray)(T:List Tk)(st:bB)(g:Nat)(vC vP:Value)(CV:List Pc):Prop where
 pp:∃vM,dK B w pb s T st.i g vC vP vM
 places:w.ownsRow B 3 1 vP st.places.length (lX st.places)
 cs:fN B w vC CV
theorem fN.keep{CV:List Pc}(h:fN B w vC CV)(k:∀e size v n xs,(e=105\/e=39\/e=36)->(e=105->v=vC)->w.ownsRow B e size v n xs->w'.ownsRow B e size v n xs):fN B w' vC CV:=
 ⟨k _ _ _ _ _ (zu rfl) (λ_=>rfl) h.row,λp hp=>⟨k _ _ _ _ _ (zx (zu rfl)) (λe=>absurd e (by decide)) (h.each p hp).1,λq hq=>k _ _ _ _ _ (zx (zx rfl)) (λe=>absurd e (by decide)) ((h.each p hp).2 q hq)⟩⟩
theorem fN.below{CV:List Pc}(h:fN B w vC CV)(k:Below w.heap.size w w'):fN B w' vC CV:=
 h.keep λ_ _ _ _ _ _ _ ho=>aU ho k (zy _)
theorem aBf{e:TypeId}(h:e=105\/e=39\/e=36):e≠82/\e≠3:=by rcases h with rfl | rfl | rfl <;> decide
theorem fN.take{CV:List Pc}{left:Value}{k a:Int}{wd:ByteArray}{vC' vM:Value}(h:fN B w vC CV)(hb:bL w pb left k a wd vC' vP vM)(hg:w.grownBy w' (some pb)):fN B w' vC CV:=
 h.keep λ_ _ _ _ _ he _ ho=>ho.kept hg (hb.apart ho (aBf he).1)
theorem fN.kept{n:Nat}{CV:List Pc}{D:DataW Unit}(h:fN B w vC CV)(hm:w.ownsMap zs 9 lW mg n D)(hk:bO B w.heap.size mg w w'):fN B w' vC CV:=
 h.keep λ_ _ _ _ _ he _ ho=>hk.own ho ⟨(aBf he).2,(aBf he).1⟩ (λ_=>zy _) (rZ ho hm)
theorem lV{e t:TypeId}{size:Nat}{n:Nat}{xs:List Value}{fr:Nat×Nat}(ho:w.ownsRow B e size v n xs)(ht:w.heap[lb]?=some (.cells cs t fr))(he:e≠t):v.ownBlock≠some lb:=by
 intro e';obtain ⟨_,⟨rfl,_⟩ | ⟨g',cap,cur,rfl,_,hh,_⟩⟩:=ho
 ·simp [zp] at e'
 ·simp [zp] at e';subst e';rw [hh] at ht;simp at ht;exact he ht.2.1
theorem bQ.other{fr:Nat×Nat}(h:bQ B w pb s T st g vC vP mg)(ht:w.heap[lb]?=some (.cells cs 105 fr))(hg:w.grownBy w' (some lb)):bQ B w' pb s T st g vC vP mg:=by
 obtain ⟨D,h1,h2⟩:=h.map;obtain ⟨left,hb,_⟩:=h.pp.box;obtain ⟨cs',fr',hgl⟩:=h.pp.glyph;refine ⟨h.pp.far hg ?_ ?_,h.places.kept hg (zx (lV h.places ht (by decide))),⟨D,h1.kept hg ?_,h2⟩,h.mhigh⟩
 ·intro e;simp at e;subst e;unfold bL at hb;rw [ht] at hb;simp at hb
 ·intro e;simp at e;subst e;rw [ht] at hgl;simp at hgl
 ·intro e;simp at e;subst e;obtain ⟨es,cl,hh,_⟩:=h1;rw [ht] at hh;cases hh
theorem fN.other{CV:List Pc}{fr:Nat×Nat}(h:fN B w vC CV)(ht:w.heap[lb]?=some (.cells cs 105 fr))(hne:vC.ownBlock≠some lb)(hg:w.grownBy w' (some lb)):fN B w' vC CV:=
 h.keep λe _ _ _ _ he hv ho=>ho.kept hg (zx (by
  by_cases h5:e=105
  ·rw [hv h5];exact hne
  ·exact lV ho ht h5))
theorem bQ.setC(h:bQ B w pb s T st g vC vP mg)(v:Value):bQ B (w.setCell ⟨pb,4,none⟩ v) pb s T st g v vP mg:=by obtain ⟨D,h1,h2⟩:=h.map;obtain ⟨q,j,m,c,hP⟩:=h.pp;have hb:=hP.sc.box;exact ⟨⟨q,j,m,c,⟨heap_setCell_same w pb 4 _ _ _ hb,hP.sc.high,hb.row hP.sc.row (by decide) _ _,hP.sc.len,hP.sc.drop,hP.sc.le⟩,hP.lt,hP.on⟩,hb.row h.places (by decide) _ _,⟨D,h1.setCell (λe=>yS hb h1 e.symm) _,h2⟩,h.mhigh⟩
theorem aNp{CV:List Pc}(h:rX B w pb s T st g vC vP CV)(hBw:B<=w.heap.size)(cs:Array Value){W:World}(hW:W=((w.alloc (.cells cs 105)).alloc (.map #[] 0)).setCell ⟨pb,6,none⟩ (.map (some (w.heap.size+1)))) :
  bQ B W pb s T ⟨st.i,[],st.places⟩ g vC vP (w.heap.size+1)/\fN B W vC CV/\Below B w W/\W.heap[w.heap.size]?=some (.cells cs 105):=by
 subst hW;have hA:=((Below.refl w.heap.size w).alloc (zy _) (.cells cs 105)).alloc (by simp) (.map #[] 0);obtain ⟨vM,hp⟩:=h.pp;obtain ⟨left0,hb0,hBp⟩:=hp.box;have hlt:=hb0.lt;have hp1:=hp.below hA;obtain ⟨q,j,m,c,hP⟩:=hp1;have hb:=hP.sc.box;have hpl:=aU h.places hA (zy _);have hcs:=h.cs.below hA;have hm:((w.alloc (.cells cs 105)).alloc (.map #[] 0)).ownsMap zs 9 lW (w.heap.size+1) 0 (.map []):=by have:=World.ownsMap_made (P:=zs) (w.alloc (.cells cs 105)) 9 lW;simpa using this
 refine ⟨⟨⟨q,j,m,c,⟨heap_setCell_same _ pb 6 _ _ _ hb,hP.sc.high,hb.row hP.sc.row (by decide) _ _,hP.sc.len,hP.sc.drop,hP.sc.le⟩,hP.lt,hP.on⟩,hb.row hpl (by decide) _ _,⟨.map [],hm.setCell (λe=>by simp at e;omega) _,oG.start⟩,by omega⟩,hcs.take hb (bR _ _ _),?_,?_⟩
 ·refine ⟨hA.os,hA.tape,hA.output,by simp [zm];omega,λk hk=>?_⟩;rw [Below.heap_setCell _ _ _ _ (show k≠pb by omega)];exact hA.block k (by omega)
 ·rw [Below.heap_setCell _ _ _ _ (show w.heap.size≠pb by omega)];show ((w.heap.push _).push _)[w.heap.size]?=_;rw [Array.getElem?_push_lt (by simp)];simp
theorem aFn{w2:World}{v3:Value}{CV:List Pc}{X:Obj}{a:Nat}{P:List (Lt×Value)}(hq:bQ B w2 pb s T st g vC vP mg)(hc:fN B w2 vC CV)(hb:Below B w w2)(hBw:B<=w.heap.size)(hr:pH w2 B (P,vl))(ho:w3.ownsRow B 105 2 v3 (CV.length+1) (oF CV++[.int .i64 a,vl]))(hg:(w2.alloc X).grownBy w3 vC.ownBlock) :
  w3.cell? ⟨pb,4,none⟩=some vC/\w3.frozen? ⟨pb,4,none⟩=false/\bQ B (w3.setCell ⟨pb,4,none⟩ v3) pb s T st g v3 vP mg/\fN B (w3.setCell ⟨pb,4,none⟩ v3) v3 (CV++[((a,P),vl)])/\Below B w (w3.setCell ⟨pb,4,none⟩ v3):=by
 have hA:=(Below.refl w2.heap.size w2).alloc (zy _) X;have hcA:=hc.below hA;have hqA:=hq.below hA;have hq3:=hqA.far hcA.row (by decide) hg;obtain ⟨left,hb3,hBp⟩:=hq3.pp.box;have hz:=hb.size;have e3:∀p∈CV++[((a,P),vl)],pH w3 B (p.1.2,p.2):=by
  intro p hp;have key:pH (w2.alloc X) B (p.1.2,p.2):=by
   rcases zz.1 hp with hp | hp
   ·exact hcA.each p hp
   ·simp at hp;subst hp;exact ⟨aU hr.1 hA (zy _),λq hq=>aU (hr.2 q hq) hA (zy _)⟩
  exact ⟨key.1.kept hg (bW key.1 hcA.row (by decide)),λq hq=>(key.2 q hq).kept hg (bW (key.2 q hq) hcA.row (by decide))⟩
 refine ⟨hb3.c4,hb3.soft 4,hq3.setC v3,⟨?_,λp hp=>⟨hb3.row (e3 p hp).1 (by decide) _ _,λq hq=>hb3.row ((e3 p hp).2 q hq) (by decide) _ _⟩⟩,?_⟩
 ·refine hb3.row ?_ (by decide) _ _;rw [aNo,zq];exact ho
 ·have s3:=hg.size;simp at s3;refine ⟨hg.os.trans (hA.os.trans hb.os),hg.tape.trans (hA.tape.trans hb.tape),hg.output.trans (hA.output.trans hb.output),by simp [zm];omega,λk hk=>?_⟩;rw [Below.heap_setCell _ _ _ _ (show k≠pb by omega),hg.block k (by simp;omega) (λe=>by have:=(aT hcA.row k e.symm).1;omega),hA.block k (by omega),hb.block k hk]
end
section
open Go.RowKit Go.Shelf
section
variable {w w':World}{B bk:Nat}{nv mv xv yv:Value}{E:List (Value×Int)}{F:List bZ}{G:List dB}{next:Int}
theorem dM.heldTy(h:dM w B bk nv mv xv yv E F G next):∀k∈F.flatMap bZ.held++G.flatMap dB.held,∃cs t,w.heap[k]?=some (.cells cs t)/\(t=36\/t=39\/t=22):=by
 have key:∀(e:TypeId) (el:List Value) (v:Value) (k:Nat),eZ e el w v->v.ownBlock=some k->∃cs,w.heap[k]?=some (.cells cs e):=by
  intro e el v k hm hk;rcases hm with rfl | ⟨g,n,c,cur,rfl,hh,_⟩
  ·simp [zp] at hk
  ·simp [zp] at hk;subst hk;exact ⟨_,hh⟩
 intro k hk;rcases zz.1 hk with hk | hk
 ·obtain ⟨f,hf,hk⟩:=zv.1 hk;rcases zl.1 hk with rfl | hk
  ·exact ⟨_,_,(h.fs f hf).atom,zu rfl⟩
  ·obtain ⟨v,hv,hvk⟩:=zo.1 hk;obtain ⟨cs,hc⟩:=key _ _ v k ((h.fs f hf).marks v hv) hvk;exact ⟨cs,_,hc,zx (zu rfl)⟩
 ·obtain ⟨f,hf,hk⟩:=zv.1 hk;rcases zl.1 hk with rfl | hk
  ·exact ⟨_,_,(h.gs f hf).lit,zx (zu rfl)⟩
  ·rcases zl.1 hk with rfl | hk
   ·exact ⟨_,_,(h.gs f hf).atom,zu rfl⟩
   ·obtain ⟨v,hv,hvk⟩:=zo.1 hk;obtain ⟨cs,hc⟩:=key _ _ v k ((h.gs f hf).marks v hv) hvk;exact ⟨cs,_,hc,zx (zx rfl)⟩
theorem dM.nodes(h:dM w B bk nv mv xv yv E F G next){lv nv' mv':Value}{l:List Nd}{E':List (Value×Int)}(ho:fP w B lv l)(hap:∀k∈held E F G,lv.ownBlock≠some k)(r:yK w B bk (xv,yv) nv mv lv E next w' nv' mv' E') :
  dM w' B bk nv' mv' xv yv (E++E') F G (next-1)/\∀k∈held (E++E') F G,k∈held E F G\/lv.ownBlock=some k\/w.heap.size<=k:=by
 have hrow:∀{e:TypeId} {size n:Nat} {v:Value} {xs:List Value},w.ownsRow B e size v n xs->e≠31->e≠37->e≠3->e≠36->w'.ownsRow B e size v n xs:=by
  intro e size n v xs hv h1 h2 h3 h4;refine rM hv λk hk=>r.far.block k (aT hv k hk).2 ?_ ?_ ?_ ?_
  ·rintro rfl;exact cE hv h.base.box h1 hk
  ·intro e';rcases bW hv h.base.rn h2 with q | q
   ·rw [q] at hk;cases hk
   ·exact q (by rw [hk,e'])
  ·intro e';rcases bW hv h.base.rm h3 with q | q
   ·rw [q] at hk;cases hk
   ·exact q (by rw [hk,e'])
  ·intro e';rcases bW hv ho h4 with q | q
   ·rw [q] at hk;cases hk
   ·exact q (by rw [hk,e'])
 have hkeep:∀k∈F.flatMap bZ.held++G.flatMap dB.held,w'.heap[k]?=w.heap[k]?:=by
  intro k hk;obtain ⟨cs,t,hc,ht⟩:=h.heldTy k hk;refine r.far.block k (zw.1 hc).1 ?_ ?_ ?_ (hap k (zz.2 (zx hk)))
  ·rintro rfl;have:=h.base.box;rw [hc] at this;simp at this;rcases ht with rfl | rfl | rfl <;> exact absurd this.2 (by decide)
  ·exact lV h.base.rn hc (by rcases ht with rfl | rfl | rfl <;> decide)
  ·exact lV h.base.rm hc (by rcases ht with rfl | rfl | rfl <;> decide)
 refine ⟨⟨r.book,hrow h.rx (by decide) (by decide) (by decide) (by decide),hrow h.ry (by decide) (by decide) (by decide) (by decide),λf hf=>(h.fs f hf).same λk hk=>hkeep k (zz.2 (zu (zv.2 ⟨f,hf,hk⟩))),λf hf=>(h.gs f hf).same λk hk=>hkeep k (zz.2 (zx (zv.2 ⟨f,hf,hk⟩))),h.fewF,h.fewG,h.xap⟩,λk hk=>?_⟩;unfold held at hk ⊢;rw [List.filterMap_append] at hk;rcases zz.1 hk with hk | hk
 ·rcases zz.1 hk with hk | hk
  ·exact zu (zz.2 (zu hk))
  ·obtain ⟨x,hx,hxk⟩:=zo.1 hk;rcases r.new x hx with q | ⟨g,q,hg⟩
   ·exact zx (zu (by rw [<-q,hxk]))
   ·rw [q] at hxk;simp at hxk;exact zx (zx (by omega))
 ·exact zu (zz.2 (zx hk))
end
structure gQ(w w':World)(bk:Nat)(nv mv:Value)(L:List Value):Prop where
 os:w'.os=w.os
 tape:w'.tape=w.tape
 output:w'.output=w.output
 size:w.heap.size<=w'.heap.size
 block:∀k,k<w.heap.size->k≠bk->nv.ownBlock≠some k->mv.ownBlock≠some k->(∀v∈L,v.ownBlock≠some k)->w'.heap[k]?=w.heap[k]?
theorem gQ.refl(w:World)(bk:Nat)(nv mv:Value):gQ w w bk nv mv []:=⟨rfl,rfl,rfl,zy _,λ_ _ _ _ _ _=>rfl⟩
theorem gQ.step{w w1 w2:World}{bk:Nat}{nv mv nv1 mv1 lv:Value}{L:List Value}(h:gQ w w1 bk nv mv L)(hn:aX w nv nv1)(hm:aX w mv mv1)(k:iW w1 w2 bk nv1 mv1 lv):gQ w w2 bk nv mv (L++[lv]):=
 ⟨k.os.trans h.os,k.tape.trans h.tape,k.output.trans h.output,zi h.size k.size,λj h1 h2 h3 h4 h5=>by
  rw [k.block j (zk h1 h.size) h2 ?_ ?_ (h5 lv (by simp)),h.block j h1 h2 h3 h4 (λv hv=>h5 v (by simp [hv]))]
  ·rcases hn with q | ⟨g,q,hg⟩
   ·rw [q];exact h3
   ·rw [q];intro e;simp at e;omega
  ·rcases hm with q | ⟨g,q,hg⟩
   ·rw [q];exact h4
   ·rw [q];intro e;simp at e;omega⟩
structure qF(w:World)(B bk:Nat)(nv mv xv yv:Value)(E:List (Value×Int))(F:List bZ)(G:List dB)(next:Int)(L:List Value)(k:Nat)(wr:World)(nv1 mv1:Value)(E1:List (Value×Int)):Prop where
 book:dM wr B bk nv1 mv1 xv yv E1 F G (next-k)
 len:E1.length=E.length+4*k
 far:gQ w wr bk nv mv (L.take k)
 mn:aX w nv nv1
 mm:aX w mv mv1
 held:∀j∈held E1 F G,j∈Go.Proofs.YtcldkjcpofjmhaaGreatDoor.held E F G\/(∃v∈L.take k,v.ownBlock=some j)\/w.heap.size<=j
theorem qF.more{wr w2:World}{bk:Nat}{nv mv xv yv nv1 mv1 nv2 mv2:Value}{E E1 E2:List (Value×Int)}{F:List bZ}{G:List dB}{next:Int}{L:List Value}{k:Nat}{l:List Nd}(h:qF w B bk nv mv xv yv E F G next L k wr nv1 mv1 E1)(hk:k<L.length)(ho:fP wr B L[k] l)(hap:∀j∈Go.Proofs.YtcldkjcpofjmhaaGreatDoor.held E1 F G,L[k].ownBlock≠some j)(r:yK wr B bk (xv,yv) nv1 mv1 L[k] E1 (next-k) w2 nv2 mv2 E2) :
  qF w B bk nv mv xv yv E F G next L (k+1) w2 nv2 mv2 (E1++E2):=by
 obtain ⟨b1,b2⟩:=h.book.nodes ho hap r;have ht:L.take (k+1)=L.take k++[L[k]]:=List.take_succ_eq_append_getElem hk;refine ⟨by rw [show next-((k+1:Nat):Int)=next-k-1 by omega];exact b1,by rw [zq,h.len,r.len];omega,by rw [ht];exact h.far.step h.mn h.mm r.far,h.mn.trans r.mn h.far.size,h.mm.trans r.mm h.far.size,λj hj=>?_⟩;rcases b2 j hj with q | q | q
 ·rcases h.held j q with q | ⟨v,hv,hvj⟩ | q
  ·exact zu q
  ·exact zx (zu ⟨v,by rw [ht];exact zz.2 (zu hv),hvj⟩)
  ·exact zx (zx q)
 ·exact zx (zu ⟨L[k],by rw [ht];exact zz.2 (zx (List.mem_singleton.2 rfl)),q⟩)
 ·exact zx (zx (by have:=h.far.size;omega))
section
variable {w w':World}{B bk:Nat}{nv mv xv yv:Value}{E:List (Value×Int)}{F:List bZ}{G:List dB}{next:Int}
theorem dM.setNext(h:dM w B bk nv mv xv yv E F G next){x:Int}(hlo : -10000000000<=x)(hhi:x<=0):dM (w.setCell ⟨bk,8,none⟩ (.int .i64 x)) B bk nv mv xv yv E F G x:=by
 have hg:=bR w ⟨bk,8,none⟩ (.int .i64 x);have hne:∀k∈F.flatMap bZ.held++G.flatMap dB.held,(w.setCell ⟨bk,8,none⟩ (.int .i64 x)).heap[k]?=w.heap[k]?:=by intro k hk;obtain ⟨cs,t,hc,ht⟩:=h.heldTy k hk;refine hg.block k (zw.1 hc).1 (λq=>?_);simp at q;subst q;have:=h.base.box;rw [hc] at this;simp at this;rcases ht with rfl | rfl | rfl <;> exact absurd this.2 (by decide)
 exact ⟨h.base.setNext hlo hhi,eC h.rx h.base.box (by decide),eC h.ry h.base.box (by decide),λf hf=>(h.fs f hf).same λk hk=>hne k (zz.2 (zu (zv.2 ⟨f,hf,hk⟩))),λf hf=>(h.gs f hf).same λk hk=>hne k (zz.2 (zx (zv.2 ⟨f,hf,hk⟩))),h.fewF,h.fewG,h.xap⟩
end
end
section
open Go.RowKit Go.WideMaps
def aFo(B pb:Nat)(w:World)(s:ByteArray)(T:List Tk)(g:Nat)(CV:List Pc)(a:Nat)(r:Except Nat (bB×List Lt))(e:Ending)(w':World):Prop:=
 Below B w w'/\
  match r with
  | .ok (s1,c)=>∃vC vP P vl,e=.returned (.bool true)/\rX B w' pb s T s1 g vC vP (CV++[((a,P),vl)])/\P.map zr=c
  | .error p=>∃i vC vP vM,e=.returned (.bool false)/\dK B w' pb s T i g vC vP vM/\(aE T i).pos=p
section
variable {B pb:Nat}{s:ByteArray}{T:List Tk}{g:Nat}{vC vP:Value}{st:bB}{w:World}{CV:List Pc}
theorem aFp(b:Int)(a:Option Addr)(n c:Nat):∀u∈[Value.int .i64 b,Value.slice a n c],u.oneCell'=true:=by intro u hu;simp at hu;rcases hu with rfl | rfl <;> rfl
theorem aFq:(zs.info? 105).map (λi=>(i.zero,i.size,i.bytes))=some (some (.agg #[.int .i64 0,.slice none 0 0]),2,32):=by kernel_rfl
theorem aFr{w5 w6:World}{s2:bB}{b46:Bool}{v5 vP2:Value}{P:List (Lt×Value)}{e:Ending}(hBw:B<=w.heap.size)(hpg:nS T st=.ok (s2,P.map zr))(hb46:decide ((aE T s2.i).kind=46)=b46)(hq:bQ B w5 pb s T s2 g v5 vP2 mg)(hc:fN B w5 v5 (CV++[((tp,P),vl)]))(hb:Below B w w5)(hg:w5.grownBy w6 (some pb))(hp:dK B w6 pb s T (if (aE T s2.i).kind=46 then s2.i+1 else s2.i) g v5 vP2 (.map (some mg)))(he:e=.returned (.bool b46)) :
  aFo B pb w s T g CV tp (nT T st) e w6:=by
 obtain ⟨left,hbx,hBp⟩:=hq.pp.box;have hz:=hb.size;refine ⟨hb.grown hg (by omega) (by simpa using hBp),?_⟩;unfold nT;rw [hpg];simp only;by_cases h46:(aE T s2.i).kind=46
 ·rw [if_pos h46] at hp ⊢;rw [decide_eq_true h46] at hb46;subst hb46;exact ⟨v5,vP2,P,vl,he,⟨⟨_,hp⟩,hq.places.kept hg (hbx.apart hq.places (by decide)),hc.take hbx hg⟩,rfl⟩
 ·rw [if_neg h46] at hp ⊢;rw [decide_eq_false h46] at hb46;subst hb46;exact ⟨_,_,_,_,he,hp,rfl⟩
structure rY(B pb:Nat)(w w1:World)(s:ByteArray)(T:List Tk)(st:bB)(g:Nat)(vC vP:Value)(mg:Nat)(CV:List Pc)(lb tp:Nat)(v:Value):Prop where
 q:bQ B w1 pb s T st g vC vP mg
 cs:fN B w1 vC CV
 low:Below B w w1
 box:w1.heap[lb]?=some (.cells #[.int .i64 tp,v] 105)
 size:B<=w1.heap.size
theorem aNq{W:World}(hq:bQ B W pb s T s1 g vC vP mg)(hc:fN B W vC CV)(hb:Below B w W)(hBw:B<=w.heap.size)(hx:W.heap[lb]?=some (.cells #[.int .i64 tp,v] 105)){i':Nat}(hg:W.grownBy w1 (some pb))(hp:dK B w1 pb s T i' g vC vP (.map (some mg))):rY B pb w w1 s T ⟨i',s1.vars,s1.places⟩ g vC vP mg CV lb tp v:=by
 obtain ⟨left,hbx,hBp⟩:=hq.pp.box;have hz:=hb.size;have hz1:=hg.size;refine ⟨hq.take hg hp,hc.take hbx hg,hb.grown hg (by omega) (by simpa using hBp),?_,by omega⟩;rw [hg.block lb (zw.1 hx).1 ?_]
 ·exact hx
 ·intro e;simp at e;subst e;unfold bL at hbx;rw [hx] at hbx;simp at hbx
theorem rY.boxKept(h:rY B pb w w1 s T s1 g vC vP mg CV lb tp v)(hk:bO B w1.heap.size mg w1 w3):w3.heap[lb]?=some (.cells #[.int .i64 tp,v] 105):=by
 rw [hk.block lb (zw.1 h.box).1 (zx ⟨?_,λcs t fr hx=>?_⟩)]
 ·exact h.box
 ·rintro rfl;obtain ⟨D,⟨es,cl,hh,_⟩,_⟩:=h.q.map;have:=h.box;rw [hh] at this;cases this
 ·rw [h.box] at hx;simp at hx;obtain ⟨_,rfl,_⟩:=hx;exact ⟨by decide,by decide,λe=>absurd e (by decide)⟩
theorem rY.err(h:rY B pb w w1 s T s1 g vC vP mg CV lb tp v)(hBw:B<=w.heap.size)(hlb:B<=lb)(hk:bO B w1.heap.size mg w1 w3){i:Nat}{vP3 vM3:Value}(hp:dK B w3 pb s T i g vC vP3 vM3)(u:Value) :
  w3.cell? ⟨lb,1,none⟩=some v/\w3.frozen? ⟨lb,1,none⟩=false/\Below B w (w3.setCell ⟨lb,1,none⟩ u)/\dK B (w3.setCell ⟨lb,1,none⟩ u) pb s T i g vC vP3 vM3:=by
 have hx:=h.boxKept hk;obtain ⟨left,hbx,hBp⟩:=hp.box;obtain ⟨cs,fr,hgl⟩:=hp.glyph;have hlow:=h.low.trans (hk.below h.size);have hz:=hlow.size;refine ⟨by unfold zt;rw [hx];rfl,by unfold World.frozen?;rw [hx];rfl,hlow.grown (bR _ _ _) (by omega) (by simpa using hlb),hp.far (bR _ _ _) ?_ ?_⟩
 ·intro e;simp at e;subst e;unfold bL at hbx;rw [hx] at hbx;simp at hbx
 ·intro e;simp at e;subst e;rw [hx] at hgl;simp at hgl
theorem rY.ok{s2:bB}(h:rY B pb w w1 s T s1 g vC vP mg CV lb tp v)(hBw:B<=w.heap.size)(hlb:B<=lb)(hne:vC.ownBlock≠some lb)(hk:bO B w1.heap.size mg w1 w3){vP3 vc:Value}{P:List (Lt×Value)}(hq:bQ B w3 pb s T s2 g vC vP3 mg)(hr:w3.ownsRow w1.heap.size 39 2 vc P.length (bA P))(ha:∀q∈P,w3.ownsRow w1.heap.size 36 2 q.2 q.1.2.length (aG q.1.2)) :
  w3.cell? ⟨lb,1,none⟩=some v/\w3.frozen? ⟨lb,1,none⟩=false/\rY B pb w (w3.setCell ⟨lb,1,none⟩ vc) s T s2 g vC vP3 mg CV lb tp vc/\pH (w3.setCell ⟨lb,1,none⟩ vc) B (P,vc):=by
 have hx:=h.boxKept hk;obtain ⟨D,hm,_⟩:=h.q.map;have hlow:=h.low.trans (hk.below h.size);have hz:=hlow.size;have hg:=bR w3 ⟨lb,1,none⟩ vc;have hs1:=h.size;refine ⟨by unfold zt;rw [hx];rfl,by unfold World.frozen?;rw [hx];rfl,⟨hq.other hx hg,(h.cs.kept hm hk).other hx hne hg,hlow.grown hg (by omega) (by simpa using hlb),heap_setCell_same w3 lb 1 _ _ _ hx,by have:=hg.size;omega⟩,(dN hr hs1).kept hg (zx (lV hr hx (by decide))),λq hq'=>(dN (ha q hq') hs1).kept hg (zx (lV (ha q hq') hx (by decide)))⟩
theorem aNr(hT:∀i,(aE T i).kind∈gP)(hx:∀i,(aE T i).txt.size<=1000000)(hs:s.size<=3000)(hTl:T.length<=1000000)(h:rX B w pb s T st g vC vP CV)(hBw:B<=w.heap.size)(hp1:st.places.length<=st.i)(hc1:CV.length<=st.i) :
  Calls zs 50 #[.pointer (some ⟨pb,0,none⟩)] w λe w'=>aFo B pb w s T g CV (aE T st.i).pos (nT T st) e w':=by
 have hmm:=@run_makeMap zs;obtain ⟨vM,hpp⟩:=h.pp;have hlt:=hpp.lt;obtain ⟨left,hb,_⟩:=hpp.box;have d2:=hb.c2;have d2A:∀o,(w.alloc o).cell? ⟨pb,2,none⟩=some (.int .i64 (aE T st.i).pos):=λo=>Below.at' ((Below.refl w.heap.size w).alloc (zy _) o) (zy _) d2
 have d6:=hb.c6;have f6:=hb.soft 6;have hpl:=hb.lt;obtain ⟨va,vac,rfl⟩:=aS h.cs.row;have HH:=aA h;have HT:=aA hT;have HX:=aA hx;clear h hb hpp hT hx;obtain ⟨tp,htp⟩ : ∃tp,(aE T st.i).pos=tp:=⟨_,rfl⟩;rw [htp] at d2;simp only [htp] at d2A ⊢;have HTP:=aA htp;clear htp;go_enter Tryz.func50,Tryz.ntmps50;go_upto_region 3 with (fail);have hW:((w.setCell ⟨pb,6,none⟩ (.map (some (w.heap.size+1)))).alloc (.cells #[.int .i64 tp,.slice none 0 0] 105)).alloc (.map #[] 0)=((w.alloc (.cells #[.int .i64 tp,.slice none 0 0] 105)).alloc (.map #[] 0)).setCell ⟨pb,6,none⟩ (.map (some (w.heap.size+1))):=by rw [zn _ _ _ _ (by simp;omega),zn _ _ _ _ hpl]
 have hst:=aNp HH.out hBw #[.int .i64 tp,.slice none 0 0] hW;have hwz:w.heap.size<(((w.setCell ⟨pb,6,none⟩ (.map (some (w.heap.size+1)))).alloc (.cells #[.int .i64 tp,.slice none 0 0] 105)).alloc (.map #[] 0)).heap.size:=by simp [zm];omega
 generalize ((w.setCell ⟨pb,6,none⟩ (.map (some (w.heap.size+1)))).alloc (.cells #[.int .i64 tp,.slice none 0 0] 105)).alloc (.map #[] 0)=W at *;have hne:=qK HH.out.cs.row;generalize w.heap.size+1=mg at *;have hBw':=hBw;obtain ⟨lb,hlb⟩ : ∃lb,w.heap.size=lb:=⟨_,rfl⟩;rw [hlb] at hwz hne hst hBw hpl;simp only [hlb];obtain ⟨hQ,hC,hB,hX⟩:=hst;clear hW d2 d2A d6 f6;have HQ:=aA hQ;have HC:=aA hC;have HB:=aA hB;have HXB:=aA hX;clear hQ hC hB hX;have C36:=aA (lE 102 (by decide) (by decide) (by decide) HT.out hs HQ.out.pp);rw [show dO 102=36 from rfl] at C36;by_cases h102:(aE T st.i).kind=102
 ·rw [if_pos h102,decide_eq_true h102] at C36;go_upto_region 8 with (first
   | (go_at_call 81;refine (aB C36).mono ?_;rintro e w2 ⟨rfl,hg1,hp1⟩;have HG1:=aA hg1;have HP1:=aA hp1;clear hg1 hp1)
   | go_in)
  have hq1:=HQ.out.take HG1.out HP1.out;obtain ⟨leftW,hbW,hBpW⟩:=HQ.out.pp.box;have hc1':=HC.out.take hbW HG1.out;have hb1:Below B w w2:=HB.out.grown HG1.out (by have:=HB.out.size;omega) (by simpa using hBpW);have hx1:w2.heap[lb]?=some (.cells #[.int .i64 tp,.slice none 0 0] 105):=by rw [HG1.out.block lb hwz (by simp;omega)];exact HXB.out
  have HQ2:=aA hq1;have HC2:=aA hc1';have HB2:=aA hb1;have HX2:=aA hx1;have HPG:Hid (nS T st=.ok (⟨st.i+1,[],st.places⟩,[])):=aA (by rw [nS,if_pos h102]);clear hq1 hbW hc1' hb1 hx1 HQ HC HB HXB HG1 HP1 C36;obtain ⟨left2,hb2,hBp⟩:=HQ2.out.pp.box;have p4:=hb2.c4;have t0:w2.cell? ⟨lb,0,none⟩=some (.int .i64 tp):=by unfold zt;rw [HX2.out];rfl
  have t1:w2.cell? ⟨lb,1,none⟩=some (.slice none 0 0):=by unfold zt;rw [HX2.out];rfl
  have p4A:∀o,(w2.alloc o).cell? ⟨pb,4,none⟩=some (.slice va CV.length vac):=λo=>Below.at' ((Below.refl w2.heap.size w2).alloc (zy _) o) (zy _) p4
  have hz2:=HB2.out.size;clear hb2;go_cut [] (λwx=>∃v5,bQ B wx pb s T ⟨st.i+1,[],st.places⟩ g v5 vP mg/\fN B wx v5 (CV++[((tp,[]),.slice none 0 0)])/\Below B w wx);case first=>
   refine tV ?_;have hq2d:=aA (HQ2.out.below (aI (w1:=w2.drew) ⟨1,rfl⟩));have hc2d:=aA (HC2.out.below (aI (w1:=w2.drew) ⟨1,rfl⟩));have hb2d:Hid (Below B w w2.drew):=aA ⟨HB2.out.os,HB2.out.tape,HB2.out.output,HB2.out.size,HB2.out.block⟩;have hr2d:Hid (pH w2.drew B ([],.slice none 0 0)):=aA ⟨zh _ _ _ _,λq hq=>by simp at hq⟩;go_region_law (refine nM ?g1 (.tmp 30) (.tmp 32) 79 105 ?g2 (.agg #[.int .i64 0,.slice none 0 0]) 2 32 zf aFq ?g3 ?g4 ?g5 B _ CV.length (oF CV) ?g6 (hc2d.out.row.alloc _) ?g7 ?g8 w2.heap.size 1 [.int .i64 tp,.slice none 0 0] ?g9 ?g10 (gK w2.drew _ _ 105 w2.heap.size rfl) (aFp _ _ _ _) ?_;(case g1=>rfl);(case g2=>rfl);(case g3=>rfl);(case g4=>decide);(case g5=>decide);(case g6=>rfl);(case g7=>omega);(case g8=>(simp;omega));(case g9=>rfl);(case g10=>rfl);intro v3 w3 ho3 hg3;obtain ⟨c4,f4,hp3⟩:=aFn hq2d.out hc2d.out hb2d.out hBw' hr2d.out ho3 hg3;have HP3:=aA hp3;obtain ⟨va3,vc3,rfl⟩:=aS ho3;clear ho3 hg3 hp3);all_goals
    refine qT ?_;go_wp2_with fail;go_meet;case rel=>exact ⟨_,HP3.out⟩
  case rest=>
   obtain ⟨v5,hQ5,hC5,hB5⟩:=hcut;have C46:=aA (lE 46 (by decide) (by decide) (by decide) HT.out hs hQ5.pp);rw [show dO 46=46 from rfl] at C46;have HQ5:=aA hQ5;have HC5:=aA hC5;have HB5:=aA hB5;clear hQ5 hC5 hB5 HQ2 HC2 HB2 HX2 p4 p4A t0 t1;obtain ⟨b46,hb46⟩ : ∃b,decide ((aE T (⟨st.i+1,[],st.places⟩ : bB).i).kind=46)=b:=⟨_,rfl⟩;rw [hb46] at C46;go_wp2_with (first
    | (go_at_call 81;refine (aB C46).mono ?_;rintro e w6 ⟨rfl,hg6,hp6⟩;have HG6:=aA hg6;have HP6:=aA hp6;clear hg6 hp6)
    | go_in)
   go_ret;exact aFr hBw' HPG.out hb46 HQ5.out HC5.out HB5.out HG6.out HP6.out rfl
 ·rw [if_neg h102,decide_eq_false h102] at C36;have HPB:Hid (nS T st=iK T (T.length+1) ⟨st.i,[],st.places⟩ []):=aA (by rw [nS,if_neg h102]);have CL:=aA (λw1 (hq1:bQ B w1 pb s T ⟨st.i,[],st.places⟩ g (.slice va CV.length vac) vP mg) (hB1:B<=w1.heap.size)=>aNn HT.out HX.out hs hTl hq1 hB1 hp1 (Nat.zero_le _));have HZ0:=aA (λw1 (hg1:W.grownBy w1 (some pb)) (hp1:dK B w1 pb s T st.i g (.slice va CV.length vac) vP (.map (some mg)))=>aNq HQ.out HC.out HB.out hBw' HXB.out hg1 hp1);cases hq:iK T (T.length+1) ⟨st.i,[],st.places⟩ [] with
  | error p=>
   rw [hq] at CL;have HPG:Hid (nT T st=.error p):=aA (by rw [nT,HPB.out,hq]);clear hq HPB HQ HC HB HXB;go_wp2_with (first
    | (go_at_call 81;refine (aB C36).mono ?_;rintro e w1 ⟨rfl,hg1,hp1⟩;have HZ1:=aA (HZ0.out w1 hg1 hp1);clear hg1 hp1)
    | (go_at_call 82;refine (CL.out _ HZ1.out.q HZ1.out.size).mono ?_;rintro e w3 ⟨hk3,a3,n3,c3,i3,vP3,vM3,rfl,hp3,hpos⟩;obtain ⟨t1,f1,hz3⟩:=HZ1.out.err hBw' hBw hk3 hp3 (.slice a3 n3 c3);have HZ3:=aA hz3;have HPO:=aA hpos;clear hk3 hp3 hpos hz3)
    | go_in)
   go_ret;refine ⟨HZ3.out.1,?_⟩;rw [HPG.out];exact ⟨_,_,_,_,rfl,HZ3.out.2,HPO.out⟩
  | ok y=>
   obtain ⟨s2,c⟩:=y;rw [hq] at CL;have HPG0:Hid (nS T st=.ok (s2,c)):=aA (by rw [HPB.out,hq]);clear hq HPB HQ HC HB HXB;go_upto_region 8 with (first
    | (go_at_call 81;refine (aB C36).mono ?_;rintro e w1 ⟨rfl,hg1,hp1⟩;have HZ1:=aA (HZ0.out w1 hg1 hp1);clear hg1 hp1)
    | (go_at_call 82;refine (CL.out _ HZ1.out.q HZ1.out.size).mono ?_;rintro e w3 ⟨hk3,P,vcl,vP2,rfl,hq3,hr3,ha3,hPc⟩;obtain ⟨la,lac,rfl⟩:=aS hr3;obtain ⟨t1,f1,hz3,hcl3⟩:=HZ1.out.ok hBw' hBw hne hk3 hq3 hr3 ha3;have HZ3:=aA hz3;have HCL:=aA hcl3;have HPC:=aA hPc;clear hk3 hq3 hr3 ha3 hz3 hPc hcl3)
    | go_in)
   have HPG:Hid (nS T st=.ok (s2,P.map zr)):=aA (by rw [HPG0.out,HPC.out]);clear HZ0 CL C36 HZ1 HPG0 HPC t1 f1;generalize w3.setCell ⟨lb,1,none⟩ (.slice la P.length lac)=w2 at *;have HQ2:=aA HZ3.out.q;have HC2:=aA HZ3.out.cs;have HB2:=aA HZ3.out.low;have HX2:=aA HZ3.out.box;have HR2:=aA HCL.out;clear HZ3 HCL;obtain ⟨left2,hb2,hBp⟩:=HQ2.out.pp.box;have p4:=hb2.c4;have t0:w2.cell? ⟨lb,0,none⟩=some (.int .i64 tp):=by unfold zt;rw [HX2.out];rfl
   have t1:w2.cell? ⟨lb,1,none⟩=some (.slice la P.length lac):=by unfold zt;rw [HX2.out];rfl
   have p4A:∀o,(w2.alloc o).cell? ⟨pb,4,none⟩=some (.slice va CV.length vac):=λo=>Below.at' ((Below.refl w2.heap.size w2).alloc (zy _) o) (zy _) p4
   have hz2:=HB2.out.size;clear hb2;go_cut [] (λwx=>∃v5,bQ B wx pb s T s2 g v5 vP2 mg/\fN B wx v5 (CV++[((tp,P),.slice la P.length lac)])/\Below B w wx);case first=>
    refine tV ?_;have hq2d:=aA (HQ2.out.below (aI (w1:=w2.drew) ⟨1,rfl⟩));have hc2d:=aA (HC2.out.below (aI (w1:=w2.drew) ⟨1,rfl⟩));have hb2d:Hid (Below B w w2.drew):=aA ⟨HB2.out.os,HB2.out.tape,HB2.out.output,HB2.out.size,HB2.out.block⟩;have hr2d:Hid (pH w2.drew B (P,.slice la P.length lac)):=aA HR2.out;go_region_law (refine nM ?g1 (.tmp 30) (.tmp 32) 79 105 ?g2 (.agg #[.int .i64 0,.slice none 0 0]) 2 32 zf aFq ?g3 ?g4 ?g5 B _ CV.length (oF CV) ?g6 (hc2d.out.row.alloc _) ?g7 ?g8 w2.heap.size 1 [.int .i64 tp,.slice la P.length lac] ?g9 ?g10 (gK w2.drew _ _ 105 w2.heap.size rfl) (aFp _ _ _ _) ?_;(case g1=>rfl);(case g2=>rfl);(case g3=>rfl);(case g4=>decide);(case g5=>decide);(case g6=>rfl);(case g7=>omega);(case g8=>(simp;omega));(case g9=>rfl);(case g10=>rfl);intro v3 w3 ho3 hg3;obtain ⟨c4,f4,hp3⟩:=aFn hq2d.out hc2d.out hb2d.out hBw' hr2d.out ho3 hg3;have HP3:=aA hp3;obtain ⟨va3,vc3,rfl⟩:=aS ho3;clear ho3 hg3 hp3);all_goals
     refine qT ?_;go_wp2_with fail;go_meet;case rel=>exact ⟨_,HP3.out⟩
   case rest=>
    obtain ⟨v5,hQ5,hC5,hB5⟩:=hcut;have C46:=aA (lE 46 (by decide) (by decide) (by decide) HT.out hs hQ5.pp);rw [show dO 46=46 from rfl] at C46;have HQ5:=aA hQ5;have HC5:=aA hC5;have HB5:=aA hB5;clear hQ5 hC5 hB5 HQ2 HC2 HB2 HX2 p4 p4A t0 t1;obtain ⟨b46,hb46⟩ : ∃b,decide ((aE T (s2:bB).i).kind=46)=b:=⟨_,rfl⟩;rw [hb46] at C46;go_wp2_with (first
     | (go_at_call 81;refine (aB C46).mono ?_;rintro e w6 ⟨rfl,hg6,hp6⟩;have HG6:=aA hg6;have HP6:=aA hp6;clear hg6 hp6)
     | go_in)
    go_ret;exact aFr hBw' HPG.out hb46 HQ5.out HC5.out HB5.out HG6.out HP6.out rfl
end
end
end Go.Proofs.YtcldkjcpofjmhaaGreatDoor
