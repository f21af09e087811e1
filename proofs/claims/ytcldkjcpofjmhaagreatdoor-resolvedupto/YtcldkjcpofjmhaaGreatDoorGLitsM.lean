import Derived.Test.YtcldkjcpofjmhaaGreatDoorGTakeM
import Derived.Test.YtcldkjcpofjmhaaGreatDoorBOwnM
open Array renaming getElem?_eq_some_iff→zw
open List renaming mem_append→zy,mem_flatMap→zs,length_append→zp,map_singleton→zo,mem_filterMap→zm,map_append→zj,mem_cons→zh
open Nat renaming le_refl→zz,le_trans→zk,lt_of_lt_of_le→zg,zero_le→zd
open Or renaming inr→zx,inl→zt
open Prod renaming fst→zq
namespace Go.Proofs.YtcldkjcpofjmhaaGreatDoor
open _root_.Go.Proofs.Tryz renaming prog→zv,underlying22→zf,underlying79→ze
open Value renaming ownBlock→zn
open World renaming ownsRow_nil→zu,cell?→zr,setCell_alloc_past→zl,setCell→zi
set_option maxHeartbeats 4000000
set_option maxRecDepth 100000
section
open Go.RowKit Go.WideMaps
def aMi(B pb:Nat)(w:World)(s:ByteArray)(T:List Tk)(g:Nat)(vC:Value)(mg:Nat)(r:Except Nat (bB×List Lt))(e:Ending)(w':World):Prop:=
 bN B w.heap.size mg w w'/\
  match r with
  | .ok (s1,c)=>∃P vc vP,e=.returned (.tuple #[vc,.bool true])/\bP B w' pb s T s1 g vC vP mg/\w'.ownsRow w.heap.size 39 2 vc P.length (bA P)/\(∀q∈P,w'.ownsRow w.heap.size 36 2 q.2 q.1.2.length (aH q.1.2))/\P.map zq=c
  | .error p=>∃a n c i vP vM,e=.returned (.tuple #[.slice a n c,.bool false])/\dG B w' pb s T i g vC vP vM/\(aE T i).pos=p
structure LLq(B pb:Nat)(w:World)(s:ByteArray)(T:List Tk)(g:Nat)(vC:Value)(mg:Nat)(r:Except Nat (bB×List Lt))(k:Nat)(vc:Value)(wr:World)(st:bB)(P:List (Lt×Value))(vP:Value):Prop where
 q:bP B wr pb s T st g vC vP mg
 kept:bN B w.heap.size mg w wr
 row:wr.ownsRow w.heap.size 39 2 vc P.length (bA P)
 atoms:∀q∈P,wr.ownsRow w.heap.size 36 2 q.2 q.1.2.length (aH q.1.2)
 eq:r=iH T k st (P.map zq)
 fuel:T.length<st.i+k
 pl:st.places.length<=st.i
 vs:st.vars.length<=st.i
 few:P.length<=st.i
section
variable {B pb:Nat}{w w1 w2 w3:World}{s:ByteArray}{T:List Tk}{g:Nat}{vC vP vc:Value}{mg:Nat}{st:bB}{P:List (Lt×Value)}
theorem vW{st1:bB}(hq:bP B w1 pb s T st1 g vC vP mg)(hk:bN B w.heap.size mg w w1)(hr:w1.ownsRow w.heap.size 39 2 vc P.length (bA P))(ha:∀q∈P,w1.ownsRow w.heap.size 36 2 q.2 q.1.2.length (aH q.1.2)){i':Nat}(hg:w1.grownBy w2 (some pb))(hp:dG B w2 pb s T i' g vC vP (.map (some mg))) :
  bP B w2 pb s T ⟨i',st1.vars,st1.places⟩ g vC vP mg/\bN B w.heap.size mg w w2/\w2.ownsRow w.heap.size 39 2 vc P.length (bA P)/\(∀q∈P,w2.ownsRow w.heap.size 36 2 q.2 q.1.2.length (aH q.1.2)):=by
 obtain ⟨left,hb,hBp⟩:=hq.pp.box;exact ⟨hq.take hg hp,hk.grownBox hb hBp hg,hr.kept hg (hb.apart hr (by decide)),λq hq'=>(ha q hq').kept hg (hb.apart (ha q hq') (by decide))⟩
theorem aEw{st1:bB}{vl:Value}{l:List Nd}(hq:bP B w1 pb s T st1 g vC vP mg)(hk:bN B w.heap.size mg w w1)(hr:w1.ownsRow w.heap.size 39 2 vc P.length (bA P))(ha:∀q∈P,w1.ownsRow w.heap.size 36 2 q.2 q.1.2.length (aH q.1.2))(hk2:bN B w1.heap.size mg w1 w2)(hl:w2.ownsRow w1.heap.size 36 2 vl l.length (aH l)) :
  bN B w.heap.size mg w w2/\w2.ownsRow w.heap.size 39 2 vc P.length (bA P)/\(∀q∈P,w2.ownsRow w.heap.size 36 2 q.2 q.1.2.length (aH q.1.2))/\w2.ownsRow w.heap.size 36 2 vl l.length (aH l):=by
 obtain ⟨D,hm,_⟩:=hq.map;exact ⟨hk.trans (hk2.mono hk.size),hk2.own hr (by decide) (by intro e;exact absurd e (by decide)) (rO hr hm),λq hq'=>hk2.own (ha q hq') (by decide) (λ_=>zz _) (rO (ha q hq') hm),dI hl hk.size⟩
theorem aEx{st2:bB}{vl v3:Value}{x:Lt}{X:Obj}(hq:bP B w2 pb s T st2 g vC vP mg)(hk:bN B w.heap.size mg w w2)(hr:w2.ownsRow w.heap.size 39 2 vc P.length (bA P))(ha:∀q∈P,w2.ownsRow w.heap.size 36 2 q.2 q.1.2.length (aH q.1.2))(hl:w2.ownsRow w.heap.size 36 2 vl x.2.length (aH x.2))
  (ho:w3.ownsRow w.heap.size 39 2 v3 (P.length+1) (bA P++[.bool x.1,vl])) (hg:(w2.alloc X).grownBy w3 vc.ownBlock) :
  bP B w3 pb s T st2 g vC vP mg/\bN B w.heap.size mg w w3/\w3.ownsRow w.heap.size 39 2 v3 (P++[(x,vl)]).length (bA (P++[(x,vl)]))/\(∀q∈P++[(x,vl)],w3.ownsRow w.heap.size 36 2 q.2 q.1.2.length (aH q.1.2)):=by
 have hA:=(Below.refl w2.heap.size w2).alloc (zz _) X;have hrA:=aU hr hA (zz _);have haA:=λq hq'=>aU (ha q hq') hA (zz _)
 have hlA:=aU hl hA (zz _);refine ⟨(hq.below hA).far hrA (by decide) hg,?_,by rw [aC2,zp];exact ho,λq hq'=>?_⟩
 ·have hkA:=hk.trans (bN.of_below (B:=B) (B':=w.heap.size) (mg:=mg) hA);exact ⟨hg.os.trans hkA.os,hg.tape.trans hkA.tape,hg.output.trans hkA.output,zk hkA.size hg.size,λk hk' hc=>by
   rw [hg.block k (zg hk' hkA.size) (λe=>by have:=(aT hrA k e.symm).1;omega),hkA.block k hk' hc]⟩
 ·rcases zy.1 hq' with hq' | hq'
  ·exact (haA q hq').kept hg (bV (haA q hq') hrA (by decide))
  ·simp at hq';subst hq';exact hlA.kept hg (bV hlA hrA (by decide))
theorem aMj(hT:∀i,(aE T i).kind∈gO)(hx:∀i,(aE T i).txt.size<=1000000)(hs:s.size<=3000)(hTl:T.length<=1000000)(h:bP B w pb s T st g vC vP mg)(hBw:B<=w.heap.size)(hp1:st.places.length<=st.i)(hv1:st.vars.length<=st.i) :
  Calls zv 82 #[.pointer (some ⟨pb,0,none⟩)] w λe w'=>aMi B pb w s T g vC mg (iH T (T.length+1) st []) e w':=by
 obtain ⟨iL,hI,hI0,hI1,hI2⟩:=info_parts rX;have H0:Hid (LLq B pb w s T g vC mg (iH T (T.length+1) st []) (T.length+1) (.slice none 0 0) w st [] vP):=aA ⟨h,bN.refl _ _ _ _,zu _ _ _ _,λq hq=>by simp at hq,rfl,by omega,hp1,hv1,by simp⟩;obtain ⟨R,hR⟩ : ∃R,iH T (T.length+1) st []=R:=⟨_,rfl⟩;rw [hR] at H0;simp only [hR];have HT:=aA hT;have HX:=aA hx;clear h hR hT hx hp1 hv1;go_enter Tryz.func82,Tryz.ntmps82;go_wp2;go_loopg [4] (T.length+1) (λk vc wr=>∃st' P vP',LLq B pb w s T g vC mg R k vc wr st' P vP');case atStart=>exact ⟨st,[],vP,H0.out⟩
 case round=>
  clear H0;obtain ⟨st',P,vP',hL⟩:=hrel;have hlt':=hL.q.pp.lt;have hfu:=hL.fuel;have hpl:=hL.pl;have hvs:=hL.vs;have hfew:=hL.few;obtain ⟨k',rfl⟩ : ∃k',gk=k'+1:=⟨gk-1,by omega⟩;obtain ⟨va,vcc,rfl⟩:=aS hL.row;obtain ⟨q1,q2,q3,q4⟩:=aCa T st';have C126:=aA (kY 126 (by decide) (by decide) (by decide) HT.out hs hL.q.pp);rw [show dK 126=126 from rfl] at C126;have CA:=aA (λw1 (hk1:w.heap.size<=w1.heap.size) (hq1:bP B w1 pb s T (jM T st') g vC vP' mg)=>aNq HT.out HX.out hs hTl hq1 (zk hBw hk1) (by rw [q4];omega) (by rw [q3];omega));have HL:=aA hL;obtain ⟨nb,hnb⟩ : ∃nb,decide ((aE T st'.i).kind=126)=nb:=⟨_,rfl⟩;rw [hnb] at C126;have HNB:=aA hnb;clear hL hnb;cases hq:cU T (T.length+1) true (jM T st') [] with
  | error p=>
   rw [hq] at CA;have HR:Hid (R=.error p):=aA (by rw [HL.out.eq,aC7 hq]);clear hq;go_wp2_with (first
    | (go_at_call 108;refine (CA.out _ HZ1.out.2.1.size HZ1.out.1).mono ?_;rintro e w2 ⟨hk2,a2,n2,c2,i2,vP2,vM2,rfl,hp2,hpos⟩;have HK2:=aA (HZ1.out.2.1.trans (hk2.mono HZ1.out.2.1.size));have HP2:=aA hp2;have HPO:=aA hpos;clear hk2 hp2 hpos)
    | (go_at_call 81;refine (aB C126).mono ?_;rintro e w1 ⟨rfl,hg1,hp1⟩;have HZ1:=aA (vW HL.out.q HL.out.kept HL.out.row HL.out.atoms hg1 hp1);clear hg1 hp1)
    | go_in)
   go_ret2;refine ⟨HK2.out,?_⟩;rw [HR.out];exact ⟨_,_,_,_,_,_,rfl,HP2.out,HPO.out⟩
  | ok y=>
   obtain ⟨s2,x⟩:=y;have hon:=(uX T (T.length+1)).1 _ _ _ _ _ hq;simp only [List.length_nil] at hon;rw [q3,q4] at hon;rw [hq] at CA;have HQ:=aA hq;clear hq;have C124:=aA (λw3 vP3 (hp:dG B w3 pb s T s2.i g vC vP3 (.map (some mg)))=>kY 124 (by decide) (by decide) (by decide) HT.out hs hp);rw [show dK 124=124 from rfl] at C124;by_cases h124:(aE T s2.i).kind=124
   ·rw [if_pos h124,decide_eq_true h124] at C124;have HR:Hid (∀vl,R=iH T k' ⟨s2.i+1,s2.vars,s2.places⟩ ((P++[((nb,x),vl)]).map zq)):=aA (λvl=>by rw [HL.out.eq,aC8 HQ.out h124,HNB.out,zj,zo]);go_wp2_with (first
     | (go_at_call 81;refine (C124.out _ _ HZ3.out.1.pp).mono ?_;rintro e w4 ⟨rfl,hg4,hp4⟩;have HZ4:=aA (vW HZ3.out.1 HZ3.out.2.1 HZ3.out.2.2.1 HZ3.out.2.2.2 hg4 hp4);clear hg4 hp4)
     | (at_builtin;refine wpList_append_own _ rfl (.tmp 17) (.tmp 21) 22 rfl w.heap.size 39 iL (.agg #[.bool false,.slice none 0 0]) 2 32 zf hI hI0 hI1 hI2 rfl (by decide) _ _ _ rfl (HZ2.out.2.1.alloc _) ⟨_,0,none⟩ 1 1 [.bool nb,.slice la x.length lac] rfl rfl (gF w2 _ _ _ _ rfl) (rY _ _ _ _) (by unfold maxLen;omega) (by omega) (by simp;omega) ?_;intro v3 w3 ho3 hg3 _;have HZ3:=aA (aEx (x:=(nb,x)) HQ2.out HZ2.out.1 HZ2.out.2.1 HZ2.out.2.2.1 HZ2.out.2.2.2 ho3 hg3);obtain ⟨va3,vc3,rfl⟩:=aS ho3;clear ho3 hg3)
     | (go_at_call 108;refine (CA.out _ HZ1.out.2.1.size HZ1.out.1).mono ?_;rintro e w2 ⟨hk2,vl,vP2,rfl,hq2,hl2⟩;obtain ⟨la,lac,rfl⟩:=aS hl2;have HZ2:=aA (aEw HZ1.out.1 HZ1.out.2.1 HZ1.out.2.2.1 HZ1.out.2.2.2 hk2 hl2);have HQ2:=aA hq2;have hz2:=HZ2.out.1.size;clear hk2 hq2 hl2)
     | (go_at_call 81;refine (aB C126).mono ?_;rintro e w1 ⟨rfl,hg1,hp1⟩;have HZ1:=aA (vW HL.out.q HL.out.kept HL.out.row HL.out.atoms hg1 hp1);clear hg1 hp1)
     | go_in)
    go_roundg k';case measure=>omega
    case rel=>exact ⟨⟨s2.i+1,s2.vars,s2.places⟩,P++[((nb,x),_)],_,HZ4.out.1,HZ4.out.2.1,HZ4.out.2.2.1,HZ4.out.2.2.2,HR.out _,by simp;omega,by simp;omega,by simp;omega,by simp;omega⟩
   ·rw [if_neg h124,decide_eq_false h124] at C124;have HR:Hid (∀vl,R=.ok (s2,(P++[((nb,x),vl)]).map zq)):=aA (λvl=>by rw [HL.out.eq,aC9 HQ.out h124,HNB.out,zj,zo]);go_wp2_with (first
     | (go_at_call 81;refine (C124.out _ _ HZ3.out.1.pp).mono ?_;rintro e w4 ⟨rfl,hg4,hp4⟩;have HZ4:=aA (vW HZ3.out.1 HZ3.out.2.1 HZ3.out.2.2.1 HZ3.out.2.2.2 hg4 hp4);clear hg4 hp4)
     | (at_builtin;refine wpList_append_own _ rfl (.tmp 17) (.tmp 21) 22 rfl w.heap.size 39 iL (.agg #[.bool false,.slice none 0 0]) 2 32 zf hI hI0 hI1 hI2 rfl (by decide) _ _ _ rfl (HZ2.out.2.1.alloc _) ⟨_,0,none⟩ 1 1 [.bool nb,.slice la x.length lac] rfl rfl (gF w2 _ _ _ _ rfl) (rY _ _ _ _) (by unfold maxLen;omega) (by omega) (by simp;omega) ?_;intro v3 w3 ho3 hg3 _;have HZ3:=aA (aEx (x:=(nb,x)) HQ2.out HZ2.out.1 HZ2.out.2.1 HZ2.out.2.2.1 HZ2.out.2.2.2 ho3 hg3);obtain ⟨va3,vc3,rfl⟩:=aS ho3;clear ho3 hg3)
     | (go_at_call 108;refine (CA.out _ HZ1.out.2.1.size HZ1.out.1).mono ?_;rintro e w2 ⟨hk2,vl,vP2,rfl,hq2,hl2⟩;obtain ⟨la,lac,rfl⟩:=aS hl2;have HZ2:=aA (aEw HZ1.out.1 HZ1.out.2.1 HZ1.out.2.2.1 HZ1.out.2.2.2 hk2 hl2);have HQ2:=aA hq2;have hz2:=HZ2.out.1.size;clear hk2 hq2 hl2)
     | (go_at_call 81;refine (aB C126).mono ?_;rintro e w1 ⟨rfl,hg1,hp1⟩;have HZ1:=aA (vW HL.out.q HL.out.kept HL.out.row HL.out.atoms hg1 hp1);clear hg1 hp1)
     | go_in)
    go_ret2;refine ⟨HZ4.out.2.1,?_⟩;rw [HR.out];exact ⟨_,_,_,rfl,HZ4.out.1,HZ4.out.2.2.1,HZ4.out.2.2.2,rfl⟩
end
abbrev Pc:=(Nat×List (Lt×Value))×Value
def nY(CV:List Pc):List Value:=CV.flatMap λp=>[.int .i64 p.1.1,p.2]
theorem aMk(CV:List Pc)(p:Pc):nY (CV++[p])=nY CV++[.int .i64 p.1.1,p.2]:=by simp [nY]
structure fE(B:Nat)(w:World)(vC:Value)(CV:List Pc):Prop where
 row:w.ownsRow B 105 2 vC CV.length (nY CV)
 each:∀p∈CV,pC w B (p.1.2,p.2)
def iS(p:Pc):Nat×List Lt:=(p.1.1,p.1.2.map zq)
structure rL(B:Nat)(w:World)(pb:Nat)(s:ByteArray)(T:List Tk)(st:bB)(g:Nat)(vC vP:Value)(CV:List Pc):Prop where
 pp:∃vM,dG B w pb s T st.i g vC vP vM
 places:w.ownsRow B 3 1 vP st.places.length (lW st.places)
 cs:fE B w vC CV
theorem fE.keep{B:Nat}{w w':World}{vC:Value}{CV:List Pc}(h:fE B w vC CV)(k:∀e size v n xs,(e=105\/e=39\/e=36)->(e=105->v=vC)->w.ownsRow B e size v n xs->w'.ownsRow B e size v n xs):fE B w' vC CV:=
 ⟨k _ _ _ _ _ (zt rfl) (λ_=>rfl) h.row,λp hp=>⟨k _ _ _ _ _ (zx (zt rfl)) (λe=>absurd e (by decide)) (h.each p hp).1,λq hq=>k _ _ _ _ _ (zx (zx rfl)) (λe=>absurd e (by decide)) ((h.each p hp).2 q hq)⟩⟩
theorem fE.below{B:Nat}{w w':World}{vC:Value}{CV:List Pc}(h:fE B w vC CV)(k:Below w.heap.size w w'):fE B w' vC CV:=
 h.keep λ_ _ _ _ _ _ _ ho=>aU ho k (zz _)
theorem aB1{e:TypeId}(h:e=105\/e=39\/e=36):e≠82/\e≠3:=by rcases h with rfl | rfl | rfl <;> decide
theorem fE.take{B:Nat}{w w':World}{vC:Value}{CV:List Pc}{pb:Nat}{left:Value}{k a:Int}{wd:ByteArray}{vC' vP vM:Value}(h:fE B w vC CV)(hb:bL w pb left k a wd vC' vP vM)(hg:w.grownBy w' (some pb)):fE B w' vC CV:=
 h.keep λ_ _ _ _ _ he _ ho=>ho.kept hg (hb.apart ho (aB1 he).1)
theorem fE.kept{B mg n:Nat}{w w':World}{vC:Value}{CV:List Pc}{D:DataW Unit}(h:fE B w vC CV)(hm:w.ownsMap zv 9 lX mg n D)(hk:bN B w.heap.size mg w w'):fE B w' vC CV:=
 h.keep λ_ _ _ _ _ he _ ho=>hk.own ho ⟨(aB1 he).2,(aB1 he).1⟩ (λ_=>zz _) (rO ho hm)
theorem lL{B:Nat}{w:World}{e t:TypeId}{size:Nat}{v:Value}{n:Nat}{xs:List Value}{lb:Nat}{cs:Array Value}{fr:Nat×Nat}(ho:w.ownsRow B e size v n xs)(ht:w.heap[lb]?=some (.cells cs t fr))(he:e≠t):v.ownBlock≠some lb:=by
 intro e';obtain ⟨_,⟨rfl,_⟩ | ⟨g',cap,cur,rfl,_,hh,_⟩⟩:=ho
 ·simp [zn] at e'
 ·simp [zn] at e';subst e';rw [hh] at ht;simp at ht;exact he ht.2.1
theorem bP.other{B:Nat}{w w':World}{pb:Nat}{s:ByteArray}{T:List Tk}{st:bB}{g mg:Nat}{vC vP:Value}{lb:Nat}{cs:Array Value}{fr:Nat×Nat}(h:bP B w pb s T st g vC vP mg)(ht:w.heap[lb]?=some (.cells cs 105 fr))(hg:w.grownBy w' (some lb)):bP B w' pb s T st g vC vP mg:=by
 obtain ⟨D,h1,h2⟩:=h.map;obtain ⟨left,hb,_⟩:=h.pp.box;obtain ⟨cs',fr',hgl⟩:=h.pp.glyph;refine ⟨h.pp.far hg ?_ ?_,h.places.kept hg (zx (lL h.places ht (by decide))),⟨D,h1.kept hg ?_,h2⟩,h.mhigh⟩
 ·intro e;simp at e;subst e;unfold bL at hb;rw [ht] at hb;simp at hb
 ·intro e;simp at e;subst e;rw [ht] at hgl;simp at hgl
 ·intro e;simp at e;subst e;obtain ⟨es,cl,hh,_⟩:=h1;rw [ht] at hh;cases hh
theorem fE.other{B:Nat}{w w':World}{vC:Value}{CV:List Pc}{lb:Nat}{cs:Array Value}{fr:Nat×Nat}(h:fE B w vC CV)(ht:w.heap[lb]?=some (.cells cs 105 fr))(hne:vC.ownBlock≠some lb)(hg:w.grownBy w' (some lb)):fE B w' vC CV:=
 h.keep λe _ _ _ _ he hv ho=>ho.kept hg (zx (by
  by_cases h5:e=105
  ·rw [hv h5];exact hne
  ·exact lL ho ht h5))
theorem bP.setC{B:Nat}{w:World}{pb:Nat}{s:ByteArray}{T:List Tk}{st:bB}{g mg:Nat}{vC vP:Value}(h:bP B w pb s T st g vC vP mg)(v:Value):bP B (w.setCell ⟨pb,4,none⟩ v) pb s T st g v vP mg:=by obtain ⟨D,h1,h2⟩:=h.map;obtain ⟨q,j,m,c,hP⟩:=h.pp;have hb:=hP.sc.box;exact ⟨⟨q,j,m,c,⟨heap_setCell_same w pb 4 _ _ _ hb,hP.sc.high,hb.row hP.sc.row (by decide) _ _,hP.sc.len,hP.sc.drop,hP.sc.le⟩,hP.lt,hP.on⟩,hb.row h.places (by decide) _ _,⟨D,h1.setCell (λe=>yJ hb h1 e.symm) _,h2⟩,h.mhigh⟩
theorem aMl{B:Nat}{w:World}{pb:Nat}{s:ByteArray}{T:List Tk}{st:bB}{g:Nat}{vC vP:Value}{CV:List Pc}(h:rL B w pb s T st g vC vP CV)(hBw:B<=w.heap.size)(cs:Array Value){W:World}(hW:W=((w.alloc (.cells cs 105)).alloc (.map #[] 0)).setCell ⟨pb,6,none⟩ (.map (some (w.heap.size+1)))) :
  bP B W pb s T ⟨st.i,[],st.places⟩ g vC vP (w.heap.size+1)/\fE B W vC CV/\Below B w W/\W.heap[w.heap.size]?=some (.cells cs 105):=by
 subst hW;have hA:=((Below.refl w.heap.size w).alloc (zz _) (.cells cs 105)).alloc (by simp) (.map #[] 0);obtain ⟨vM,hp⟩:=h.pp;obtain ⟨left0,hb0,hBp⟩:=hp.box;have hlt:=hb0.lt;have hp1:=hp.below hA;obtain ⟨q,j,m,c,hP⟩:=hp1;have hb:=hP.sc.box;have hpl:=aU h.places hA (zz _);have hcs:=h.cs.below hA;have hm:((w.alloc (.cells cs 105)).alloc (.map #[] 0)).ownsMap zv 9 lX (w.heap.size+1) 0 (.map []):=by have:=World.ownsMap_made (P:=zv) (w.alloc (.cells cs 105)) 9 lX;simpa using this
 refine ⟨⟨⟨q,j,m,c,⟨heap_setCell_same _ pb 6 _ _ _ hb,hP.sc.high,hb.row hP.sc.row (by decide) _ _,hP.sc.len,hP.sc.drop,hP.sc.le⟩,hP.lt,hP.on⟩,hb.row hpl (by decide) _ _,⟨.map [],hm.setCell (λe=>by simp at e;omega) _,oG.start⟩,by omega⟩,hcs.take hb (bQ _ _ _),?_,?_⟩
 ·refine ⟨hA.os,hA.tape,hA.output,by simp [zi];omega,λk hk=>?_⟩;rw [Below.heap_setCell _ _ _ _ (show k≠pb by omega)];exact hA.block k (by omega)
 ·rw [Below.heap_setCell _ _ _ _ (show w.heap.size≠pb by omega)];show ((w.heap.push _).push _)[w.heap.size]?=_;rw [Array.getElem?_push_lt (by simp)];simp
theorem aEy{B:Nat}{w w2 w3:World}{pb:Nat}{s:ByteArray}{T:List Tk}{st:bB}{g mg:Nat}{vC vP v3 vl:Value}{CV:List Pc}{X:Obj}{a:Nat}{P:List (Lt×Value)}(hq:bP B w2 pb s T st g vC vP mg)(hc:fE B w2 vC CV)(hb:Below B w w2)(hBw:B<=w.heap.size)(hr:pC w2 B (P,vl))(ho:w3.ownsRow B 105 2 v3 (CV.length+1) (nY CV++[.int .i64 a,vl]))(hg:(w2.alloc X).grownBy w3 vC.ownBlock) :
  w3.cell? ⟨pb,4,none⟩=some vC/\w3.frozen? ⟨pb,4,none⟩=false/\bP B (w3.setCell ⟨pb,4,none⟩ v3) pb s T st g v3 vP mg/\fE B (w3.setCell ⟨pb,4,none⟩ v3) v3 (CV++[((a,P),vl)])/\Below B w (w3.setCell ⟨pb,4,none⟩ v3):=by
 have hA:=(Below.refl w2.heap.size w2).alloc (zz _) X;have hcA:=hc.below hA;have hqA:=hq.below hA;have hq3:=hqA.far hcA.row (by decide) hg;obtain ⟨left,hb3,hBp⟩:=hq3.pp.box;have hz:=hb.size;have e3:∀p∈CV++[((a,P),vl)],pC w3 B (p.1.2,p.2):=by
  intro p hp;have key:pC (w2.alloc X) B (p.1.2,p.2):=by
   rcases zy.1 hp with hp | hp
   ·exact hcA.each p hp
   ·simp at hp;subst hp;exact ⟨aU hr.1 hA (zz _),λq hq=>aU (hr.2 q hq) hA (zz _)⟩
  exact ⟨key.1.kept hg (bV key.1 hcA.row (by decide)),λq hq=>(key.2 q hq).kept hg (bV (key.2 q hq) hcA.row (by decide))⟩
 refine ⟨hb3.c4,hb3.soft 4,hq3.setC v3,⟨?_,λp hp=>⟨hb3.row (e3 p hp).1 (by decide) _ _,λq hq=>hb3.row ((e3 p hp).2 q hq) (by decide) _ _⟩⟩,?_⟩
 ·refine hb3.row ?_ (by decide) _ _;rw [aMk,zp];exact ho
 ·have s3:=hg.size;simp at s3;refine ⟨hg.os.trans (hA.os.trans hb.os),hg.tape.trans (hA.tape.trans hb.tape),hg.output.trans (hA.output.trans hb.output),by simp [zi];omega,λk hk=>?_⟩;rw [Below.heap_setCell _ _ _ _ (show k≠pb by omega),hg.block k (by simp;omega) (λe=>by have:=(aT hcA.row k e.symm).1;omega),hA.block k (by omega),hb.block k hk]
end
section
open Go.RowKit Go.Shelf
section
variable {w w':World}{B bk:Nat}{nv mv xv yv:Value}{E:List (Value×Int)}{F:List bY}{G:List cX}{next:Int}
theorem dM.heldTy(h:dM w B bk nv mv xv yv E F G next):∀k∈F.flatMap bY.held++G.flatMap cX.held,∃cs t,w.heap[k]?=some (.cells cs t)/\(t=36\/t=39\/t=22):=by
 have key:∀(e:TypeId) (el:List Value) (v:Value) (k:Nat),eS e el w v->v.ownBlock=some k->∃cs,w.heap[k]?=some (.cells cs e):=by
  intro e el v k hm hk;rcases hm with rfl | ⟨g,n,c,cur,rfl,hh,_⟩
  ·simp [zn] at hk
  ·simp [zn] at hk;subst hk;exact ⟨_,hh⟩
 intro k hk;rcases zy.1 hk with hk | hk
 ·obtain ⟨f,hf,hk⟩:=zs.1 hk;rcases zh.1 hk with rfl | hk
  ·exact ⟨_,_,(h.fs f hf).atom,zt rfl⟩
  ·obtain ⟨v,hv,hvk⟩:=zm.1 hk;obtain ⟨cs,hc⟩:=key _ _ v k ((h.fs f hf).marks v hv) hvk;exact ⟨cs,_,hc,zx (zt rfl)⟩
 ·obtain ⟨f,hf,hk⟩:=zs.1 hk;rcases zh.1 hk with rfl | hk
  ·exact ⟨_,_,(h.gs f hf).lit,zx (zt rfl)⟩
  ·rcases zh.1 hk with rfl | hk
   ·exact ⟨_,_,(h.gs f hf).atom,zt rfl⟩
   ·obtain ⟨v,hv,hvk⟩:=zm.1 hk;obtain ⟨cs,hc⟩:=key _ _ v k ((h.gs f hf).marks v hv) hvk;exact ⟨cs,_,hc,zx (zx rfl)⟩
theorem dM.nodes(h:dM w B bk nv mv xv yv E F G next){lv nv' mv':Value}{l:List Nd}{E':List (Value×Int)}(ho:fG w B lv l)(hap:∀k∈held E F G,lv.ownBlock≠some k)(r:xW w B bk (xv,yv) nv mv lv E next w' nv' mv' E') :
  dM w' B bk nv' mv' xv yv (E++E') F G (next-1)/\∀k∈held (E++E') F G,k∈held E F G\/lv.ownBlock=some k\/w.heap.size<=k:=by
 have hrow:∀{e:TypeId} {size n:Nat} {v:Value} {xs:List Value},w.ownsRow B e size v n xs->e≠31->e≠37->e≠3->e≠36->w'.ownsRow B e size v n xs:=by
  intro e size n v xs hv h1 h2 h3 h4;refine rC hv λk hk=>r.far.block k (aT hv k hk).2 ?_ ?_ ?_ ?_
  ·rintro rfl;exact cD hv h.base.box h1 hk
  ·intro e';rcases bV hv h.base.rn h2 with q | q
   ·rw [q] at hk;cases hk
   ·exact q (by rw [hk,e'])
  ·intro e';rcases bV hv h.base.rm h3 with q | q
   ·rw [q] at hk;cases hk
   ·exact q (by rw [hk,e'])
  ·intro e';rcases bV hv ho h4 with q | q
   ·rw [q] at hk;cases hk
   ·exact q (by rw [hk,e'])
 have hkeep:∀k∈F.flatMap bY.held++G.flatMap cX.held,w'.heap[k]?=w.heap[k]?:=by
  intro k hk;obtain ⟨cs,t,hc,ht⟩:=h.heldTy k hk;refine r.far.block k (zw.1 hc).1 ?_ ?_ ?_ (hap k (zy.2 (zx hk)))
  ·rintro rfl;have:=h.base.box;rw [hc] at this;simp at this;rcases ht with rfl | rfl | rfl <;> exact absurd this.2 (by decide)
  ·exact lL h.base.rn hc (by rcases ht with rfl | rfl | rfl <;> decide)
  ·exact lL h.base.rm hc (by rcases ht with rfl | rfl | rfl <;> decide)
 refine ⟨⟨r.book,hrow h.rx (by decide) (by decide) (by decide) (by decide),hrow h.ry (by decide) (by decide) (by decide) (by decide),λf hf=>(h.fs f hf).same λk hk=>hkeep k (zy.2 (zt (zs.2 ⟨f,hf,hk⟩))),λf hf=>(h.gs f hf).same λk hk=>hkeep k (zy.2 (zx (zs.2 ⟨f,hf,hk⟩))),h.fewF,h.fewG,h.xap⟩,λk hk=>?_⟩;unfold held at hk ⊢;rw [List.filterMap_append] at hk;rcases zy.1 hk with hk | hk
 ·rcases zy.1 hk with hk | hk
  ·exact zt (zy.2 (zt hk))
  ·obtain ⟨x,hx,hxk⟩:=zm.1 hk;rcases r.new x hx with q | ⟨g,q,hg⟩
   ·exact zx (zt (by rw [<-q,hxk]))
   ·rw [q] at hxk;simp at hxk;exact zx (zx (by omega))
 ·exact zt (zy.2 (zx hk))
end
structure gM(w w':World)(bk:Nat)(nv mv:Value)(L:List Value):Prop where
 os:w'.os=w.os
 tape:w'.tape=w.tape
 output:w'.output=w.output
 size:w.heap.size<=w'.heap.size
 block:∀k,k<w.heap.size->k≠bk->nv.ownBlock≠some k->mv.ownBlock≠some k->(∀v∈L,v.ownBlock≠some k)->w'.heap[k]?=w.heap[k]?
theorem gM.refl(w:World)(bk:Nat)(nv mv:Value):gM w w bk nv mv []:=⟨rfl,rfl,rfl,zz _,λ_ _ _ _ _ _=>rfl⟩
theorem gM.step{w w1 w2:World}{bk:Nat}{nv mv nv1 mv1 lv:Value}{L:List Value}(h:gM w w1 bk nv mv L)(hn:aX w nv nv1)(hm:aX w mv mv1)(k:iV w1 w2 bk nv1 mv1 lv):gM w w2 bk nv mv (L++[lv]):=
 ⟨k.os.trans h.os,k.tape.trans h.tape,k.output.trans h.output,zk h.size k.size,λj h1 h2 h3 h4 h5=>by
  rw [k.block j (zg h1 h.size) h2 ?_ ?_ (h5 lv (by simp)),h.block j h1 h2 h3 h4 (λv hv=>h5 v (by simp [hv]))]
  ·rcases hn with q | ⟨g,q,hg⟩
   ·rw [q];exact h3
   ·rw [q];intro e;simp at e;omega
  ·rcases hm with q | ⟨g,q,hg⟩
   ·rw [q];exact h4
   ·rw [q];intro e;simp at e;omega⟩
structure pT(w:World)(B bk:Nat)(nv mv xv yv:Value)(E:List (Value×Int))(F:List bY)(G:List cX)(next:Int)(L:List Value)(k:Nat)(wr:World)(nv1 mv1:Value)(E1:List (Value×Int)):Prop where
 book:dM wr B bk nv1 mv1 xv yv E1 F G (next-k)
 len:E1.length=E.length+4*k
 far:gM w wr bk nv mv (L.take k)
 mn:aX w nv nv1
 mm:aX w mv mv1
 held:∀j∈held E1 F G,j∈Go.Proofs.YtcldkjcpofjmhaaGreatDoor.held E F G\/(∃v∈L.take k,v.ownBlock=some j)\/w.heap.size<=j
theorem pT.more{w wr w2:World}{B bk:Nat}{nv mv xv yv nv1 mv1 nv2 mv2:Value}{E E1 E2:List (Value×Int)}{F:List bY}{G:List cX}{next:Int}{L:List Value}{k:Nat}{l:List Nd}(h:pT w B bk nv mv xv yv E F G next L k wr nv1 mv1 E1)(hk:k<L.length)(ho:fG wr B L[k] l)(hap:∀j∈Go.Proofs.YtcldkjcpofjmhaaGreatDoor.held E1 F G,L[k].ownBlock≠some j)(r:xW wr B bk (xv,yv) nv1 mv1 L[k] E1 (next-k) w2 nv2 mv2 E2) :
  pT w B bk nv mv xv yv E F G next L (k+1) w2 nv2 mv2 (E1++E2):=by
 obtain ⟨b1,b2⟩:=h.book.nodes ho hap r;have ht:L.take (k+1)=L.take k++[L[k]]:=List.take_succ_eq_append_getElem hk;refine ⟨by rw [show next-((k+1:Nat):Int)=next-k-1 by omega];exact b1,by rw [zp,h.len,r.len];omega,by rw [ht];exact h.far.step h.mn h.mm r.far,h.mn.trans r.mn h.far.size,h.mm.trans r.mm h.far.size,λj hj=>?_⟩;rcases b2 j hj with q | q | q
 ·rcases h.held j q with q | ⟨v,hv,hvj⟩ | q
  ·exact zt q
  ·exact zx (zt ⟨v,by rw [ht];exact zy.2 (zt hv),hvj⟩)
  ·exact zx (zx q)
 ·exact zx (zt ⟨L[k],by rw [ht];exact zy.2 (zx (List.mem_singleton.2 rfl)),q⟩)
 ·exact zx (zx (by have:=h.far.size;omega))
end
section
open Go.RowKit Go.WideMaps
def aEz(B pb:Nat)(w:World)(s:ByteArray)(T:List Tk)(g:Nat)(CV:List Pc)(a:Nat)(r:Except Nat (bB×List Lt))(e:Ending)(w':World):Prop:=
 Below B w w'/\
  match r with
  | .ok (s1,c)=>∃vC vP P vl,e=.returned (.bool true)/\rL B w' pb s T s1 g vC vP (CV++[((a,P),vl)])/\P.map zq=c
  | .error p=>∃i vC vP vM,e=.returned (.bool false)/\dG B w' pb s T i g vC vP vM/\(aE T i).pos=p
section
variable {B pb:Nat}{s:ByteArray}{T:List Tk}{g:Nat}{vC vP:Value}{st:bB}{w:World}{CV:List Pc}
theorem aF0(b:Int)(a:Option Addr)(n c:Nat):∀u∈[Value.int .i64 b,Value.slice a n c],u.oneCell'=true:=by intro u hu;simp at hu;rcases hu with rfl | rfl <;> rfl
theorem aF1:(zv.info? 105).map (λi=>(i.zero,i.size,i.bytes))=some (some (.agg #[.int .i64 0,.slice none 0 0]),2,32):=by kernel_rfl
theorem aF2{w5 w6:World}{s2:bB}{b46:Bool}{v5 vP2 vl:Value}{mg tp:Nat}{P:List (Lt×Value)}{e:Ending}(hBw:B<=w.heap.size)(hpg:nJ T st=.ok (s2,P.map zq))(hb46:decide ((aE T s2.i).kind=46)=b46)(hq:bP B w5 pb s T s2 g v5 vP2 mg)(hc:fE B w5 v5 (CV++[((tp,P),vl)]))(hb:Below B w w5)(hg:w5.grownBy w6 (some pb))(hp:dG B w6 pb s T (if (aE T s2.i).kind=46 then s2.i+1 else s2.i) g v5 vP2 (.map (some mg)))(he:e=.returned (.bool b46)) :
  aEz B pb w s T g CV tp (nK T st) e w6:=by
 obtain ⟨left,hbx,hBp⟩:=hq.pp.box;have hz:=hb.size;refine ⟨hb.grown hg (by omega) (by simpa using hBp),?_⟩;unfold nK;rw [hpg];simp only;by_cases h46:(aE T s2.i).kind=46
 ·rw [if_pos h46] at hp ⊢;rw [decide_eq_true h46] at hb46;subst hb46;exact ⟨v5,vP2,P,vl,he,⟨⟨_,hp⟩,hq.places.kept hg (hbx.apart hq.places (by decide)),hc.take hbx hg⟩,rfl⟩
 ·rw [if_neg h46] at hp ⊢;rw [decide_eq_false h46] at hb46;subst hb46;exact ⟨_,_,_,_,he,hp,rfl⟩
structure rM(B pb:Nat)(w w1:World)(s:ByteArray)(T:List Tk)(st:bB)(g:Nat)(vC vP:Value)(mg:Nat)(CV:List Pc)(lb tp:Nat)(v:Value):Prop where
 q:bP B w1 pb s T st g vC vP mg
 cs:fE B w1 vC CV
 low:Below B w w1
 box:w1.heap[lb]?=some (.cells #[.int .i64 tp,v] 105)
 size:B<=w1.heap.size
theorem aMm{W w1:World}{mg lb tp:Nat}{v:Value}{s1:bB}(hq:bP B W pb s T s1 g vC vP mg)(hc:fE B W vC CV)(hb:Below B w W)(hBw:B<=w.heap.size)(hx:W.heap[lb]?=some (.cells #[.int .i64 tp,v] 105)){i':Nat}(hg:W.grownBy w1 (some pb))(hp:dG B w1 pb s T i' g vC vP (.map (some mg))):rM B pb w w1 s T ⟨i',s1.vars,s1.places⟩ g vC vP mg CV lb tp v:=by
 obtain ⟨left,hbx,hBp⟩:=hq.pp.box;have hz:=hb.size;have hz1:=hg.size;refine ⟨hq.take hg hp,hc.take hbx hg,hb.grown hg (by omega) (by simpa using hBp),?_,by omega⟩;rw [hg.block lb (zw.1 hx).1 ?_]
 ·exact hx
 ·intro e;simp at e;subst e;unfold bL at hbx;rw [hx] at hbx;simp at hbx
theorem rM.boxKept{w1 w3:World}{mg lb tp:Nat}{v:Value}{s1:bB}(h:rM B pb w w1 s T s1 g vC vP mg CV lb tp v)(hk:bN B w1.heap.size mg w1 w3):w3.heap[lb]?=some (.cells #[.int .i64 tp,v] 105):=by
 rw [hk.block lb (zw.1 h.box).1 (zx ⟨?_,λcs t fr hx=>?_⟩)]
 ·exact h.box
 ·rintro rfl;obtain ⟨D,⟨es,cl,hh,_⟩,_⟩:=h.q.map;have:=h.box;rw [hh] at this;cases this
 ·rw [h.box] at hx;simp at hx;obtain ⟨_,rfl,_⟩:=hx;exact ⟨by decide,by decide,λe=>absurd e (by decide)⟩
theorem rM.err{w1 w3:World}{mg lb tp:Nat}{v:Value}{s1:bB}(h:rM B pb w w1 s T s1 g vC vP mg CV lb tp v)(hBw:B<=w.heap.size)(hlb:B<=lb)(hk:bN B w1.heap.size mg w1 w3){i:Nat}{vP3 vM3:Value}(hp:dG B w3 pb s T i g vC vP3 vM3)(u:Value) :
  w3.cell? ⟨lb,1,none⟩=some v/\w3.frozen? ⟨lb,1,none⟩=false/\Below B w (w3.setCell ⟨lb,1,none⟩ u)/\dG B (w3.setCell ⟨lb,1,none⟩ u) pb s T i g vC vP3 vM3:=by
 have hx:=h.boxKept hk;obtain ⟨left,hbx,hBp⟩:=hp.box;obtain ⟨cs,fr,hgl⟩:=hp.glyph;have hlow:=h.low.trans (hk.below h.size);have hz:=hlow.size;refine ⟨by unfold zr;rw [hx];rfl,by unfold World.frozen?;rw [hx];rfl,hlow.grown (bQ _ _ _) (by omega) (by simpa using hlb),hp.far (bQ _ _ _) ?_ ?_⟩
 ·intro e;simp at e;subst e;unfold bL at hbx;rw [hx] at hbx;simp at hbx
 ·intro e;simp at e;subst e;rw [hx] at hgl;simp at hgl
theorem rM.ok{w1 w3:World}{mg lb tp:Nat}{v:Value}{s1 s2:bB}(h:rM B pb w w1 s T s1 g vC vP mg CV lb tp v)(hBw:B<=w.heap.size)(hlb:B<=lb)(hne:vC.ownBlock≠some lb)(hk:bN B w1.heap.size mg w1 w3){vP3 vc:Value}{P:List (Lt×Value)}(hq:bP B w3 pb s T s2 g vC vP3 mg)(hr:w3.ownsRow w1.heap.size 39 2 vc P.length (bA P))(ha:∀q∈P,w3.ownsRow w1.heap.size 36 2 q.2 q.1.2.length (aH q.1.2)) :
  w3.cell? ⟨lb,1,none⟩=some v/\w3.frozen? ⟨lb,1,none⟩=false/\rM B pb w (w3.setCell ⟨lb,1,none⟩ vc) s T s2 g vC vP3 mg CV lb tp vc/\pC (w3.setCell ⟨lb,1,none⟩ vc) B (P,vc):=by
 have hx:=h.boxKept hk;obtain ⟨D,hm,_⟩:=h.q.map;have hlow:=h.low.trans (hk.below h.size);have hz:=hlow.size;have hg:=bQ w3 ⟨lb,1,none⟩ vc;have hs1:=h.size;refine ⟨by unfold zr;rw [hx];rfl,by unfold World.frozen?;rw [hx];rfl,⟨hq.other hx hg,(h.cs.kept hm hk).other hx hne hg,hlow.grown hg (by omega) (by simpa using hlb),heap_setCell_same w3 lb 1 _ _ _ hx,by have:=hg.size;omega⟩,(dI hr hs1).kept hg (zx (lL hr hx (by decide))),λq hq'=>(dI (ha q hq') hs1).kept hg (zx (lL (ha q hq') hx (by decide)))⟩
theorem aMn(hT:∀i,(aE T i).kind∈gO)(hx:∀i,(aE T i).txt.size<=1000000)(hs:s.size<=3000)(hTl:T.length<=1000000)(h:rL B w pb s T st g vC vP CV)(hBw:B<=w.heap.size)(hp1:st.places.length<=st.i)(hc1:CV.length<=st.i) :
  Calls zv 50 #[.pointer (some ⟨pb,0,none⟩)] w λe w'=>aEz B pb w s T g CV (aE T st.i).pos (nK T st) e w':=by
 have hmm:=@run_makeMap zv;obtain ⟨vM,hpp⟩:=h.pp;have hlt:=hpp.lt;obtain ⟨left,hb,_⟩:=hpp.box;have d2:=hb.c2;have d2A:∀o,(w.alloc o).cell? ⟨pb,2,none⟩=some (.int .i64 (aE T st.i).pos):=λo=>Below.at' ((Below.refl w.heap.size w).alloc (zz _) o) (zz _) d2
 have d6:=hb.c6;have f6:=hb.soft 6;have hpl:=hb.lt;obtain ⟨va,vac,rfl⟩:=aS h.cs.row;have HH:=aA h;have HT:=aA hT;have HX:=aA hx;clear h hb hpp hT hx;obtain ⟨tp,htp⟩ : ∃tp,(aE T st.i).pos=tp:=⟨_,rfl⟩;rw [htp] at d2;simp only [htp] at d2A ⊢;have HTP:=aA htp;clear htp;go_enter Tryz.func50,Tryz.ntmps50;go_upto_region 3 with (fail);have hW:((w.setCell ⟨pb,6,none⟩ (.map (some (w.heap.size+1)))).alloc (.cells #[.int .i64 tp,.slice none 0 0] 105)).alloc (.map #[] 0)=((w.alloc (.cells #[.int .i64 tp,.slice none 0 0] 105)).alloc (.map #[] 0)).setCell ⟨pb,6,none⟩ (.map (some (w.heap.size+1))):=by rw [zl _ _ _ _ (by simp;omega),zl _ _ _ _ hpl]
 have hst:=aMl HH.out hBw #[.int .i64 tp,.slice none 0 0] hW;have hwz:w.heap.size<(((w.setCell ⟨pb,6,none⟩ (.map (some (w.heap.size+1)))).alloc (.cells #[.int .i64 tp,.slice none 0 0] 105)).alloc (.map #[] 0)).heap.size:=by simp [zi];omega
 generalize ((w.setCell ⟨pb,6,none⟩ (.map (some (w.heap.size+1)))).alloc (.cells #[.int .i64 tp,.slice none 0 0] 105)).alloc (.map #[] 0)=W at *;have hne:=pW HH.out.cs.row;generalize w.heap.size+1=mg at *;have hBw':=hBw;obtain ⟨lb,hlb⟩ : ∃lb,w.heap.size=lb:=⟨_,rfl⟩;rw [hlb] at hwz hne hst hBw hpl;simp only [hlb];obtain ⟨hQ,hC,hB,hX⟩:=hst;clear hW d2 d2A d6 f6;have HQ:=aA hQ;have HC:=aA hC;have HB:=aA hB;have HXB:=aA hX;clear hQ hC hB hX;have C36:=aA (kY 102 (by decide) (by decide) (by decide) HT.out hs HQ.out.pp);rw [show dK 102=36 from rfl] at C36;by_cases h102:(aE T st.i).kind=102
 ·rw [if_pos h102,decide_eq_true h102] at C36;go_upto_region 8 with (first
   | (go_at_call 81;refine (aB C36).mono ?_;rintro e w2 ⟨rfl,hg1,hp1⟩;have HG1:=aA hg1;have HP1:=aA hp1;clear hg1 hp1)
   | go_in)
  have hq1:=HQ.out.take HG1.out HP1.out;obtain ⟨leftW,hbW,hBpW⟩:=HQ.out.pp.box;have hc1':=HC.out.take hbW HG1.out;have hb1:Below B w w2:=HB.out.grown HG1.out (by have:=HB.out.size;omega) (by simpa using hBpW);have hx1:w2.heap[lb]?=some (.cells #[.int .i64 tp,.slice none 0 0] 105):=by rw [HG1.out.block lb hwz (by simp;omega)];exact HXB.out
  have HQ2:=aA hq1;have HC2:=aA hc1';have HB2:=aA hb1;have HX2:=aA hx1;have HPG:Hid (nJ T st=.ok (⟨st.i+1,[],st.places⟩,[])):=aA (by rw [nJ,if_pos h102]);clear hq1 hbW hc1' hb1 hx1 HQ HC HB HXB HG1 HP1 C36;obtain ⟨left2,hb2,hBp⟩:=HQ2.out.pp.box;have p4:=hb2.c4;have t0:w2.cell? ⟨lb,0,none⟩=some (.int .i64 tp):=by unfold zr;rw [HX2.out];rfl
  have t1:w2.cell? ⟨lb,1,none⟩=some (.slice none 0 0):=by unfold zr;rw [HX2.out];rfl
  have p4A:∀o,(w2.alloc o).cell? ⟨pb,4,none⟩=some (.slice va CV.length vac):=λo=>Below.at' ((Below.refl w2.heap.size w2).alloc (zz _) o) (zz _) p4
  have hz2:=HB2.out.size;clear hb2;go_cut [] (λwx=>∃v5,bP B wx pb s T ⟨st.i+1,[],st.places⟩ g v5 vP mg/\fE B wx v5 (CV++[((tp,[]),.slice none 0 0)])/\Below B w wx);case first=>
   refine tE ?_;have hq2d:=aA (HQ2.out.below (aJ (w1:=w2.drew) ⟨1,rfl⟩));have hc2d:=aA (HC2.out.below (aJ (w1:=w2.drew) ⟨1,rfl⟩));have hb2d:Hid (Below B w w2.drew):=aA ⟨HB2.out.os,HB2.out.tape,HB2.out.output,HB2.out.size,HB2.out.block⟩;have hr2d:Hid (pC w2.drew B ([],.slice none 0 0)):=aA ⟨zu _ _ _ _,λq hq=>by simp at hq⟩;go_region_law (refine mZ ?g1 (.tmp 30) (.tmp 32) 79 105 ?g2 (.agg #[.int .i64 0,.slice none 0 0]) 2 32 ze aF1 ?g3 ?g4 ?g5 B _ CV.length (nY CV) ?g6 (hc2d.out.row.alloc _) ?g7 ?g8 w2.heap.size 1 [.int .i64 tp,.slice none 0 0] ?g9 ?g10 (gF w2.drew _ _ 105 w2.heap.size rfl) (aF0 _ _ _ _) ?_;(case g1=>rfl);(case g2=>rfl);(case g3=>rfl);(case g4=>decide);(case g5=>decide);(case g6=>rfl);(case g7=>omega);(case g8=>(simp;omega));(case g9=>rfl);(case g10=>rfl);intro v3 w3 ho3 hg3;obtain ⟨c4,f4,hp3⟩:=aEy hq2d.out hc2d.out hb2d.out hBw' hr2d.out ho3 hg3;have HP3:=aA hp3;obtain ⟨va3,vc3,rfl⟩:=aS ho3;clear ho3 hg3 hp3);all_goals
    refine qJ ?_;go_wp2_with fail;go_meet;case rel=>exact ⟨_,HP3.out⟩
  case rest=>
   obtain ⟨v5,hQ5,hC5,hB5⟩:=hcut;have C46:=aA (kY 46 (by decide) (by decide) (by decide) HT.out hs hQ5.pp);rw [show dK 46=46 from rfl] at C46;have HQ5:=aA hQ5;have HC5:=aA hC5;have HB5:=aA hB5;clear hQ5 hC5 hB5 HQ2 HC2 HB2 HX2 p4 p4A t0 t1;obtain ⟨b46,hb46⟩ : ∃b,decide ((aE T (⟨st.i+1,[],st.places⟩ : bB).i).kind=46)=b:=⟨_,rfl⟩;rw [hb46] at C46;go_wp2_with (first
    | (go_at_call 81;refine (aB C46).mono ?_;rintro e w6 ⟨rfl,hg6,hp6⟩;have HG6:=aA hg6;have HP6:=aA hp6;clear hg6 hp6)
    | go_in)
   go_ret;exact aF2 hBw' HPG.out hb46 HQ5.out HC5.out HB5.out HG6.out HP6.out rfl
 ·rw [if_neg h102,decide_eq_false h102] at C36;have HPB:Hid (nJ T st=iH T (T.length+1) ⟨st.i,[],st.places⟩ []):=aA (by rw [nJ,if_neg h102]);have CL:=aA (λw1 (hq1:bP B w1 pb s T ⟨st.i,[],st.places⟩ g (.slice va CV.length vac) vP mg) (hB1:B<=w1.heap.size)=>aMj HT.out HX.out hs hTl hq1 hB1 hp1 (zd _));have HZ0:=aA (λw1 (hg1:W.grownBy w1 (some pb)) (hp1:dG B w1 pb s T st.i g (.slice va CV.length vac) vP (.map (some mg)))=>aMm HQ.out HC.out HB.out hBw' HXB.out hg1 hp1);cases hq:iH T (T.length+1) ⟨st.i,[],st.places⟩ [] with
  | error p=>
   rw [hq] at CL;have HPG:Hid (nK T st=.error p):=aA (by rw [nK,HPB.out,hq]);clear hq HPB HQ HC HB HXB;go_wp2_with (first
    | (go_at_call 81;refine (aB C36).mono ?_;rintro e w1 ⟨rfl,hg1,hp1⟩;have HZ1:=aA (HZ0.out w1 hg1 hp1);clear hg1 hp1)
    | (go_at_call 82;refine (CL.out _ HZ1.out.q HZ1.out.size).mono ?_;rintro e w3 ⟨hk3,a3,n3,c3,i3,vP3,vM3,rfl,hp3,hpos⟩;obtain ⟨t1,f1,hz3⟩:=HZ1.out.err hBw' hBw hk3 hp3 (.slice a3 n3 c3);have HZ3:=aA hz3;have HPO:=aA hpos;clear hk3 hp3 hpos hz3)
    | go_in)
   go_ret;refine ⟨HZ3.out.1,?_⟩;rw [HPG.out];exact ⟨_,_,_,_,rfl,HZ3.out.2,HPO.out⟩
  | ok y=>
   obtain ⟨s2,c⟩:=y;rw [hq] at CL;have HPG0:Hid (nJ T st=.ok (s2,c)):=aA (by rw [HPB.out,hq]);clear hq HPB HQ HC HB HXB;go_upto_region 8 with (first
    | (go_at_call 81;refine (aB C36).mono ?_;rintro e w1 ⟨rfl,hg1,hp1⟩;have HZ1:=aA (HZ0.out w1 hg1 hp1);clear hg1 hp1)
    | (go_at_call 82;refine (CL.out _ HZ1.out.q HZ1.out.size).mono ?_;rintro e w3 ⟨hk3,P,vcl,vP2,rfl,hq3,hr3,ha3,hPc⟩;obtain ⟨la,lac,rfl⟩:=aS hr3;obtain ⟨t1,f1,hz3,hcl3⟩:=HZ1.out.ok hBw' hBw hne hk3 hq3 hr3 ha3;have HZ3:=aA hz3;have HCL:=aA hcl3;have HPC:=aA hPc;clear hk3 hq3 hr3 ha3 hz3 hPc hcl3)
    | go_in)
   have HPG:Hid (nJ T st=.ok (s2,P.map zq)):=aA (by rw [HPG0.out,HPC.out]);clear HZ0 CL C36 HZ1 HPG0 HPC t1 f1;generalize w3.setCell ⟨lb,1,none⟩ (.slice la P.length lac)=w2 at *;have HQ2:=aA HZ3.out.q;have HC2:=aA HZ3.out.cs;have HB2:=aA HZ3.out.low;have HX2:=aA HZ3.out.box;have HR2:=aA HCL.out;clear HZ3 HCL;obtain ⟨left2,hb2,hBp⟩:=HQ2.out.pp.box;have p4:=hb2.c4;have t0:w2.cell? ⟨lb,0,none⟩=some (.int .i64 tp):=by unfold zr;rw [HX2.out];rfl
   have t1:w2.cell? ⟨lb,1,none⟩=some (.slice la P.length lac):=by unfold zr;rw [HX2.out];rfl
   have p4A:∀o,(w2.alloc o).cell? ⟨pb,4,none⟩=some (.slice va CV.length vac):=λo=>Below.at' ((Below.refl w2.heap.size w2).alloc (zz _) o) (zz _) p4
   have hz2:=HB2.out.size;clear hb2;go_cut [] (λwx=>∃v5,bP B wx pb s T s2 g v5 vP2 mg/\fE B wx v5 (CV++[((tp,P),.slice la P.length lac)])/\Below B w wx);case first=>
    refine tE ?_;have hq2d:=aA (HQ2.out.below (aJ (w1:=w2.drew) ⟨1,rfl⟩));have hc2d:=aA (HC2.out.below (aJ (w1:=w2.drew) ⟨1,rfl⟩));have hb2d:Hid (Below B w w2.drew):=aA ⟨HB2.out.os,HB2.out.tape,HB2.out.output,HB2.out.size,HB2.out.block⟩;have hr2d:Hid (pC w2.drew B (P,.slice la P.length lac)):=aA HR2.out;go_region_law (refine mZ ?g1 (.tmp 30) (.tmp 32) 79 105 ?g2 (.agg #[.int .i64 0,.slice none 0 0]) 2 32 ze aF1 ?g3 ?g4 ?g5 B _ CV.length (nY CV) ?g6 (hc2d.out.row.alloc _) ?g7 ?g8 w2.heap.size 1 [.int .i64 tp,.slice la P.length lac] ?g9 ?g10 (gF w2.drew _ _ 105 w2.heap.size rfl) (aF0 _ _ _ _) ?_;(case g1=>rfl);(case g2=>rfl);(case g3=>rfl);(case g4=>decide);(case g5=>decide);(case g6=>rfl);(case g7=>omega);(case g8=>(simp;omega));(case g9=>rfl);(case g10=>rfl);intro v3 w3 ho3 hg3;obtain ⟨c4,f4,hp3⟩:=aEy hq2d.out hc2d.out hb2d.out hBw' hr2d.out ho3 hg3;have HP3:=aA hp3;obtain ⟨va3,vc3,rfl⟩:=aS ho3;clear ho3 hg3 hp3);all_goals
     refine qJ ?_;go_wp2_with fail;go_meet;case rel=>exact ⟨_,HP3.out⟩
   case rest=>
    obtain ⟨v5,hQ5,hC5,hB5⟩:=hcut;have C46:=aA (kY 46 (by decide) (by decide) (by decide) HT.out hs hQ5.pp);rw [show dK 46=46 from rfl] at C46;have HQ5:=aA hQ5;have HC5:=aA hC5;have HB5:=aA hB5;clear hQ5 hC5 hB5 HQ2 HC2 HB2 HX2 p4 p4A t0 t1;obtain ⟨b46,hb46⟩ : ∃b,decide ((aE T (s2:bB).i).kind=46)=b:=⟨_,rfl⟩;rw [hb46] at C46;go_wp2_with (first
     | (go_at_call 81;refine (aB C46).mono ?_;rintro e w6 ⟨rfl,hg6,hp6⟩;have HG6:=aA hg6;have HP6:=aA hp6;clear hg6 hp6)
     | go_in)
    go_ret;exact aF2 hBw' HPG.out hb46 HQ5.out HC5.out HB5.out HG6.out HP6.out rfl
end
def aMo(B pb:Nat)(w:World)(s:ByteArray)(T:List Tk)(g:Nat)(r:Except Nat (bB×List (Nat×List Lt)))(e:Ending)(w':World):Prop:=
 Below B w w'/\
  match r with
  | .ok (s1,cs)=>∃vC vP CV,e=.returned (.bool true)/\rL B w' pb s T s1 g vC vP CV/\CV.map iS=cs
  | .error p=>∃i vC vP vM,e=.returned (.bool false)/\dG B w' pb s T i g vC vP vM/\(aE T i).pos=p
structure TLq(B pb:Nat)(w:World)(s:ByteArray)(T:List Tk)(g:Nat)(r:Except Nat (bB×List (Nat×List Lt)))(k:Nat)(wr:World)(st:bB)(vC vP:Value)(CV:List Pc):Prop where
 t:rL B wr pb s T st g vC vP CV
 low:Below B w wr
 eq:r=kB T k st (CV.map iS)
 fuel:T.length<st.i+k
 pl:st.places.length<=st.i
 few:CV.length<=st.i
theorem aMp{B pb:Nat}{w:World}{s:ByteArray}{T:List Tk}{g:Nat}{vC vP:Value}{CV:List Pc}{st:bB}(hT:∀i,(aE T i).kind∈gO)(hx:∀i,(aE T i).txt.size<=1000000)(hs:s.size<=3000)(hTl:T.length<=1000000)(hC:∀st st' c,nK T st=.ok (st',c)->st.i<T.length->st.i<st'.i/\st'.places.length<=st.places.length+(st'.i-st.i))(h:rL B w pb s T st g vC vP CV)(hBw:B<=w.heap.size)(hp1:st.places.length<=st.i)(hc1:CV.length<=st.i) :
  Calls zv 31 #[.pointer (some ⟨pb,0,none⟩)] w λe w'=>aMo B pb w s T g (kB T (T.length+1) st (CV.map iS)) e w':=by
 have H0:Hid (TLq B pb w s T g (kB T (T.length+1) st (CV.map iS)) (T.length+1) w st vC vP CV):=aA ⟨h,Below.refl _ _,rfl,by omega,hp1,hc1⟩;obtain ⟨R,hR⟩ : ∃R,kB T (T.length+1) st (CV.map iS)=R:=⟨_,rfl⟩;rw [hR] at H0;simp only [hR];have HT:=aA hT;have HX:=aA hx;have HC:=aA hC;clear h hR hT hx hp1 hc1 hC;go_enter Tryz.func31,Tryz.ntmps31;go_wp2;go_loopg [] (T.length+1) (λk wr=>∃st' vC' vP' CV',TLq B pb w s T g R k wr st' vC' vP' CV');case atStart=>exact ⟨st,vC,vP,CV,H0.out⟩
 case round=>
  clear H0;obtain ⟨st',vC',vP',CV',hL⟩:=hrel;obtain ⟨vM,hpp⟩:=hL.t.pp;have hlt:=hpp.lt;obtain ⟨left,hb,hBp⟩:=hpp.box;have hfu:=hL.fuel;have hpl:=hL.pl;have hfew:=hL.few;have hz:=hL.low.size;have d1:=hb.c1;obtain ⟨k',rfl⟩ : ∃k',gk=k'+1:=⟨gk-1,by omega⟩;by_cases h101:(aE T st'.i).kind=101
  ·rw [h101,show dK 101=-1 from rfl] at d1;have HR:Hid (R=.ok (st',CV'.map iS)):=aA (by rw [hL.eq,kB,if_pos h101]);have HL:=aA hL;clear hL hb hpp;go_wp2_with fail;go_ret;refine ⟨HL.out.low,?_⟩;rw [HR.out];exact ⟨_,_,_,rfl,HL.out.t,rfl⟩
  ·have hne:(dK (aE T st'.i).kind != -1)=true:=by
    simp only [bne_iff_ne];intro e;exact h101 (aB9 _ (HT.out st'.i) 101 (by decide) (by rw [e];rfl))
   have CC:=aA (aMn HT.out HX.out hs hTl hL.t (zk hBw hz) hpl hfew);have HEQ:=aA hL.eq;have HL:=aA hL;clear hL hb hpp;obtain ⟨kk,hkk⟩ : ∃kk,dK (aE T st'.i).kind=kk:=⟨_,rfl⟩;rw [hkk] at d1 hne;clear hkk;cases hq:nK T st' with
   | error p=>
    rw [hq] at CC;have HR:Hid (R=.error p):=aA (by rw [HEQ.out,kB,if_neg h101,hq]);clear hq HEQ;go_wp2_with (first
     | (go_at_call 50;refine (aB CC).mono ?_;rintro e w1 ⟨hb1,i1,vC1,vP1,vM1,rfl,hp1,hpos⟩;have HB1:=aA hb1;have HP1:=aA hp1;have HPO:=aA hpos;clear hb1 hp1 hpos)
     | go_in)
    go_ret;refine ⟨HL.out.low.trans HB1.out,?_⟩;rw [HR.out];exact ⟨_,_,_,_,rfl,HP1.out,HPO.out⟩
   | ok y=>
    obtain ⟨s2,c⟩:=y;have hon:=HC.out _ _ _ hq hlt;rw [hq] at CC;have HR:Hid (R=kB T k' s2 (CV'.map iS++[((aE T st'.i).pos,c)])):=aA (by rw [HEQ.out,kB,if_neg h101,hq]);clear hq HEQ;go_wp2_with (first
     | (go_at_call 50;refine (aB CC).mono ?_;rintro e w1 ⟨hb1,vC1,vP1,P,vl,rfl,ht1,hPc⟩;have HB1:=aA hb1;have HT1:=aA ht1;have HPC:=aA hPc;clear hb1 ht1 hPc)
     | go_in)
    go_roundg k';case measure=>omega
    case rel=>exact ⟨s2,vC1,vP1,_,HT1.out,HL.out.low.trans HB1.out,by rw [HR.out,zj,zo,iS,HPC.out],by omega,by omega,by simp;omega⟩
theorem aMq{w:World}{B:Nat}{e:TypeId}{size g n m cap:Nat}{xs:List Value}(h:w.ownsRow B e size (.slice (some ⟨g,0,none⟩) n cap) m xs):n=m/\n<=cap:=by
 obtain ⟨_,⟨e,_⟩ | ⟨g',cap',cur,e,_,_,hc,_⟩⟩:=h
 ·cases e
 ·cases e;exact ⟨rfl,hc⟩
theorem aMr{w w1:World}{s:ByteArray}{g cap:Nat}(hs:0<(bR s 0).length)(hr:w1.ownsRow w.heap.size 128 2 (.slice (some ⟨g,0,none⟩) (bR s 0).length cap) (bR s 0).length (lM (bR s 0)))(hb:Below w.heap.size w w1) :
  ∃m c,bG w.heap.size (w1.alloc (.cells #[.slice (some ⟨g,0,none⟩) (bR s 0).length cap,.int .i32 0,.int .i64 0,.string ⟨#[]⟩,.slice none 0 0,.slice none 0 0,.map none] 82)) w1.heap.size s 0 g 0 m c 0 0 ⟨#[]⟩ (.slice none 0 0) (.slice none 0 0) (.map none):=by
 obtain ⟨_,hc⟩:=aMq hr;have e1:(bR s 0).length-1+1=(bR s 0).length:=by omega
 have e2:cap-1+1=cap:=by omega
 have hz:=hb.size;refine ⟨(bR s 0).length-1,cap-1,⟨?_,hz,?_,by omega,rfl,zd _⟩⟩
 ·rw [e1,e2];unfold bL;show (w1.heap.push _)[w1.heap.size]?=_;simp
 ·rw [Nat.zero_add,Nat.zero_add,e1,e2];exact aU hr ((Below.refl w1.heap.size w1).alloc (zz _) _) (zz _)
theorem aMs(s:ByteArray)(w:World)(hs:s.size<=3000) :
  Calls zv 30 #[.string s] w λe w'=>∃pb g,e=.returned (.pointer (some ⟨pb,0,none⟩))/\Below w.heap.size w w'/\rL w.heap.size w' pb s (dV s 0) ⟨0,[],[]⟩ g (.slice none 0 0) (.slice none 0 0) []:=by
 have CG:=aA (aN4 s w hs);have CN:=aA (λ(W:World) (pb g m c:Nat) (h:bG w.heap.size W pb s 0 g 0 m c 0 0 ⟨#[]⟩ (.slice none 0 0) (.slice none 0 0) (.map none))=>(aEq (s.size+1) h hs (by omega)).mono λe w1 hr=>aF8 (T:=dV s 0) (i:=0) (zd _) (by omega) rfl hr);have hgl:0<(bR s 0).length:=(yG s s.size 0 (by omega)).1;generalize aE (dV s 0) 0=t at CN;obtain ⟨tk,tx,tp⟩:=t;simp only at CN;go_enter Tryz.func30,Tryz.ntmps30;go_wp2_with (first
  | (go_at_call 48;refine (aB CG).mono ?_;rintro e w1 ⟨g,cap,rfl,hr1,hb1⟩;obtain ⟨m,c,hsc⟩:=aMr hgl hr1 hb1;have HB1:=aA hb1;have HSC:=aA hsc;clear hr1 hb1 hsc)
  | (go_at_call 49;refine (CN.out _ _ _ _ _ HSC.out).mono ?_;rintro e w2 ⟨rfl,hg2,⟨left,hb2⟩,hP2⟩;have e1:=hb2.c1;have e2:=hb2.c2;have e3:=hb2.c3;have ef:=hb2.soft;have HG2:=aA hg2;have HP2:=aA hP2;clear hg2 hP2 hb2)
  | go_in)
 go_ret;refine ⟨_,g,rfl,?_,⟨_,HP2.out⟩,zu _ _ _ _,zu _ _ _ _,λp hp=>by simp at hp⟩;have hz:=HB1.out.size;have hA:=HB1.out.alloc hz (.cells #[.slice (some ⟨g,0,none⟩) (bR s 0).length cap,.int .i32 0,.int .i64 0,.string ⟨#[]⟩,.slice none 0 0,.slice none 0 0,.map none] 82);exact hA.grown (qN (qN (qN HG2.out _) _) _) (by simp;omega) (by simpa using hz)
end
end Go.Proofs.YtcldkjcpofjmhaaGreatDoor
