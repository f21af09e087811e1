import Derived.Test.YtcldkjcpofjmhaaGreatDoorGEmpF
import Derived.Test.YtcldkjcpofjmhaaGreatDoorGPreF
open List renaming length_append→zw
open Nat renaming le_refl→zz,lt_of_lt_of_le→zn,le_trans→zl
open Or renaming inr→zr
namespace Go.Proofs.YtcldkjcpofjmhaaGreatDoor
open _root_.Go.Proofs.Tryz renaming prog→zx,underlying80→zu,underlying37→zt,underlying9→zs,ntmps129→zo,func144→zm,func129→zk
open Value renaming ownBlock→zy
open World renaming cell?→zq
set_option maxHeartbeats 4000000
set_option maxRecDepth 100000
open Go.RowKit Go.WideMaps
variable{s wd:ByteArray}{k x:Int}{T:List Tk}{xs:List Value}{B B' g mg n pb size:Nat}{e:TypeId}{left v vC vM vP:Value}{a w w':World}
def lW(v:Value):Option (DataW Unit×List MemPlace):=
 match v with
 | .int .i64 x=>some (.lit (.int .i64 x),[])
 | _=>none
theorem aFs{ps:List MemPlace}(h:lW v=some (.lit (.int .i64 x),ps)):v=.int .i64 x:=by
 unfold lW at h;split at h
 ·simp at h;rw [h.1]
 ·simp at h
theorem aFt{t:ByteArray}(h:s.data.toList=t.data.toList):s=t:=by obtain ⟨⟨x⟩⟩:=s;obtain ⟨⟨y⟩⟩:=t;simp at h;rw [h]
structure oG(D:DataW Unit)(sn:List ByteArray):Prop where
 tidy:Maps.Tidy D
 size:Maps.size D=sn.length
 old:∀x,0<=kE sn x->Maps.has D (.string x.data.toList)=true/\∀z,D.atKey (.string x.data.toList) z=.lit (.int .i64 (kE sn x))
 new:∀x,kE sn x<0->Maps.has D (.string x.data.toList)=false
theorem oG.start:oG (.map []) []:=⟨⟨[],rfl,by simp⟩,rfl,λx h=>by rw [aUu] at h;omega,λx _=>rfl⟩
theorem oG.put{D:DataW Unit}{sn:List ByteArray}{x:ByteArray}(h:oG D sn)(hx:kE sn x<0):oG (D.put (.string x.data.toList) (.lit (.int .i64 sn.length))) (sn++[x]):=by
 have hkey:WideAt.IsKeyLit (.string x.data.toList):=trivial;refine ⟨h.tidy.put hkey _,?_,λy hy=>?_,λy hy=>?_⟩
 ·rw [Maps.size_put h.tidy,h.new x hx,h.size];simp
 ·rw [aIz] at hy ⊢;by_cases he:x=y
  ·subst he;rw [if_pos rfl];exact ⟨Maps.has_put_same h.tidy.isMap hkey _,λz=>Maps.atKey_put_same h.tidy.isMap hkey _ _⟩
  ·rw [if_neg he] at hy ⊢;have hne:(Lit.string y.data.toList)≠.string x.data.toList:=λe=>he (aFt (by simpa using e.symm))
   have ho:=h.old y hy;exact ⟨by rw [Maps.has_put_other hne];exact ho.1,λz=>by rw [Maps.atKey_put_other hne];exact ho.2 z⟩
 ·rw [aIz] at hy;by_cases he:x=y
  ·rw [if_pos he] at hy;omega
  ·rw [if_neg he] at hy;have hne:(Lit.string y.data.toList)≠.string x.data.toList:=λe=>he (aFt (by simpa using e.symm))
   rw [Maps.has_put_other hne];exact h.new y hy
theorem aNs(g:Nat)(D:DataW Unit)(sn:List ByteArray)(x:ByteArray)(w:World)(hown:w.ownsMap zx 9 lW g sn.length D)(hN:oG D sn)(hf:sn.length<=1000000)(hx:x.size<=1000000) :
  Calls zx 144 #[.map (some g),.string x] w λe w'=>∃D':DataW Unit,e=.returned (.int .i64 (nR sn x))/\w'.ownsMap zx 9 lW g (oO sn x).length D'/\oG D' (oO sn x)/\w.grownBy w' (some g):=by
 have hkey:keyOf zx 9 (.string x)=some (.string x.data.toList):=keyOf_string_mk zs (by unfold maxLen;omega);obtain ⟨v,ps,hrun,hv⟩:=hown.look_ok (Maps.string_keyed zs) zu (Tryz.zeroValue3 _) (zd:=.lit (.int .i64 0)) (zp:=[]) rfl hkey;by_cases hp:kE sn x<0
 ·have HST:Hid (oO sn x=sn++[x]/\nR sn x=(sn.length:Int)):=aA (by unfold oO nR;rw [if_pos hp,if_pos hp];exact ⟨rfl,rfl⟩);have hhas:=hN.new x hp;rw [hhas] at hrun;rw [zH hN.tidy.isMap hhas] at hv;have hvv:=aFs hv;subst hvv;have HN:=aA (hN.put hp);have HKEY:=aA hkey;have hlen:=hN.size;clear hv hhas hN hkey hp;go_enter zm,Tryz.ntmps144;go_wp2_with (first
   | (at_len;refine wpList_len_own _ rfl _ 80 rfl 9 3 zu _ g sn.length D rfl hown ?_)
   | (at_mapUpdate;refine wpList_mapUpdate_own _ rfl _ _ _ 80 rfl 9 3 (Maps.string_keyed zs) zu lW g sn.length D rfl hown (by unfold maxLen;omega) _ _ (.string x.data.toList) rfl rfl (aB HKEY) (.lit (.int .i64 sn.length)) [] ?_ ?_)
   | go_in)
  case refine_1=>rfl
  intro w1 hown1 hg1;have HO:=aA hown1;have HG:=aA hg1;clear hown1 hg1;go_wp2;go_ret;rw [HST.out.1,HST.out.2];exact ⟨_,rfl,by rw [zw];exact HO.out,HN.out,HG.out⟩
 ·have HST:Hid (oO sn x=sn/\nR sn x=kE sn x):=aA (by unfold oO nR;rw [if_neg hp,if_neg hp];exact ⟨rfl,rfl⟩);have ho:=hN.old x (by omega);rw [ho.1] at hrun;rw [ho.2] at hv;have hvv:=aFs hv;subst hvv;have HN:=aA hN;have HOW:=aA hown;clear hv ho hN hkey hp hown;go_enter zm,Tryz.ntmps144;go_wp2;go_ret;rw [HST.out.1,HST.out.2];exact ⟨D,rfl,HOW.out,HN.out,⟨rfl,rfl,rfl,zz _,λ_ _ _=>rfl⟩⟩
structure bO(B B' mg:Nat)(w w':World):Prop where
 os:w'.os=w.os
 tape:w'.tape=w.tape
 output:w'.output=w.output
 size:w.heap.size<=w'.heap.size
 block:∀k,k<w.heap.size->(k<B\/(k≠mg/\∀cs T fr,w.heap[k]?=some (.cells cs T fr)->T≠3/\T≠82/\(T=36->k<B')))->w'.heap[k]?=w.heap[k]?
theorem bO.refl(B B' mg:Nat)(w:World):bO B B' mg w w:=⟨rfl,rfl,rfl,zz _,λ_ _ _=>rfl⟩
theorem bO.trans{B B' mg:Nat}{a b c:World}(h:bO B B' mg a b)(k:bO B B' mg b c):bO B B' mg a c:=
 ⟨k.os.trans h.os,k.tape.trans h.tape,k.output.trans h.output,zl h.size k.size,λi hi hc=>by
  have e:=h.block i hi hc;rw [k.block i (zn hi h.size) (by rw [e];exact hc),e]⟩
theorem bO.of_below(h:Below w.heap.size w w'):bO B B' mg w w':=⟨h.os,h.tape,h.output,h.size,λk hk _=>h.block k hk⟩
theorem bO.below(h:bO B B' mg w w')(hB:B<=w.heap.size):Below B w w':=⟨h.os,h.tape,h.output,h.size,λk hk=>h.block k (by omega) (Or.inl hk)⟩
theorem bO.mono{B1 B2:Nat}(h:bO B B2 mg w w')(hB:B1<=B2):bO B B1 mg w w':=
 ⟨h.os,h.tape,h.output,h.size,λk hk hc=>h.block k hk (hc.imp id λ⟨h0,hc⟩=>⟨h0,λcs T fr he=>by
  obtain ⟨h1,h2,h3⟩:=hc cs T fr he;exact ⟨h1,h2,λe=>zn (h3 e) hB⟩⟩)⟩
theorem bO.grownBox(h:bO B B' mg a w)(hb:bL w pb left k x wd vC vP vM)(hp:B<=pb)(hg:w.grownBy w' (some pb)):bO B B' mg a w':=by
 refine h.trans ⟨hg.os,hg.tape,hg.output,hg.size,λk hk hc=>hg.block k hk ?_⟩;intro e;simp at e;subst e;rcases hc with hc | ⟨_,hc⟩
 ·omega
 ·exact (hc _ _ _ hb).2.1 rfl
theorem bO.grownMap(h:bO B B' mg a w)(hm:B<=mg)(hg:w.grownBy w' (some mg)):bO B B' mg a w':=by
 refine h.trans ⟨hg.os,hg.tape,hg.output,hg.size,λk hk hc=>hg.block k hk ?_⟩;intro e;simp at e;subst e;rcases hc with hc | ⟨hc,_⟩
 ·omega
 ·exact hc rfl
theorem bO.grownRow{B0:Nat}(h:bO B B' mg a w)(ho:w.ownsRow B0 e size v n xs)(hB:B<=B0)(he:e=3\/e=36/\B'<=B0)(hg:w.grownBy w' v.ownBlock):bO B B' mg a w':=by
 refine h.trans ⟨hg.os,hg.tape,hg.output,hg.size,λk hk hc=>hg.block k hk ?_⟩;intro e';obtain ⟨_,⟨rfl,_⟩ | ⟨g,cap,cur,rfl,hb,hh,_⟩⟩:=ho
 ·simp [zy] at e'
 ·simp [zy] at e';subst e';rcases hc with hc | ⟨_,hc⟩
  ·omega
  ·obtain ⟨h1,_,h4⟩:=hc _ _ _ hh;rcases he with rfl | ⟨rfl,hx⟩
   ·exact h1 rfl
   ·have:=h4 rfl;omega
theorem bO.own{B0:Nat}(h:bO B B' mg w w')(ho:w.ownsRow B0 e size v n xs)(he:e≠3/\e≠82)(hn:e=36->w.heap.size<=B')(hmg:v.ownBlock≠some mg):w'.ownsRow B0 e size v n xs:=by
 obtain ⟨h1,⟨rfl,h2⟩ | ⟨g,cap,cur,rfl,hb,hh,hc,hm',hz,ht⟩⟩:=ho
 ·exact ⟨h1,Or.inl ⟨rfl,h2⟩⟩
 ·have hlt:=(Array.getElem?_eq_some_iff.1 hh).1;refine ⟨h1,zr ⟨g,cap,cur,rfl,hb,?_,hc,hm',hz,ht⟩⟩;rw [h.block g hlt (zr ⟨λe'=>hmg (by rw [e'];rfl),λcs T fr hx=>?_⟩)]
  ·exact hh
  ·rw [hh] at hx;simp at hx;obtain ⟨_,rfl,_⟩:=hx;exact ⟨he.1,he.2,λe'=>by have:=hn e';omega⟩
theorem bL.apart{a:Int}(h:bL w pb left k a wd vC vP vM){B:Nat}{e:TypeId}{size:Nat}{v:Value}{n:Nat}{xs:List Value}(ho:w.ownsRow B e size v n xs)(he:e≠82):v.ownBlock=none\/v.ownBlock≠some pb:=by
 obtain ⟨_,⟨rfl,_⟩ | ⟨g,cap,cur,rfl,_,hh,_⟩⟩:=ho
 ·exact Or.inl rfl
 ·right;intro hx;simp [zy] at hx;subst hx;unfold bL at h;rw [hh] at h;simp at h;exact he h.2
theorem rZ{k:Nat}{D:DataW Unit}(h:w.ownsRow B e size v n xs)(hm:w.ownsMap zx 9 lW mg k D):v.ownBlock≠some mg:=by
 obtain ⟨es,cl,hh,_⟩:=hm;intro e';obtain ⟨_,⟨rfl,_⟩ | ⟨g,cap,cur,rfl,_,hh',_⟩⟩:=h
 ·simp [zy] at e'
 ·simp [zy] at e';subst e';rw [hh] at hh';cases hh'
theorem yS{a:Int}{D:DataW Unit}(h:bL w pb left k a wd vC vP vM)(hm:w.ownsMap zx 9 lW mg n D):pb≠mg:=by obtain ⟨es,cl,hh,_⟩:=hm;rintro rfl;unfold bL at h;rw [hh] at h;cases h
structure bQ(B:Nat)(w:World)(pb:Nat)(s:ByteArray)(T:List Tk)(st:bB)(g:Nat)(vC vP:Value)(mg:Nat):Prop where
 pp:dK B w pb s T st.i g vC vP (.map (some mg))
 places:w.ownsRow B 3 1 vP st.places.length (lX st.places)
 map:∃D,w.ownsMap zx 9 lW mg st.vars.length D/\oG D st.vars
 mhigh:B<=mg
section
variable {B:Nat}{w w':World}{pb:Nat}{s:ByteArray}{T:List Tk}{i g:Nat}{vC vP vM:Value}
theorem dK.below(h:dK B w pb s T i g vC vP vM)(k:Below w.heap.size w w'):dK B w' pb s T i g vC vP vM:=by obtain ⟨q,j,m,c,hP⟩:=h;exact ⟨q,j,m,c,hP.sc.below k,hP.lt,hP.on⟩
theorem dK.box(h:dK B w pb s T i g vC vP vM):∃left,bL w pb left (dO (aE T i).kind) (aE T i).pos (aE T i).txt vC vP vM/\B<=pb:=by obtain ⟨q,j,m,c,hP⟩:=h;exact ⟨_,hP.sc.box,hP.sc.high⟩
theorem dK.lt(h:dK B w pb s T i g vC vP vM):i<T.length:=by obtain ⟨q,j,m,c,hP⟩:=h;exact hP.lt
theorem dK.far(h:dK B w pb s T i g vC vP vM){row:Option Nat}(hg:w.grownBy w' row)(h1:row≠some pb)(h2:row≠some g):dK B w' pb s T i g vC vP vM:=by obtain ⟨q,j,m,c,hP⟩:=h;refine ⟨q,j,m,c,⟨?_,hP.sc.high,hP.sc.row.kept hg (zr λe=>h2 (by rw [<-e];rfl)),hP.sc.len,hP.sc.drop,hP.sc.le⟩,hP.lt,hP.on⟩;have hb:=hP.sc.box;have hlt:=hb.lt;unfold bL at hb ⊢;rw [hg.block pb hlt (λe=>h1 e.symm)];exact hb
theorem dK.glyph(h:dK B w pb s T i g vC vP vM):∃cs fr,w.heap[g]?=some (.cells cs 128 fr):=by
 obtain ⟨q,j,m,c,hP⟩:=h;obtain ⟨_,⟨e,_⟩ | ⟨g',cap,cur,e,_,hh,_⟩⟩:=hP.sc.row
 ·simp at e
 ·simp at e;obtain ⟨rfl,_⟩:=e;exact ⟨_,_,hh⟩
end
section
variable {B:Nat}{w w' w2:World}{pb:Nat}{s:ByteArray}{T:List Tk}{st:bB}{g mg:Nat}{vC vP:Value}
theorem bQ.below(h:bQ B w pb s T st g vC vP mg)(k:Below w.heap.size w w'):bQ B w' pb s T st g vC vP mg:=by obtain ⟨D,h1,h2⟩:=h.map;exact ⟨h.pp.below k,aU h.places k (zz _),⟨D,h1.kept (mA k none) (by simp),h2⟩,h.mhigh⟩
theorem bQ.take(h:bQ B w pb s T st g vC vP mg){i':Nat}(hg:w.grownBy w' (some pb))(hp:dK B w' pb s T i' g vC vP (.map (some mg))):bQ B w' pb s T ⟨i',st.vars,st.places⟩ g vC vP mg:=by obtain ⟨D,h1,h2⟩:=h.map;obtain ⟨left,hb,_⟩:=h.pp.box;exact ⟨hp,h.places.kept hg (hb.apart h.places (by decide)),⟨D,h1.kept hg (by simpa using λe=>yS hb h1 e.symm),h2⟩,h.mhigh⟩
theorem dK.row_apart{i:Nat}(h:dK B w pb s T i g vC vP vM){B0:Nat}{e:TypeId}{size:Nat}{v:Value}{n:Nat}{xs:List Value}(ho:w.ownsRow B0 e size v n xs)(he:e≠82/\e≠128):v.ownBlock≠some pb/\v.ownBlock≠some g:=by
 obtain ⟨left,hb,_⟩:=h.box;obtain ⟨cs,fr,hg⟩:=h.glyph;constructor
 ·rcases hb.apart ho he.1 with e | e
  ·rw [e];simp
  ·exact e
 ·intro e';obtain ⟨_,⟨rfl,_⟩ | ⟨g',cap,cur,rfl,_,hh,_⟩⟩:=ho
  ·simp [zy] at e'
  ·simp [zy] at e';subst e';rw [hh] at hg;simp at hg;exact he.2 hg.2.1
theorem bQ.far(h:bQ B w pb s T st g vC vP mg){B0:Nat}{e:TypeId}{size:Nat}{v:Value}{n:Nat}{xs:List Value}(ho:w.ownsRow B0 e size v n xs)(he:e≠82/\e≠128/\e≠3)(hg:w.grownBy w' v.ownBlock):bQ B w' pb s T st g vC vP mg:=by obtain ⟨D,h1,h2⟩:=h.map;obtain ⟨a1,a2⟩:=h.pp.row_apart ho ⟨he.1,he.2.1⟩;exact ⟨h.pp.far hg a1 a2,h.places.kept hg (bW h.places ho he.2.2.symm),⟨D,h1.kept hg (λe=>rZ ho h1 e.symm),h2⟩,h.mhigh⟩
theorem bQ.var(h:bQ B w pb s T st g vC vP mg){sn:List ByteArray}{D:DataW Unit}(hg:w.grownBy w' (some mg))(hm:w'.ownsMap zx 9 lW mg sn.length D)(hN:oG D sn):bQ B w' pb s T ⟨st.i,sn,st.places⟩ g vC vP mg:=by obtain ⟨D0,h1,h2⟩:=h.map;obtain ⟨left,hb,_⟩:=h.pp.box;obtain ⟨cs,fr,hgl⟩:=h.pp.glyph;refine ⟨h.pp.far hg (by simpa using λe=>yS hb h1 e.symm) ?_,h.places.kept hg (zr (rZ h.places h1)),⟨D,hm,hN⟩,h.mhigh⟩;intro e;simp at e;subst e;obtain ⟨es,cl,hh,_⟩:=h1;rw [hgl] at hh;cases hh
theorem bQ.place(h:bQ B w pb s T st g vC vP mg){v:Value}{p:Pl}(ho:w2.ownsRow B 3 1 v (st.places.length+1) (lX st.places++[.int .i64 p.2.2.2]))(hg:w.grownBy w2 vP.ownBlock) :
  w2.cell? ⟨pb,5,none⟩=some vP/\w2.frozen? ⟨pb,5,none⟩=false/\bQ B (w2.setCell ⟨pb,5,none⟩ v) pb s T ⟨st.i,st.vars,st.places++[p]⟩ g vC v mg:=by
 obtain ⟨D,h1,h2⟩:=h.map;obtain ⟨a1,a2⟩:=h.pp.row_apart h.places (by decide);obtain ⟨q,j,m,c,hP⟩:=h.pp.far hg a1 a2;have hb:=hP.sc.box;have h1':=h1.kept hg (λe=>rZ h.places h1 e.symm);refine ⟨hb.c5,hb.soft 5,⟨⟨q,j,m,c,⟨heap_setCell_same w2 pb 5 _ _ _ hb,hP.sc.high,hb.row hP.sc.row (by decide) _ _,hP.sc.len,hP.sc.drop,hP.sc.le⟩,hP.lt,hP.on⟩,hb.row ?_ (by decide) _ _,⟨D,h1'.setCell (λe=>yS hb h1' e.symm) _,h2⟩,h.mhigh⟩⟩;rw [aO7,zw];exact ho
end
def sA(B B' pb:Nat)(w:World)(s:ByteArray)(T:List Tk)(g:Nat)(vC:Value)(mg:Nat)(r:Except Nat (bB×List Nd))(e:Ending)(w':World):Prop:=
 bO B B' mg w w'/\
  match r with
  | .ok (s1,l1)=>∃vl vP,e=.returned (.tuple #[vl,.bool true])/\bQ B w' pb s T s1 g vC vP mg/\w'.ownsRow B' 36 2 vl l1.length (aG l1)
  | .error p=>∃a n c i vP vM,e=.returned (.tuple #[.slice a n c,.bool false])/\dK B w' pb s T i g vC vP vM/\(aE T i).pos=p
def aFu(B pb:Nat)(s:ByteArray)(T:List Tk)(g:Nat)(vC:Value)(mg f:Nat):Prop:=
 ∀(B':Nat) (atom:Bool) (st:bB) (vP vl:Value) (l:List Nd) (w:World),bQ B w pb s T st g vC vP mg->w.ownsRow B' 36 2 vl l.length (aG l)->B<=B'->B'<=w.heap.size->(atom=true->(aE T st.i).kind≠118)->T.length<st.i+f->l.length<=st.i->st.places.length<=st.i->st.vars.length<=st.i->
  Calls zx 129 #[.pointer (some ⟨pb,0,none⟩),vl] w λe w'=>sA B B' pb w s T g vC mg (cX T f atom st l) e w'
section
variable {B B' pb:Nat}{s:ByteArray}{T:List Tk}{g:Nat}{vC vP vl:Value}{mg:Nat}{st:bB}{l:List Nd}{w:World}
theorem aNt{w1 w2 w3:World}{D:DataW Unit}{sn:List ByteArray}{v3:Value}{X:Obj}{st1:bB}(h:bQ B w1 pb s T st1 g vC vP mg)(hl:w1.ownsRow B' 36 2 vl l.length (aG l))(hBB:B<=B')(hk:bO B B' mg w w1)
  (hg:w1.grownBy w2 (some mg)) (hm:w2.ownsMap zx 9 lW mg sn.length D) (hN:oG D sn) (ho:w3.ownsRow B' 36 2 v3 (l.length+1) (aG l++[.string ⟨#[]⟩,.int .i64 x])) (hg3:(w2.alloc X).grownBy w3 vl.ownBlock) :
  bQ B w3 pb s T ⟨st1.i,sn,st1.places⟩ g vC vP mg/\w3.ownsRow B' 36 2 v3 (l++[((⟨#[]⟩ : ByteArray),x)]).length (aG (l++[((⟨#[]⟩ : ByteArray),x)]))/\bO B B' mg w w3:=by
 obtain ⟨D0,m1,_⟩:=h.map;have h2:=h.var hg hm hN;have hl2:=hl.kept hg (zr (rZ hl m1));have hA:=(Below.refl w2.heap.size w2).alloc (zz _) X;refine ⟨(h2.below hA).far (aU hl2 hA (zz _)) (by decide) hg3,by rw [rS,zw];exact ho,?_⟩;exact ((hk.grownMap h.mhigh hg).trans (.of_below hA)).grownRow (aU hl2 hA (zz _)) hBB (zr ⟨rfl,zz _⟩) hg3
theorem aNu(atom:Bool)(f:Nat)(hT:∀i,(aE T i).kind∈gP)(hx:∀i,(aE T i).txt.size<=1000000)(hs:s.size<=3000)(hTl:T.length<=1000000)(h:bQ B w pb s T st g vC vP mg)(hl:w.ownsRow B' 36 2 vl l.length (aG l))(hBB:B<=B')(hBw:B'<=w.heap.size)(hk:(aE T st.i).kind=118)(hat:atom=false)(hl1:l.length<=st.i)(hv1:st.vars.length<=st.i) :
  Calls zx 129 #[.pointer (some ⟨pb,0,none⟩),vl] w λe w'=>sA B B' pb w s T g vC mg (cX T (f+1) atom st l) e w':=by
 subst hat;have hlt:=h.pp.lt;obtain ⟨iN,hN,hN0,hN1,hN2⟩:=info_parts nB;obtain ⟨left,hb,_⟩:=h.pp.box;obtain ⟨la,lc,rfl⟩:=aS hl;rw [hk,show dO 118=65 from rfl] at hb;have d1:=hb.c1;have d2:=hb.c2;have d3:=hb.c3;have CT:=aA (λo=>lE 118 (by decide) (by decide) (by decide) hT hs (h.pp.below ((Below.refl w.heap.size w).alloc (zz _) o)));rw [hk,show dO 118=65 from rfl] at CT;simp only [if_true,decide_true] at CT;have HP:Hid (cX T (f+1) false st l=.ok (⟨st.i+1,oO st.vars (aE T st.i).txt,st.places⟩,l++[(⟨#[]⟩,nR st.vars (aE T st.i).txt)])):=aA (by rw [cX,if_pos ⟨hk,rfl⟩]);obtain ⟨tx,htx⟩ : ∃tx,(aE T st.i).txt=tx:=⟨_,rfl⟩;obtain ⟨tp,htp⟩ : ∃tp,(aE T st.i).pos=tp:=⟨_,rfl⟩;have hxs:=hx st.i;rw [htx] at d3 HP hxs;rw [htp] at d2;have HQ:=aA h;have HL:=aA hl;clear h hl hb hk hx hT htx htp;go_enter zk,zo;go_upto_region 3 with (first
  | (go_at_call 81;refine (aB CT _).mono ?_;rintro e w1 ⟨rfl,hg1,hp1⟩;have hq1:=(HQ.out.below ((Below.refl w.heap.size w).alloc (zz _) _)).take hg1 hp1;have hx1:=hg1.block w.heap.size (by simp) (by obtain ⟨left,hb,_⟩:=HQ.out.pp.box;have:=hb.lt;simp;omega);have HQ1:=aA hq1;have HX1:=aA hx1;have HG1:=aA hg1;clear hg1 hp1 hq1 hx1)
  | go_in)
 have hx1:w1.heap[w.heap.size]?=some (.cells #[.int .i32 65,.int .i64 tp,.string tx] 75):=HX1.out.trans (by show (w.heap.push _)[w.heap.size]?=_;simp);have t2:w1.cell? ⟨w.heap.size,2,none⟩=some (.string tx):=by unfold zq;rw [hx1];rfl
 obtain ⟨left1,hb1,_⟩:=HQ1.out.pp.box;have m6:=hb1.c6;have hA:=(Below.refl w.heap.size w).alloc (zz _) (.cells #[.int .i32 65,.int .i64 tp,.string tx] 75);obtain ⟨leftA,hbA,hBp⟩:=(HQ.out.below hA).pp.box;have HK1:Hid (bO B B' mg w w1):=aA ((bO.of_below hA).grownBox hbA hBp HG1.out);have HL1:=aA ((aU HL.out hA (zz _)).kept HG1.out (hbA.apart (aU HL.out hA (zz _)) (by decide)));obtain ⟨D,hmp,hmn⟩:=HQ1.out.map;have CN:=aA (aNs mg D st.vars tx w1.drew hmp hmn (by omega) hxs);have hz1:=HK1.out.size;have HMP:=aA hmp;clear hmp hmn hx1 hb1 hbA hA HQ HL HX1 HG1 CT d1 d2 d3;go_region_law (first
  | (refine aTd (by rfl) 144 _ _ (by rfl) (enters_of zm (by kernel_rfl) rfl) _ (by rfl) (aB CN) ?_;rintro e w2 ⟨D2,rfl,hm2,hn2,hg2⟩;refine ⟨_,rfl,?_⟩;have HM2:=aA hm2;have HN2:=aA hn2;have HG2:=aA hg2;have HL2:=aA (World.ownsRow.kept (w:=w1.drew) HL1.out hg2 (zr (rZ HL1.out HMP.out)));have hz2:=hg2.size;clear hm2 hn2 hg2)
  | (refine nM ?g1 (.tmp 13) (.tmp 22) 37 36 ?g2 (.agg #[.string ⟨#[]⟩,.int .i64 0]) 2 24 zt nB ?g3 ?g4 ?g5 B' _ l.length (aG l) ?g6 (HL2.out.alloc _) ?g7 ?g8 w2.heap.size 1 [.string ⟨#[]⟩,.int .i64 (nR st.vars tx)] ?g9 ?g10 (gK w2 _ _ 36 w2.heap.size rfl) (rW _ _) ?_;(case g1=>rfl);(case g2=>rfl);(case g3=>rfl);(case g4=>decide);(case g5=>decide);(case g6=>rfl);(case g7=>omega);(case g8=>(simp at hz2 ⊢;omega));(case g9=>rfl);(case g10=>rfl);intro v3 w3 ho3 hg3;have hput:=aNt (w1:=w1.drew) (HQ1.out.below (aI (w1:=w1.drew) ⟨1,rfl⟩)) HL1.out hBB (HK1.out.trans (.of_below (aI (w1:=w1.drew) ⟨1,rfl⟩))) HG2.out HM2.out HN2.out ho3 hg3;have HPUT:=aA hput;obtain ⟨va3,vc3,rfl⟩:=aS ho3;clear ho3 hg3 hput))
 all_goals
  go_wp2;go_ret2;refine ⟨HPUT.out.2.2,?_⟩;rw [HP.out];exact ⟨_,_,rfl,HPUT.out.1,HPUT.out.2.1⟩
theorem aNv(atom:Bool)(f:Nat)(hT:∀i,(aE T i).kind∈gP)(hs:s.size<=3000)(h:bQ B w pb s T st g vC vP mg)(hk:(aE T st.i).kind≠118)(hk2:(aE T st.i).kind≠110) :
  Calls zx 129 #[.pointer (some ⟨pb,0,none⟩),vl] w λe w'=>sA B B' pb w s T g vC mg (cX T (f+1) atom st l) e w':=by
 obtain ⟨left,hb,_⟩:=h.pp.box;have d1:=hb.c1;have d2:=hb.c2;have d3:=hb.c3;have CT:=aA (λo=>lE 118 (by decide) (by decide) (by decide) hT hs (h.pp.below ((Below.refl w.heap.size w).alloc (zz _) o)));rw [show dO 118=65 from rfl,if_neg hk,decide_eq_false hk] at CT;have CU:=aA (λw1 (hp:dK B w1 pb s T st.i g vC vP (.map (some mg)))=>lE 110 (by decide) (by decide) (by decide) hT hs hp);rw [show dO 110=97 from rfl,if_neg hk2,decide_eq_false hk2] at CU;have HP:Hid (cX T (f+1) atom st l=.error (aE T st.i).pos):=aA (by rw [cX,if_neg (λe=>hk e.1),if_pos hk2]);have HQ:=aA h;clear h hb hT hk hk2;generalize dO (aE T st.i).kind=K at *;generalize (aE T st.i).txt=tx at *;obtain ⟨tp,htp⟩ : ∃tp,(aE T st.i).pos=tp:=⟨_,rfl⟩;rw [htp] at d2 HP;have HTP:=aA htp;clear htp;go_enter zk,zo;go_wp2_with (first
  | (go_at_call 81;refine (CU.out _ HP1.out).mono ?_;rintro e w2 ⟨rfl,hg2,hp2⟩;have HG2:=aA hg2;have HP2:=aA hp2;clear hg2 hp2)
  | (go_at_call 81;refine (aB CT _).mono ?_;rintro e w1 ⟨rfl,hg1,hp1⟩;have HG1:=aA hg1;have HP1:=aA hp1;clear hg1 hp1)
  | go_in)
 go_ret2;have hA:=(Below.refl w.heap.size w).alloc (zz _) (.cells #[.int .i32 K,.int .i64 tp,.string tx] 75);obtain ⟨leftA,hbA,hBp⟩:=(HQ.out.below hA).pp.box;obtain ⟨left1,hb1,_⟩:=HP1.out.box;refine ⟨((bO.of_below hA).grownBox hbA hBp HG1.out).grownBox hb1 hBp HG2.out,?_⟩;rw [HP.out];exact ⟨_,_,_,_,_,_,rfl,HP2.out,HTP.out⟩
end
def aFv(B B' pb:Nat)(w:World)(s:ByteArray)(T:List Tk)(g:Nat)(vC:Value)(mg nm:Nat)(r:Except Nat (bB×List Nd×Nat))(e:Ending)(w':World):Prop:=
 bO B B' mg w w'/\
  match r with
  | .ok (s1,l1,n)=>∃vl vP,e=.returned (.tuple #[vl,.bool true])/\bQ B w' pb s T s1 g vC vP mg/\w'.ownsRow B' 36 2 vl (dT l1 nm n).length (aG (dT l1 nm n))
  | .error p=>∃a n c i vP vM,e=.returned (.tuple #[.slice a n c,.bool false])/\dK B w' pb s T i g vC vP vM/\(aE T i).pos=p
def aFw(B pb:Nat)(s:ByteArray)(T:List Tk)(g:Nat)(vC:Value)(mg f:Nat):Prop:=
 ∀(B':Nat) (st:bB) (vP vl:Value) (l:List Nd) (x:ByteArray) (w:World),bQ B w pb s T ⟨st.i+1,st.vars,st.places⟩ g vC vP mg->w.ownsRow B' 36 2 vl (l.length+1) (aG (l++[(x,0)]))->B<=B'->B'<=w.heap.size->T.length<st.i+f->l.length+1<=st.i->st.places.length<=st.i->st.vars.length<=st.i->
  Calls zx 145 #[.pointer (some ⟨pb,0,none⟩),vl] w λe w'=>aFv B B' pb w s T g vC mg l.length (eP T f st (l++[(x,0)]) 0) e w'
theorem bQ.parts{st:bB}(h:bQ B w pb s T st g vC vP mg)(k n:Nat):bQ B w pb s T ⟨st.i,st.vars,pL st.places k n⟩ g vC vP mg:=
 ⟨h.pp,by rw [aO8,aO9];exact h.places,h.map,h.mhigh⟩
theorem bO.boxSet(h:bO B B' mg a w)(hb:bL w pb left k x wd vC vP vM)(hp:B<=pb)(j:Nat)(u:Value):bO B B' mg a (w.setCell ⟨pb,j,none⟩ u):=h.grownBox hb hp (bR _ _ _)
section
variable {B B' pb:Nat}{s:ByteArray}{T:List Tk}{g:Nat}{vC vP vl:Value}{mg:Nat}{st:bB}{l:List Nd}{w:World}
theorem aNw{w2 w3:World}{st2:bB}{p:Pl}{tb:Nat}{o:Obj}{X:Obj}(h:bQ B w2 pb s T st2 g vC vP mg)(hl:w2.ownsRow B' 36 2 vl l.length (aG l))(hk:bO B B' mg w w2)(ht:w2.heap[tb]?=some o)(hto:∃cs,o=.cells cs 75)(ho:w3.ownsRow B 3 1 v (st2.places.length+1) (lX st2.places++[.int .i64 p.2.2.2]))(hg:(w2.alloc X).grownBy w3 vP.ownBlock) :
  w3.cell? ⟨pb,5,none⟩=some vP/\w3.frozen? ⟨pb,5,none⟩=false/\bQ B (w3.setCell ⟨pb,5,none⟩ v) pb s T ⟨st2.i,st2.vars,st2.places++[p]⟩ g vC v mg/\(w3.setCell ⟨pb,5,none⟩ v).ownsRow B' 36 2 vl l.length (aG l)/\bO B B' mg w (w3.setCell ⟨pb,5,none⟩ v)/\(w3.setCell ⟨pb,5,none⟩ v).heap[tb]?=some o:=by
 have hA:=(Below.refl w2.heap.size w2).alloc (zz _) X;have hQA:=h.below hA;obtain ⟨c5,f5,hQ⟩:=hQA.place (p:=p) ho hg;obtain ⟨a1,a2⟩:=hQA.pp.row_apart hQA.places (by decide);obtain ⟨left3,hb3,hBp⟩:=(hQA.pp.far hg a1 a2).box;have hlA:=aU hl hA (zz _);have hl3:=hlA.kept hg (bW hlA hQA.places (by decide));have hk3:=(hk.trans (.of_below hA)).grownRow hQA.places (zz _) (Or.inl rfl) hg;have hlt:=(Array.getElem?_eq_some_iff.1 ht).1;obtain ⟨cs,rfl⟩:=hto;have htA:(w2.alloc X).heap[tb]?=some (.cells cs 75):=(hA.block tb hlt).trans ht;refine ⟨c5,f5,hQ,hb3.row hl3 (by decide) _ _,hk3.boxSet hb3 hBp _ _,?_⟩;have hne:tb≠pb:=by rintro rfl;obtain ⟨leftA,hbA,_⟩:=hQA.pp.box;unfold bL at hbA;rw [htA] at hbA;simp at hbA
 rw [Below.heap_setCell _ _ _ _ hne,hg.block tb (by have:=hA.size;omega) ?_]
 ·exact htA
 ·intro e;obtain ⟨_,⟨rfl,_⟩ | ⟨g',cap,cur,rfl,_,hh,_⟩⟩:=hQA.places
  ·simp [zy] at e
  ·simp [zy] at e;subst e;rw [htA] at hh;simp at hh
def aFx(k m:Nat):Except Nat (bB×List Nd×Nat)->Except Nat (bB×List Nd)
 | .error p=>.error p
 | .ok (st',l',n)=>.ok (⟨st'.i,st'.vars,pL st'.places k n⟩,dT l' m n)
theorem aNx{w7 w8:World}{r:Except Nat (bB×List Nd×Nat)}{e:Ending}{k:Nat}(hk:bO B B' mg w w7)(h:aFv B B' pb w7 s T g vC mg l.length r e w8) :
  (∃a n c b,e=.returned (.tuple #[.slice a n c,.bool b]))/\sA B B' pb w s T g vC mg (aFx k l.length r) e w8:=by
 obtain ⟨h1,h2⟩:=h;cases r with
 | error p=>
  obtain ⟨a,n,c,i,vP,vM,rfl,h3,h4⟩:=h2;exact ⟨⟨a,n,c,false,rfl⟩,hk.trans h1,a,n,c,i,vP,vM,rfl,h3,h4⟩
 | ok r=>
  obtain ⟨s1,l1,n⟩:=r;obtain ⟨vl,vP,rfl,h3,h4⟩:=h2;obtain ⟨a,c,hs⟩:=aS h4;exact ⟨⟨a,_,c,true,by rw [hs]⟩,hk.trans h1,vl,vP,rfl,h3.parts _ _,h4⟩
theorem aNy(atom:Bool)(f:Nat)(hT:∀i,(aE T i).kind∈gP)(hs:s.size<=3000)(hTl:T.length<=1000000)(hPC:aFw B pb s T g vC mg f)(h:bQ B w pb s T st g vC vP mg)(hl:w.ownsRow B' 36 2 vl l.length (aG l))(hBB:B<=B')(hBw:B'<=w.heap.size)(hk:(aE T st.i).kind=110)(hf:T.length<st.i+(f+1))(hl1:l.length<=st.i)(hp1:st.places.length<=st.i)(hv1:st.vars.length<=st.i) :
  Calls zx 129 #[.pointer (some ⟨pb,0,none⟩),vl] w λe w'=>sA B B' pb w s T g vC mg (cX T (f+1) atom st l) e w':=by
 have hlt:=h.pp.lt;obtain ⟨iN,hN,hN0,hN1,hN2⟩:=info_parts nB;obtain ⟨left,hb,_⟩:=h.pp.box;obtain ⟨la,lc,rfl⟩:=aS hl;obtain ⟨va,vc,rfl⟩:=aS h.places;have d1:=hb.c1;have d2:=hb.c2;have d3:=hb.c3;rw [hk,show dO 110=97 from rfl] at d1;have CT:=aA (λo=>lE 118 (by decide) (by decide) (by decide) hT hs (h.pp.below ((Below.refl w.heap.size w).alloc (zz _) o)));rw [show dO 118=65 from rfl,if_neg (by rw [hk];decide),decide_eq_false (by rw [hk];decide)] at CT;have CU:=aA (λw1 (hp:dK B w1 pb s T st.i g vC (.slice va st.places.length vc) (.map (some mg)))=>lE 110 (by decide) (by decide) (by decide) hT hs hp);rw [show dO 110=97 from rfl,if_pos hk,decide_eq_true hk] at CU;have HQ:=aA h;have HL:=aA hl;have HK:=aA hk;have HT:=aA hT;have HPC:=aA hPC;clear h hl hb hk hT hPC;obtain ⟨tx,htx⟩ : ∃tx,(aE T st.i).txt=tx:=⟨_,rfl⟩;obtain ⟨tp,htp⟩ : ∃tp,(aE T st.i).pos=tp:=⟨_,rfl⟩;rw [htp] at d2;rw [htx] at d3;have HTX:=aA htx;have HTP:=aA htp;clear htx htp;go_enter zk,zo;go_upto_region 6 with (first
  | (go_at_call 81;refine (CU.out _ HP1.out).mono ?_;rintro e w2 ⟨rfl,hg2,hp2⟩;have HG2:=aA hg2;have HP2:=aA hp2;clear hg2 hp2)
  | (go_at_call 81;refine (aB CT _).mono ?_;rintro e w1 ⟨rfl,hg1,hp1'⟩;have HG1:=aA hg1;have HP1:=aA hp1';clear hg1 hp1')
  | go_in)
 have hA:=(Below.refl w.heap.size w).alloc (zz _) (.cells #[.int .i32 97,.int .i64 tp,.string tx] 75);have hQA:=HQ.out.below hA;have hQ1:=hQA.take HG1.out HP1.out;have hQ2:=hQ1.take HG2.out HP2.out;obtain ⟨leftA,hbA,hBp⟩:=hQA.pp.box;obtain ⟨left1,hb1,_⟩:=hQ1.pp.box;have hlA:=aU HL.out hA (zz _);have hl1':=hlA.kept HG1.out (hbA.apart hlA (by decide));have hl2':=hl1'.kept HG2.out (hb1.apart hl1' (by decide));have hk2:bO B B' mg w w2:=((bO.of_below hA).grownBox hbA hBp HG1.out).grownBox hb1 hBp HG2.out;have hpbl:pb<w.heap.size:=by obtain ⟨left,hb,_⟩:=HQ.out.pp.box;exact hb.lt
 have hx2:w2.heap[w.heap.size]?=some (.cells #[.int .i32 97,.int .i64 tp,.string tx] 75):=by rw [HG2.out.block w.heap.size (by have:=HG1.out.size;simp at this;omega) (by simp;omega),HG1.out.block w.heap.size (by simp) (by simp;omega)];show (w.heap.push _)[w.heap.size]?=_;simp
 have hz2:=hk2.size;obtain ⟨left2,hb2,_⟩:=hQ2.pp.box;have p5:=hb2.c5;have t1:w2.cell? ⟨w.heap.size,1,none⟩=some (.int .i64 tp):=by unfold zq;rw [hx2];rfl
 have t2:w2.cell? ⟨w.heap.size,2,none⟩=some (.string tx):=by unfold zq;rw [hx2];rfl
 have p5A:∀o,(w2.alloc o).cell? ⟨pb,5,none⟩=some (.slice va st.places.length vc):=λo=>Below.at' ((Below.refl w2.heap.size w2).alloc (zz _) o) (zz _) p5
 have t1A:∀o,(w2.alloc o).cell? ⟨w.heap.size,1,none⟩=some (.int .i64 tp):=λo=>Below.at' ((Below.refl w2.heap.size w2).alloc (zz _) o) (zz _) t1
 have HQ2:=aA hQ2;have HL2:=aA hl2';have HK2:=aA hk2;have HX2:=aA hx2;clear hA hQA hQ1 hQ2 hbA hb1 hb2 hlA hl1' hl2' hk2 hx2 HQ HL HP1 HP2 HG1 HG2 CT CU d1 d2 d3;go_cut [] (λwx=>∃v5,bQ B wx pb s T ⟨st.i+1,st.vars,st.places++[(tx,atom,0,(tp:Int))]⟩ g vC v5 mg/\wx.ownsRow B' 36 2 (.slice la l.length lc) l.length (aG l)/\bO B B' mg w wx/\wx.heap[w.heap.size]?=some (.cells #[.int .i32 97,.int .i64 tp,.string tx] 75));case first=>
  refine tV ?_;have hq2d:Hid (bQ B w2.drew pb s T ⟨st.i+1,st.vars,st.places⟩ g vC (.slice va st.places.length vc) mg):=aA (HQ2.out.below (aI (w1:=w2.drew) ⟨1,rfl⟩));have hk2d:Hid (bO B B' mg w w2.drew):=aA (HK2.out.trans (.of_below (aI (w1:=w2.drew) ⟨1,rfl⟩)));go_region_law (refine nM ?g1 (.tmp 31) (.tmp 34) 25 3 ?g2 (.int .i64 0) 1 8 Tryz.underlying25 pB ?g3 ?g4 ?g5 B _ st.places.length (lX st.places) ?g6 (hq2d.out.places.alloc _) ?g7 ?g8 w2.heap.size 1 [.int .i64 tp] ?g9 ?g10 (rV w2.drew (.int .i64 tp) 3 w2.heap.size rfl) (aB8 tp) ?_;(case g1=>rfl);(case g2=>rfl);(case g3=>rfl);(case g4=>decide);(case g5=>decide);(case g6=>rfl);(case g7=>omega);(case g8=>(simp;omega));(case g9=>rfl);(case g10=>rfl);intro v3 w3 ho3 hg3;obtain ⟨c5,f5,hp3⟩:=aNw (p:=(tx,atom,0,(tp:Int))) (tb:=w.heap.size) hq2d.out HL2.out hk2d.out HX2.out ⟨_,rfl⟩ ho3 hg3;have HP3:=aA hp3;obtain ⟨va3,vc3,rfl⟩:=aS ho3;clear ho3 hg3 hp3);all_goals
   refine qT ?_;go_wp2_with fail;go_meet;case rel=>exact ⟨_,HP3.out⟩
 case rest=>
  obtain ⟨v5,hQ5,hl5,hk5,hx5⟩:=hcut;have t2:wc.cell? ⟨w.heap.size,2,none⟩=some (.string tx):=by unfold zq;rw [hx5];rfl
  have HQ5:=aA hQ5;have HL5:=aA hl5;have HK5:=aA hk5;have hz5:=hk5.size;clear hQ5 hl5 hk5 hx5 HQ2 HL2 HK2 HX2 p5 p5A t1 t1A;have HNP:Hid (∀(h40:(aE T (st.i+1)).kind≠40),cX T (f+1) atom st l=.ok (⟨st.i+1,st.vars,st.places++[(tx,atom,0,(tp:Int))]⟩,l++[(tx,0)])):=aA λh40=>by
   rw [cX,if_neg (by rw [HK.out];exact λh=>absurd h.1 (by decide)),if_neg (by rw [HK.out];decide),if_neg h40,HTX.out,HTP.out]
  by_cases h40:(aE T (st.i+1)).kind=40
  ·have CT4:=aA (λw1 (hp:dK B w1 pb s T (st.i+1) g vC v5 (.map (some mg)))=>lE 40 (by decide) (by decide) (by decide) HT.out hs hp);rw [show dO 40=40 from rfl,if_pos h40,decide_eq_true h40] at CT4;have HPT:Hid (cX T (f+1) atom st l=aFx st.places.length l.length (eP T f ⟨st.i+1,st.vars,st.places++[(tx,atom,0,(tp:Int))]⟩ (l++[(tx,0)]) 0)):=aA (by
    rw [cX,if_neg (by rw [HK.out];exact λh=>absurd h.1 (by decide)),if_neg (by rw [HK.out];decide),if_pos h40,HTX.out,HTP.out];cases eP T f ⟨st.i+1,st.vars,st.places++[(tx,atom,0,(tp:Int))]⟩ (l++[(tx,0)]) 0 with
    | error p=>rfl
    | ok r=>rfl)
   go_wp2_with (first
    | (at_builtin;refine wpList_append_own _ rfl (.tmp 38) (.tmp 42) 37 rfl B' 36 iN (.agg #[.string ⟨#[]⟩,.int .i64 0]) 2 24 zt hN hN0 hN1 hN2 rfl (by decide) _ _ _ rfl (HL5.out.alloc _) ⟨_,0,none⟩ 1 1 [.string tx,.int .i64 0] rfl rfl (gK wc _ _ _ _ rfl) (rW _ _) (by unfold maxLen;omega) (by omega) (by simp;omega) ?_;intro v6 w6 ho6 hg6 _;have HQ6:=aA ((HQ5.out.below ((Below.refl wc.heap.size wc).alloc (zz _) _)).far (HL5.out.alloc _) (by decide) hg6);have HK6:=aA ((HK5.out.trans (.of_below ((Below.refl wc.heap.size wc).alloc (zz _) _))).grownRow (HL5.out.alloc _) hBB (zr ⟨rfl,zz _⟩) hg6);have HL6:Hid (w6.ownsRow B' 36 2 v6 (l.length+1) (aG (l++[(tx,0)]))):=aA (by rw [rS];exact ho6);obtain ⟨va6,vc6,rfl⟩:=aS ho6;clear ho6 hg6)
    | (go_at_call 81;refine (CT4.out _ HQ6.out.pp).mono ?_;rintro e w7 ⟨rfl,hg7,hp7⟩;obtain ⟨left6,hb6,hBp6⟩:=HQ6.out.pp.box;have hQ7:=HQ6.out.take hg7 hp7;have hl7:=HL6.out.kept hg7 (hb6.apart HL6.out (by decide));have hk7:=HK6.out.grownBox hb6 hBp6 hg7;have CP:=aA (HPC.out B' ⟨st.i+1,st.vars,st.places++[(tx,atom,0,(tp:Int))]⟩ v5 _ l tx w7 hQ7 hl7 hBB (zl hBw hk7.size) (by simp;omega) (by simp;omega) (by simp;omega) (by simp;omega));have HK7:=aA hk7;clear hg7 hp7 hQ7 hl7 hk7 hb6)
    | (go_at_call 145;refine (aB CP).mono ?_;intro e w8 hP8;obtain ⟨⟨a8,n8,c8,b8,he8⟩,hTQ⟩:=aNx (k:=st.places.length) HK7.out hP8;subst he8;have HTQ:=aA hTQ;clear hTQ)
    | go_in)
   go_ret2;rw [HPT.out];exact HTQ.out
  ·have CT4:=aA (λw1 (hp:dK B w1 pb s T (st.i+1) g vC v5 (.map (some mg)))=>lE 40 (by decide) (by decide) (by decide) HT.out hs hp);rw [show dO 40=40 from rfl,if_neg h40,decide_eq_false h40] at CT4;have HNP':=aA (HNP.out h40);clear HNP;go_wp2_with (first
    | (at_builtin;refine wpList_append_own _ rfl (.tmp 38) (.tmp 42) 37 rfl B' 36 iN (.agg #[.string ⟨#[]⟩,.int .i64 0]) 2 24 zt hN hN0 hN1 hN2 rfl (by decide) _ _ _ rfl (HL5.out.alloc _) ⟨_,0,none⟩ 1 1 [.string tx,.int .i64 0] rfl rfl (gK wc _ _ _ _ rfl) (rW _ _) (by unfold maxLen;omega) (by omega) (by simp;omega) ?_;intro v6 w6 ho6 hg6 _;have HQ6:=aA ((HQ5.out.below ((Below.refl wc.heap.size wc).alloc (zz _) _)).far (HL5.out.alloc _) (by decide) hg6);have HK6:=aA ((HK5.out.trans (.of_below ((Below.refl wc.heap.size wc).alloc (zz _) _))).grownRow (HL5.out.alloc _) hBB (zr ⟨rfl,zz _⟩) hg6);have HL6:Hid (w6.ownsRow B' 36 2 v6 (l++[(tx,0)]).length (aG (l++[(tx,0)]))):=aA (by rw [rS,zw];exact ho6);obtain ⟨va6,vc6,rfl⟩:=aS ho6;clear ho6 hg6)
    | (go_at_call 81;refine (CT4.out _ HQ6.out.pp).mono ?_;rintro e w7 ⟨rfl,hg7,hp7⟩;obtain ⟨left6,hb6,hBp6⟩:=HQ6.out.pp.box;have HQ7:=aA (HQ6.out.take hg7 hp7);have HL7:=aA (HL6.out.kept hg7 (hb6.apart HL6.out (by decide)));have HK7:=aA (HK6.out.grownBox hb6 hBp6 hg7);clear hg7 hp7 hb6)
    | go_in)
   go_ret2;refine ⟨HK7.out,?_⟩;rw [HNP'.out];exact ⟨_,_,rfl,HQ7.out,HL7.out⟩
end
theorem sA.shape{r:Except Nat (bB×List Nd)}{e:Ending}(h:sA B B' pb w s T g vC mg r e w'):∃a n c b,e=.returned (.tuple #[.slice a n c,.bool b]):=by
 obtain ⟨_,h⟩:=h;cases r with
 | error p=>obtain ⟨a,n,c,i,vP,vM,rfl,_⟩:=h;exact ⟨a,n,c,false,rfl⟩
 | ok y=>
  obtain ⟨s1,l1⟩:=y;obtain ⟨vl,vP,rfl,_,h4⟩:=h;obtain ⟨a,c,hs⟩:=aS h4;exact ⟨a,_,c,true,by rw [hs]⟩
theorem aNz(L:List Nd)(k n:Nat)(h:k<L.length):∃x:ByteArray,(dT L k n)[k]'(by rw [uT];exact h)=(x,(n:Int)):=by unfold dT;exact ⟨L[k].1,by rw [List.getElem_modify_eq]⟩
structure yT(B B' pb:Nat)(w:World)(s:ByteArray)(T:List Tk)(g:Nat)(vC:Value)(mg nm:Nat)(r:Except Nat (bB×List Nd×Nat))(k:Nat)(vl:Value)(wr:World)(st:bB)(L:List Nd)(n:Nat)(vP:Value):Prop where
 q:bQ B wr pb s T ⟨st.i+1,st.vars,st.places⟩ g vC vP mg
 row:wr.ownsRow B' 36 2 vl L.length (aG (dT L nm n))
 kept:bO B B' mg w wr
 eq:r=eP T k st L n
 fuel:T.length<st.i+k
 nm:nm<L.length
 len:L.length<=st.i
 pl:st.places.length<=st.i
 vs:st.vars.length<=st.i
 few:n<=st.i
theorem yT.step{B B' pb:Nat}{w:World}{s:ByteArray}{T:List Tk}{g:Nat}{vC:Value}{mg nm:Nat}{r:Except Nat (bB×List Nd×Nat)}{k:Nat}{vl:Value}{wr:World}{st:bB}{L:List Nd}{n:Nat}{vP:Value}(h:yT B B' pb w s T g vC mg nm r (k+1) vl wr st L n vP){q:Except Nat (bB×List Nd)}(hq:cX T k false ⟨st.i+1,st.vars,st.places⟩ []=q) :
  match q with
  | .error p=>r=.error p
  | .ok (s1,x)=>r=if (aE T s1.i).kind=44 then eP T k s1 (L++x) (n+1) else if (aE T s1.i).kind=41 then .ok (⟨s1.i+1,s1.vars,s1.places⟩,L++x,n+1) else .error (aE T s1.i).pos:=by
 have he:=h.eq;rw [eP,(aFy T k).1 false _ L,hq] at he;cases q with
 | error p=>exact he
 | ok y=>exact he
theorem aO0{w1:World}{nm:Nat}{s1:bB}{L x:List Nd}{vl:Value}(hq:bQ B w1 pb s T s1 g vC vP mg)(hr:w1.ownsRow B' 36 2 vl (dT L nm n++x).length (aG (dT L nm n++x)))(hnm:nm<L.length)(hBB:B<=B')(hk:bO B B' mg w w1) :
  ∃gn c,vl=.slice (some ⟨gn,0,none⟩) (L++x).length c/\w1.cell? ⟨gn,nm*2+1,none⟩=some (.int .i64 n)/\w1.frozen? ⟨gn,nm*2+1,none⟩=false/\
   bQ B (w1.setCell ⟨gn,nm*2+1,none⟩ (.int .i64 ((n:Int)+1))) pb s T s1 g vC vP mg/\(w1.setCell ⟨gn,nm*2+1,none⟩ (.int .i64 ((n:Int)+1))).ownsRow B' 36 2 vl (L++x).length (aG (dT (L++x) nm (n+1)))/\bO B B' mg w (w1.setCell ⟨gn,nm*2+1,none⟩ (.int .i64 ((n:Int)+1))):=by
 rw [<-aO4 L x nm n hnm,uT] at hr;have hnx:nm<(L++x).length:=by simp;omega
 obtain ⟨gn,c,rfl⟩:=sH hr (by omega);have hg:w1.grownBy (w1.setCell ⟨gn,nm*2+1,none⟩ (.int .i64 ((n:Int)+1))) (some gn):=bR _ _ _;obtain ⟨y,hy⟩:=aNz (L++x) nm n hnx;refine ⟨gn,c,rfl,?_,hr.frozenAt _,hq.far hr (by decide) hg,?_,hk.grownRow hr hBB (zr ⟨rfl,zz _⟩) hg⟩
 ·rw [hr.cellAt _ (by omega),(tK _ nm (by rw [uT];exact hnx)).2,hy]
 ·have:=(hr.stored (nm*2+1) (.int .i64 ((n+1:Nat):Int))).1;rw [aT4,aO6] at this;exact this
section
variable {B pb:Nat}{s:ByteArray}{T:List Tk}{g:Nat}{vC:Value}{mg:Nat}
theorem aO1(f:Nat)(hT:∀i,(aE T i).kind∈gP)(hs:s.size<=3000)(hTl:T.length<=1000000)(IH:∀k,k<f->aFu B pb s T g vC mg k):aFw B pb s T g vC mg f:=by
 intro B' st vP vl l x w h hl hBB hBw hf hl1 hp1 hv1;have hlt:=h.pp.lt;simp only at hlt;obtain ⟨la,lc,rfl⟩:=aS hl;have HIH:=aA IH;have HT:=aA hT;have H0:Hid (yT B B' pb w s T g vC mg l.length (eP T f st (l++[(x,0)]) 0) f (.slice la (l.length+1) lc) w st (l++[(x,0)]) 0 vP):=aA ⟨h,by rw [aT5,zw];exact hl,bO.refl _ _ _ _,rfl,hf,by simp,by simp;omega,hp1,hv1,Nat.zero_le _⟩;obtain ⟨R,hR⟩ : ∃R,eP T f st (l++[(x,0)]) 0=R:=⟨_,rfl⟩;rw [hR] at H0;simp only [hR];have hl1':l.length<=1000000:=by omega
 clear h hl IH hT hR;generalize l.length=nm at *;go_enter Tryz.func145,Tryz.ntmps145;go_wp2;go_loopg [1] f (λk vl wr=>k<=f/\∃st' L n vP',yT B B' pb w s T g vC mg nm R k vl wr st' L n vP');case atStart=>exact ⟨zz _,st,_,0,vP,H0.out⟩
 case round=>
  clear H0;obtain ⟨hkf,st',L,n,vP',hL⟩:=hrel;have hlt':=hL.q.pp.lt;simp only at hlt';have hfu:=hL.fuel;have hnm:=hL.nm;have hlen:=hL.len;have hpl:=hL.pl;have hvs:=hL.vs;have hfew:=hL.few;obtain ⟨k',rfl⟩ : ∃k',gk=k'+1:=⟨gk-1,by omega⟩;obtain ⟨va,vc,rfl⟩:=aS hL.row;have CT:=aA (HIH.out k' (by omega) B' false ⟨st'.i+1,st'.vars,st'.places⟩ vP' _ (dT L nm n) wr hL.q (by rw [uT];exact hL.row) hBB (zl hBw hL.kept.size) (by simp) (by simp;omega) (by rw [uT];simp;omega) (by simp;omega) (by simp;omega));have HL:=aA hL;have hpre:=(aFy T k').1 false ⟨st'.i+1,st'.vars,st'.places⟩ (dT L nm n);rw [hpre] at CT;clear hpre;cases hq:cX T k' false ⟨st'.i+1,st'.vars,st'.places⟩ [] with
  | error p=>
   have hst:=HL.out.step hq;rw [hq] at CT;have HR:Hid (R=.error p):=aA hst;clear hq hst hL;go_wp2_with (first
    | (go_at_call 129;refine (aB CT).mono ?_;rintro e w1 ⟨hk1,a1,n1,c1,i1,vP1,vM1,rfl,hp1,hpos⟩;have HK1:=aA hk1;have HP1:=aA hp1;have HPO:=aA hpos;clear hk1 hp1 hpos)
    | go_in)
   go_ret2;refine ⟨HL.out.kept.trans HK1.out,?_⟩;rw [HR.out];exact ⟨_,_,_,_,_,_,rfl,HP1.out,HPO.out⟩
  | ok y=>
   obtain ⟨s1,x1⟩:=y;have hst:=HL.out.step hq;simp only at hst;have hon:=(vN T k').1 _ _ _ _ _ hq;simp only [List.length_nil] at hon;rw [hq] at CT;obtain ⟨L2,hL2⟩ : ∃L2,L++x1=L2:=⟨_,rfl⟩;have hl2:L2.length=L.length+x1.length:=by rw [<-hL2];simp
   have HPM:=aA (λ(w1:World) (vP1 vl1:Value) (hq1:bQ B w1 pb s T s1 g vC vP1 mg) (hr1:w1.ownsRow B' 36 2 vl1 (dT L nm n++x1).length (aG (dT L nm n++x1))) (hk1:bO B B' mg w w1)=>aO0 hq1 hr1 hnm hBB hk1);rw [hL2] at hst HPM;have HST:=aA hst;have hnmi:(nm:Int)<(L2.length:Int):=by omega
   have hnm0:(0:Int)<=(nm:Int):=by omega
   have hnn:n<=1000000:=by omega
   have HL2:=aA hl2;clear hq hst hL hL2 hl2;have C44:=aA (λw1 vP1 (hp:dK B w1 pb s T s1.i g vC vP1 (.map (some mg)))=>lE 44 (by decide) (by decide) (by decide) HT.out hs hp);rw [show dO 44=44 from rfl] at C44;have C41:=aA (λw1 vP1 (hp:dK B w1 pb s T s1.i g vC vP1 (.map (some mg)))=>lE 41 (by decide) (by decide) (by decide) HT.out hs hp);rw [show dO 41=41 from rfl] at C41;by_cases h44:(aE T s1.i).kind=44
   ·rw [if_pos h44,decide_eq_true h44] at C44;have HST':Hid (R=eP T k' s1 L2 (n+1)):=aA (by have:=HST.out;rw [if_pos h44] at this;exact this);clear HST C41;go_wp2_with (first
     | (go_at_call 81;refine (C44.out _ _ HQ2.out.pp).mono ?_;rintro e w3 ⟨rfl,hg3,hp3⟩;obtain ⟨left2,hb2,hBp2⟩:=HQ2.out.pp.box;have HQ3:=aA (HQ2.out.take hg3 hp3);have HR3:=aA (HR2.out.kept hg3 (hb2.apart HR2.out (by decide)));have HK3:=aA (HK2.out.grownBox hb2 hBp2 hg3);clear hg3 hp3 hb2)
     | (go_at_call 129;refine (aB CT).mono ?_;rintro e w1 ⟨hk1,vl1,vP1,rfl,hq1,hr1⟩;obtain ⟨gn,cn,rfl,cc,cf,hq2,hr2,hk2⟩:=HPM.out w1 vP1 vl1 hq1 hr1 (HL.out.kept.trans hk1);have HQ2:=aA hq2;have HR2:=aA hr2;have HK2:=aA hk2;clear hk1 hq1 hr1 hq2 hr2 hk2)
     | go_in)
    go_roundg k';case measure=>omega
    case rel=>exact ⟨by omega,s1,L2,n+1,_,HQ3.out,HR3.out,HK3.out,HST'.out,by omega,by have:=HL2.out;omega,by have:=HL2.out;omega,by omega,by omega,by omega⟩
   ·rw [if_neg h44,decide_eq_false h44] at C44;by_cases h41:(aE T s1.i).kind=41
    ·rw [if_pos h41,decide_eq_true h41] at C41;have HST':Hid (R=.ok (⟨s1.i+1,s1.vars,s1.places⟩,L2,n+1)):=aA (by have:=HST.out;rw [if_neg h44,if_pos h41] at this;exact this);clear HST;go_wp2_with (first
      | (go_at_call 81;refine (C41.out _ _ HQ3.out.pp).mono ?_;rintro e w4 ⟨rfl,hg4,hp4⟩;obtain ⟨left3,hb3,hBp3⟩:=HQ3.out.pp.box;have HQ4:=aA (HQ3.out.take hg4 hp4);have HR4:=aA (HR3.out.kept hg4 (hb3.apart HR3.out (by decide)));have HK4:=aA (HK3.out.grownBox hb3 hBp3 hg4);clear hg4 hp4 hb3)
      | (go_at_call 81;refine (C44.out _ _ HQ2.out.pp).mono ?_;rintro e w3 ⟨rfl,hg3,hp3⟩;obtain ⟨left2,hb2,hBp2⟩:=HQ2.out.pp.box;have HQ3:=aA (HQ2.out.take hg3 hp3);have HR3:=aA (HR2.out.kept hg3 (hb2.apart HR2.out (by decide)));have HK3:=aA (HK2.out.grownBox hb2 hBp2 hg3);clear hg3 hp3 hb2)
      | (go_at_call 129;refine (aB CT).mono ?_;rintro e w1 ⟨hk1,vl1,vP1,rfl,hq1,hr1⟩;obtain ⟨gn,cn,rfl,cc,cf,hq2,hr2,hk2⟩:=HPM.out w1 vP1 vl1 hq1 hr1 (HL.out.kept.trans hk1);have HQ2:=aA hq2;have HR2:=aA hr2;have HK2:=aA hk2;clear hk1 hq1 hr1 hq2 hr2 hk2)
      | go_in)
     go_ret2;refine ⟨HK4.out,?_⟩;rw [HST'.out];exact ⟨_,_,rfl,HQ4.out,by rw [uT];exact HR4.out⟩
    ·rw [if_neg h41,decide_eq_false h41] at C41;have HST':Hid (R=.error (aE T s1.i).pos):=aA (by have:=HST.out;rw [if_neg h44,if_neg h41] at this;exact this);clear HST;go_wp2_with (first
      | (go_at_call 81;refine (C41.out _ _ HQ3.out.pp).mono ?_;rintro e w4 ⟨rfl,hg4,hp4⟩;obtain ⟨left3,hb3,hBp3⟩:=HQ3.out.pp.box;have HP4:=aA hp4;have HK4:=aA (HK3.out.grownBox hb3 hBp3 hg4);clear hg4 hp4 hb3)
      | (go_at_call 81;refine (C44.out _ _ HQ2.out.pp).mono ?_;rintro e w3 ⟨rfl,hg3,hp3⟩;obtain ⟨left2,hb2,hBp2⟩:=HQ2.out.pp.box;have HQ3:=aA (HQ2.out.take hg3 hp3);have HK3:=aA (HK2.out.grownBox hb2 hBp2 hg3);clear hg3 hp3 hb2)
      | (go_at_call 129;refine (aB CT).mono ?_;rintro e w1 ⟨hk1,vl1,vP1,rfl,hq1,hr1⟩;obtain ⟨gn,cn,rfl,cc,cf,hq2,hr2,hk2⟩:=HPM.out w1 vP1 vl1 hq1 hr1 (HL.out.kept.trans hk1);have HQ2:=aA hq2;have HR2:=aA hr2;have HK2:=aA hk2;clear hk1 hq1 hr1 hq2 hr2 hk2)
      | go_in)
     go_ret2;refine ⟨HK4.out,?_⟩;rw [HST'.out];exact ⟨_,_,_,_,_,_,rfl,HP4.out,rfl⟩
theorem aO2(hT:∀i,(aE T i).kind∈gP)(hx:∀i,(aE T i).txt.size<=1000000)(hs:s.size<=3000)(hTl:T.length<=1000000):∀f,aFu B pb s T g vC mg f:=by
 intro f;induction f using Nat.strongRecOn with
 | _ f ih=>
  intro B' atom st vP vl l w h hl hBB hBw hat hf hl1 hp1 hv1;have hlt:=h.pp.lt;obtain ⟨f',rfl⟩ : ∃f',f=f'+1:=⟨f-1,by omega⟩;by_cases hk:(aE T st.i).kind=110
  ·exact aNy atom f' hT hs hTl (aO1 f' hT hs hTl λk hk=>ih k (by omega)) h hl hBB hBw hk hf hl1 hp1 hv1
  ·by_cases hk2:(aE T st.i).kind=118
   ·have ha:atom=false:=by
     cases atom
     ·rfl
     ·exact absurd hk2 (hat rfl)
    exact aNu atom f' hT hx hs hTl h hl hBB hBw hk2 ha hl1 hv1
   ·exact aNv atom f' hT hs h hk2 hk
end
theorem aO3{st:bB}(hT:∀i,(aE T i).kind∈gP)(hx:∀i,(aE T i).txt.size<=1000000)(hs:s.size<=3000)(hTl:T.length<=1000000)(h:bQ B w pb s T st g vC vP mg)(hBw:B<=w.heap.size)(hp1:st.places.length<=st.i)(hv1:st.vars.length<=st.i) :
  Calls zx 108 #[.pointer (some ⟨pb,0,none⟩)] w λe w'=>sA B w.heap.size pb w s T g vC mg (cX T (T.length+1) true st []) e w':=by
 have hlt:=h.pp.lt;obtain ⟨left,hb,_⟩:=h.pp.box;have d1:=hb.c1;by_cases hk:(aE T st.i).kind=118
 ·have HP:Hid (cX T (T.length+1) true st []=.error (aE T st.i).pos):=aA (by rw [cX,if_neg (by simp),if_pos (by rw [hk];decide)]);rw [hk,show dO 118=65 from rfl] at d1;have HQ:=aA h;clear h hb;go_enter Tryz.func108,Tryz.ntmps108;go_wp2;go_ret2;refine ⟨bO.refl _ _ _ _,?_⟩;rw [HP.out];exact ⟨_,_,_,_,_,_,rfl,HQ.out.pp,rfl⟩
 ·have hne:(dO (aE T st.i).kind == 65)=false:=by
   rw [beq_eq_false_iff_ne];exact λe=>hk (aBe _ (hT st.i) 118 (by decide) (by rw [e];rfl))
  have CT:=aA (aO2 (B:=B) (pb:=pb) (g:=g) (vC:=vC) (mg:=mg) hT hx hs hTl (T.length+1) w.heap.size true st vP (.slice none 0 0) [] w h (World.ownsRow_nil _ _ _ _) hBw (zz _) (λ_=>hk) (by omega) (Nat.zero_le _) hp1 hv1);generalize dO (aE T st.i).kind=K at *;clear h hb hk hT hx;go_enter Tryz.func108,Tryz.ntmps108;go_wp2_with (first
   | (go_at_call 129;refine (aB CT).mono ?_;intro e w1 hQ1;obtain ⟨a1,n1,c1,b1,he1⟩:=hQ1.shape;subst he1;have HQ1:=aA hQ1;clear hQ1)
   | go_in)
  go_ret2;exact HQ1.out
end Go.Proofs.YtcldkjcpofjmhaaGreatDoor
