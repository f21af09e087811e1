/- The program: the number of a variable, by its name. The program's parser in memory, and what stays while it reads. The program's parser: a variable, or what begins no term. The program's parser: a term that begins with a name. The program's parser: the parts of a name; and the contract of term at every fuel. -/
import Derived.Test.YtbddofieljiihaaGreatDoorLMemI
import Derived.StringKeys
import Derived.Test.YtbddofieljiihaaGreatDoorGEmpI
namespace Go.Proofs.YtbddofieljiihaaGreatDoor
open Go.RowKit Go.WideMaps
set_option maxRecDepth 100000
def kU (v:Value):Option (DataW Unit×List MemPlace):=
 match v with
 | .int .i64 x=>some (.lit (.int .i64 x),[])
 | _=>none
theorem aDf {v:Value} {x:Int} {ps:List MemPlace} (h:kU v=some (.lit (.int .i64 x),ps)):v=.int .i64 x:=by
 unfold kU at h
 split at h
 ·simp at h;rw [h.1]
 ·simp at h
theorem aDg {s t:ByteArray} (h:s.data.toList=t.data.toList):s=t:=by
 obtain ⟨⟨x⟩⟩:=s
 obtain ⟨⟨y⟩⟩:=t
 simp at h
 rw [h]
structure mZ (D:DataW Unit) (sn:List ByteArray):Prop where
 tidy:Maps.Tidy D
 size:Maps.size D=sn.length
 old:∀x,0≤jA sn x→Maps.has D (.string x.data.toList)=true∧∀z,D.atKey (.string x.data.toList) z=.lit (.int .i64 (jA sn x))
 new:∀x,jA sn x < 0→Maps.has D (.string x.data.toList)=false
theorem mZ.start:mZ (.map []) []:=⟨⟨[],rfl,by simp⟩,rfl,fun x h=>by rw [aPp] at h;omega,fun x _=>rfl⟩
theorem mZ.put {D:DataW Unit} {sn:List ByteArray} {x:ByteArray} (h:mZ D sn) (hx:jA sn x < 0):mZ (D.put (.string x.data.toList) (.lit (.int .i64 sn.length))) (sn++[x]):=by
 have hkey:WideAt.IsKeyLit (.string x.data.toList):=trivial
 refine ⟨h.tidy.put hkey _,?_,fun y hy=>?_,fun y hy=>?_⟩
 ·rw [Maps.size_put h.tidy,h.new x hx,h.size];simp
 ·rw [aF6] at hy ⊢
  by_cases he:x=y
  ·subst he
   rw [if_pos rfl]
   exact ⟨Maps.has_put_same h.tidy.isMap hkey _,fun z=>Maps.atKey_put_same h.tidy.isMap hkey _ _⟩
  ·rw [if_neg he] at hy ⊢
   have hne:(Lit.string y.data.toList)≠.string x.data.toList:=fun e=>he (aDg (by simpa using e.symm))
   have ho:=h.old y hy
   exact ⟨by rw [Maps.has_put_other hne];exact ho.1,fun z=>by rw [Maps.atKey_put_other hne];exact ho.2 z⟩
 ·rw [aF6] at hy
  by_cases he:x=y
  ·rw [if_pos he] at hy;omega
  ·rw [if_neg he] at hy
   have hne:(Lit.string y.data.toList)≠.string x.data.toList:=fun e=>he (aDg (by simpa using e.symm))
   rw [Maps.has_put_other hne]
   exact h.new y hy
set_option maxHeartbeats 1000000 in
theorem aLw (g:Nat) (D:DataW Unit) (sn:List ByteArray) (x:ByteArray) (w:World) (hown:w.ownsMap Tryz.prog 9 kU g sn.length D) (hN:mZ D sn) (hf:sn.length≤1000000) (hx:x.size≤1000000) :
  Calls Tryz.prog 140 #[.map (some g),.string x] w fun e w'=>∃D':DataW Unit,e=.returned (.int .i64 (kF sn x))∧w'.ownsMap Tryz.prog 9 kU g (nH sn x).length D'∧mZ D' (nH sn x)∧w.grownBy w' (some g):=by
 have hkey:keyOf Tryz.prog 9 (.string x)=some (.string x.data.toList):=keyOf_string_mk Tryz.underlying9 (by unfold maxLen;omega)
 obtain ⟨v,ps,hrun,hv⟩:=hown.look_ok (Maps.string_keyed Tryz.underlying9) Tryz.underlying64 (Tryz.zeroValue3 _) (zd:=.lit (.int .i64 0)) (zp:=[]) rfl hkey
 by_cases hp:jA sn x < 0
 ·have HST:Hid (nH sn x=sn++[x]∧kF sn x=(sn.length:Int)):=aA (by unfold nH kF;rw [if_pos hp,if_pos hp];exact ⟨rfl,rfl⟩)
  have hhas:=hN.new x hp
  rw [hhas] at hrun
  rw [wJ hN.tidy.isMap hhas] at hv
  have hvv:=aDf hv
  subst hvv
  have HN:=aA (hN.put hp)
  have HKEY:=aA hkey
  have hlen:=hN.size
  clear hv hhas hN hkey hp
  go_enter Tryz.func140,Tryz.ntmps140
  go_wp2_with (first
   | (at_len;refine wpList_len_own _ rfl _ 64 rfl 9 3 Tryz.underlying64 _ g sn.length D rfl hown ?_)
   | (at_mapUpdate;refine wpList_mapUpdate_own _ rfl _ _ _ 64 rfl 9 3 (Maps.string_keyed Tryz.underlying9) Tryz.underlying64 kU g sn.length D rfl hown (by unfold maxLen;omega) _ _ (.string x.data.toList) rfl rfl (aB HKEY) (.lit (.int .i64 sn.length)) [] ?_ ?_)
   | go_in)
  case refine_1=>rfl
  intro w1 hown1 hg1
  have HO:=aA hown1
  have HG:=aA hg1
  clear hown1 hg1
  go_wp2
  go_ret
  rw [HST.out.1,HST.out.2]
  exact ⟨_,rfl,by rw [List.length_append];exact HO.out,HN.out,HG.out⟩
 ·have HST:Hid (nH sn x=sn∧kF sn x=jA sn x):=aA (by unfold nH kF;rw [if_neg hp,if_neg hp];exact ⟨rfl,rfl⟩)
  have ho:=hN.old x (by omega)
  rw [ho.1] at hrun
  rw [ho.2] at hv
  have hvv:=aDf hv
  subst hvv
  have HN:=aA hN
  have HOW:=aA hown
  clear hv ho hN hkey hp hown
  go_enter Tryz.func140,Tryz.ntmps140
  go_wp2
  go_ret
  rw [HST.out.1,HST.out.2]
  exact ⟨D,rfl,HOW.out,HN.out,⟨rfl,rfl,rfl,Nat.le_refl _,fun _ _ _=>rfl⟩⟩
structure bH (B B' mg:Nat) (w w':World):Prop where
 os:w'.os=w.os
 tape:w'.tape=w.tape
 output:w'.output=w.output
 size:w.heap.size≤w'.heap.size
 block:∀k,k < w.heap.size→(k < B∨(k≠mg∧∀cs T fr,w.heap[k]?=some (.cells cs T fr)→T≠3∧T≠66∧(T=106→k < B')))→w'.heap[k]?=w.heap[k]?
theorem bH.refl (B B' mg:Nat) (w:World):bH B B' mg w w:=⟨rfl,rfl,rfl,Nat.le_refl _,fun _ _ _=>rfl⟩
theorem bH.trans {B B' mg:Nat} {a b c:World} (h:bH B B' mg a b) (k:bH B B' mg b c):bH B B' mg a c:=
 ⟨k.os.trans h.os,k.tape.trans h.tape,k.output.trans h.output,Nat.le_trans h.size k.size,fun i hi hc=>by
  have e:=h.block i hi hc
  rw [k.block i (Nat.lt_of_lt_of_le hi h.size) (by rw [e];exact hc),e]⟩
theorem bH.of_below {B B' mg:Nat} {w w':World} (h:Below w.heap.size w w'):bH B B' mg w w':=⟨h.os,h.tape,h.output,h.size,fun k hk _=>h.block k hk⟩
theorem bH.below {B B' mg:Nat} {w w':World} (h:bH B B' mg w w') (hB:B≤w.heap.size):Below B w w':=⟨h.os,h.tape,h.output,h.size,fun k hk=>h.block k (by omega) (Or.inl hk)⟩
theorem bH.mono {B B1 B2 mg:Nat} {w w':World} (h:bH B B2 mg w w') (hB:B1≤B2):bH B B1 mg w w':=
 ⟨h.os,h.tape,h.output,h.size,fun k hk hc=>h.block k hk (hc.imp id fun ⟨h0,hc⟩=>⟨h0,fun cs T fr he=>by
  obtain ⟨h1,h2,h3⟩:=hc cs T fr he
  exact ⟨h1,h2,fun e=>Nat.lt_of_lt_of_le (h3 e) hB⟩⟩)⟩
theorem bH.grownBox {B B' mg:Nat} {a w w':World} {pb:Nat} {left:Value} {k x:Int} {wd:ByteArray} {vC vP vM:Value} (h:bH B B' mg a w) (hb:bF w pb left k x wd vC vP vM) (hp:B≤pb) (hg:w.grownBy w' (some pb)):bH B B' mg a w':=by
 refine h.trans ⟨hg.os,hg.tape,hg.output,hg.size,fun k hk hc=>hg.block k hk ?_⟩
 intro e
 simp at e
 subst e
 rcases hc with hc | ⟨_,hc⟩
 ·omega
 ·exact (hc _ _ _ hb).2.1 rfl
theorem bH.grownMap {B B' mg:Nat} {a w w':World} (h:bH B B' mg a w) (hm:B≤mg) (hg:w.grownBy w' (some mg)):bH B B' mg a w':=by
 refine h.trans ⟨hg.os,hg.tape,hg.output,hg.size,fun k hk hc=>hg.block k hk ?_⟩
 intro e
 simp at e
 subst e
 rcases hc with hc | ⟨hc,_⟩
 ·omega
 ·exact hc rfl
theorem bH.grownRow {B B' mg B0:Nat} {a w w':World} {e:TypeId} {size:Nat} {v:Value} {n:Nat} {xs:List Value} (h:bH B B' mg a w) (ho:w.ownsRow B0 e size v n xs) (hB:B≤B0) (he:e=3∨e=106∧B'≤B0) (hg:w.grownBy w' v.ownBlock):bH B B' mg a w':=by
 refine h.trans ⟨hg.os,hg.tape,hg.output,hg.size,fun k hk hc=>hg.block k hk ?_⟩
 intro e'
 obtain ⟨_,⟨rfl,_⟩ | ⟨g,cap,cur,rfl,hb,hh,_⟩⟩:=ho
 ·simp [Value.ownBlock] at e'
 ·simp [Value.ownBlock] at e'
  subst e'
  rcases hc with hc | ⟨_,hc⟩
  ·omega
  ·obtain ⟨h1,_,h4⟩:=hc _ _ _ hh
   rcases he with rfl | ⟨rfl,hx⟩
   ·exact h1 rfl
   ·have:=h4 rfl
    omega
theorem bH.own {B B' mg B0:Nat} {w w':World} {e:TypeId} {size:Nat} {v:Value} {n:Nat} {xs:List Value} (h:bH B B' mg w w') (ho:w.ownsRow B0 e size v n xs) (he:e≠3∧e≠66) (hn:e=106→w.heap.size≤B') (hmg:v.ownBlock≠some mg):w'.ownsRow B0 e size v n xs:=by
 obtain ⟨h1,⟨rfl,h2⟩ | ⟨g,cap,cur,rfl,hb,hh,hc,hm',hz,ht⟩⟩:=ho
 ·exact ⟨h1,Or.inl ⟨rfl,h2⟩⟩
 ·have hlt:=(Array.getElem?_eq_some_iff.1 hh).1
  refine ⟨h1,Or.inr ⟨g,cap,cur,rfl,hb,?_,hc,hm',hz,ht⟩⟩
  rw [h.block g hlt (Or.inr ⟨fun e'=>hmg (by rw [e'];rfl),fun cs T fr hx=>?_⟩)]
  ·exact hh
  ·rw [hh] at hx
   simp at hx
   obtain ⟨_,rfl,_⟩:=hx
   exact ⟨he.1,he.2,fun e'=>by have:=hn e';omega⟩
theorem bF.apart {w:World} {pb:Nat} {left:Value} {k a:Int} {wd:ByteArray} {vC vP vM:Value} (h:bF w pb left k a wd vC vP vM) {B:Nat} {e:TypeId} {size:Nat} {v:Value} {n:Nat} {xs:List Value} (ho:w.ownsRow B e size v n xs) (he:e≠66):v.ownBlock=none∨v.ownBlock≠some pb:=by
 obtain ⟨_,⟨rfl,_⟩ | ⟨g,cap,cur,rfl,_,hh,_⟩⟩:=ho
 ·exact Or.inl rfl
 ·right
  intro hx
  simp [Value.ownBlock] at hx
  subst hx
  unfold bF at h
  rw [hh] at h
  simp at h
  exact he h.2
theorem pQ {w:World} {B:Nat} {e:TypeId} {size:Nat} {v:Value} {n mg k:Nat} {xs:List Value} {D:DataW Unit} (h:w.ownsRow B e size v n xs) (hm:w.ownsMap Tryz.prog 9 kU mg k D):v.ownBlock≠some mg:=by
 obtain ⟨es,cl,hh,_⟩:=hm
 intro e'
 obtain ⟨_,⟨rfl,_⟩ | ⟨g,cap,cur,rfl,_,hh',_⟩⟩:=h
 ·simp [Value.ownBlock] at e'
 ·simp [Value.ownBlock] at e'
  subst e'
  rw [hh] at hh'
  cases hh'
theorem vX {w:World} {pb:Nat} {left:Value} {k a:Int} {wd:ByteArray} {vC vP vM:Value} {mg n:Nat} {D:DataW Unit} (h:bF w pb left k a wd vC vP vM) (hm:w.ownsMap Tryz.prog 9 kU mg n D):pb≠mg:=by
 obtain ⟨es,cl,hh,_⟩:=hm
 rintro rfl
 unfold bF at h
 rw [hh] at h
 cases h
structure bJ (B:Nat) (w:World) (pb:Nat) (s:ByteArray) (T:List Tk) (st:aV) (g:Nat) (vC vP:Value) (mg:Nat):Prop where
 pp:cL B w pb s T st.i g vC vP (.map (some mg))
 places:w.ownsRow B 3 1 vP st.places.length (lH st.places)
 map:∃D,w.ownsMap Tryz.prog 9 kU mg st.vars.length D∧mZ D st.vars
 mhigh:B≤mg
section
variable {B:Nat} {w w':World} {pb:Nat} {s:ByteArray} {T:List Tk} {i g:Nat} {vC vP vM:Value}
theorem cL.below (h:cL B w pb s T i g vC vP vM) (k:Below w.heap.size w w'):cL B w' pb s T i g vC vP vM:=by
 obtain ⟨q,j,m,c,hP⟩:=h
 exact ⟨q,j,m,c,hP.sc.below k,hP.lt,hP.on⟩
theorem cL.box (h:cL B w pb s T i g vC vP vM):∃left,bF w pb left (cU (aD T i).kind) (aD T i).pos (aD T i).txt vC vP vM∧B≤pb:=by
 obtain ⟨q,j,m,c,hP⟩:=h
 exact ⟨_,hP.sc.box,hP.sc.high⟩
theorem cL.lt (h:cL B w pb s T i g vC vP vM):i < T.length:=by
 obtain ⟨q,j,m,c,hP⟩:=h
 exact hP.lt
theorem cL.far (h:cL B w pb s T i g vC vP vM) {row:Option Nat} (hg:w.grownBy w' row) (h1:row≠some pb) (h2:row≠some g):cL B w' pb s T i g vC vP vM:=by
 obtain ⟨q,j,m,c,hP⟩:=h
 refine ⟨q,j,m,c,⟨?_,hP.sc.high,hP.sc.row.kept hg (Or.inr fun e=>h2 (by rw [←e];rfl)),hP.sc.len,hP.sc.drop,hP.sc.le⟩,hP.lt,hP.on⟩
 have hb:=hP.sc.box
 have hlt:=hb.lt
 unfold bF at hb ⊢
 rw [hg.block pb hlt (fun e=>h1 e.symm)]
 exact hb
theorem cL.glyph (h:cL B w pb s T i g vC vP vM):∃cs fr,w.heap[g]?=some (.cells cs 128 fr):=by
 obtain ⟨q,j,m,c,hP⟩:=h
 obtain ⟨_,⟨e,_⟩ | ⟨g',cap,cur,e,_,hh,_⟩⟩:=hP.sc.row
 ·simp at e
 ·simp at e
  obtain ⟨rfl,_⟩:=e
  exact ⟨_,_,hh⟩
end
section
variable {B:Nat} {w w' w2:World} {pb:Nat} {s:ByteArray} {T:List Tk} {st:aV} {g mg:Nat} {vC vP:Value}
theorem bJ.below (h:bJ B w pb s T st g vC vP mg) (k:Below w.heap.size w w'):bJ B w' pb s T st g vC vP mg:=by
 obtain ⟨D,h1,h2⟩:=h.map
 exact ⟨h.pp.below k,aZ h.places k (Nat.le_refl _),⟨D,h1.kept (kX k none) (by simp),h2⟩,h.mhigh⟩
theorem bJ.take (h:bJ B w pb s T st g vC vP mg) {i':Nat} (hg:w.grownBy w' (some pb)) (hp:cL B w' pb s T i' g vC vP (.map (some mg))):bJ B w' pb s T ⟨i',st.vars,st.places⟩ g vC vP mg:=by
 obtain ⟨D,h1,h2⟩:=h.map
 obtain ⟨left,hb,_⟩:=h.pp.box
 exact ⟨hp,h.places.kept hg (hb.apart h.places (by decide)),⟨D,h1.kept hg (by simpa using fun e=>vX hb h1 e.symm),h2⟩,h.mhigh⟩
theorem cL.row_apart {i:Nat} {vM:Value} (h:cL B w pb s T i g vC vP vM) {B0:Nat} {e:TypeId} {size:Nat} {v:Value} {n:Nat} {xs:List Value} (ho:w.ownsRow B0 e size v n xs) (he:e≠66∧e≠128):v.ownBlock≠some pb∧v.ownBlock≠some g:=by
 obtain ⟨left,hb,_⟩:=h.box
 obtain ⟨cs,fr,hg⟩:=h.glyph
 constructor
 ·rcases hb.apart ho he.1 with e | e
  ·rw [e];simp
  ·exact e
 ·intro e'
  obtain ⟨_,⟨rfl,_⟩ | ⟨g',cap,cur,rfl,_,hh,_⟩⟩:=ho
  ·simp [Value.ownBlock] at e'
  ·simp [Value.ownBlock] at e'
   subst e'
   rw [hh] at hg
   simp at hg
   exact he.2 hg.2.1
theorem bJ.far (h:bJ B w pb s T st g vC vP mg) {B0:Nat} {e:TypeId} {size:Nat} {v:Value} {n:Nat} {xs:List Value} (ho:w.ownsRow B0 e size v n xs) (he:e≠66∧e≠128∧e≠3) (hg:w.grownBy w' v.ownBlock):bJ B w' pb s T st g vC vP mg:=by
 obtain ⟨D,h1,h2⟩:=h.map
 obtain ⟨a1,a2⟩:=h.pp.row_apart ho ⟨he.1,he.2.1⟩
 exact ⟨h.pp.far hg a1 a2,h.places.kept hg (eV h.places ho he.2.2.symm),⟨D,h1.kept hg (fun e=>pQ ho h1 e.symm),h2⟩,h.mhigh⟩
theorem bJ.var (h:bJ B w pb s T st g vC vP mg) {sn:List ByteArray} {D:DataW Unit} (hg:w.grownBy w' (some mg)) (hm:w'.ownsMap Tryz.prog 9 kU mg sn.length D) (hN:mZ D sn):bJ B w' pb s T ⟨st.i,sn,st.places⟩ g vC vP mg:=by
 obtain ⟨D0,h1,h2⟩:=h.map
 obtain ⟨left,hb,_⟩:=h.pp.box
 obtain ⟨cs,fr,hgl⟩:=h.pp.glyph
 refine ⟨h.pp.far hg (by simpa using fun e=>vX hb h1 e.symm) ?_,h.places.kept hg (Or.inr (pQ h.places h1)),⟨D,hm,hN⟩,h.mhigh⟩
 intro e
 simp at e
 subst e
 obtain ⟨es,cl,hh,_⟩:=h1
 rw [hgl] at hh
 cases hh
theorem bJ.place (h:bJ B w pb s T st g vC vP mg) {v:Value} {p:Pl} (ho:w2.ownsRow B 3 1 v (st.places.length+1) (lH st.places++[.int .i64 p.2.2.2])) (hg:w.grownBy w2 vP.ownBlock) :
  w2.cell? ⟨pb,5,none⟩=some vP∧w2.frozen? ⟨pb,5,none⟩=false∧bJ B (w2.setCell ⟨pb,5,none⟩ v) pb s T ⟨st.i,st.vars,st.places++[p]⟩ g vC v mg:=by
 obtain ⟨D,h1,h2⟩:=h.map
 obtain ⟨a1,a2⟩:=h.pp.row_apart h.places (by decide)
 obtain ⟨q,j,m,c,hP⟩:=h.pp.far hg a1 a2
 have hb:=hP.sc.box
 have h1':=h1.kept hg (fun e=>pQ h.places h1 e.symm)
 refine ⟨hb.c5,hb.soft 5,⟨⟨q,j,m,c,⟨heap_setCell_same w2 pb 5 _ _ _ hb,hP.sc.high,hb.row hP.sc.row (by decide) _ _,hP.sc.len,hP.sc.drop,hP.sc.le⟩,hP.lt,hP.on⟩,hb.row ?_ (by decide) _ _,⟨D,h1'.setCell (fun e=>vX hb h1' e.symm) _,h2⟩,h.mhigh⟩⟩
 rw [aR6,List.length_append]
 exact ho
end
def pR (B B' pb:Nat) (w:World) (s:ByteArray) (T:List Tk) (g:Nat) (vC:Value) (mg:Nat) (r:Except Nat (aV×List Nd)) (e:Ending) (w':World):Prop:=
 bH B B' mg w w'∧
  match r with
  | .ok (s1,l1)=>∃vl vP,e=.returned (.tuple #[vl,.bool true])∧bJ B w' pb s T s1 g vC vP mg∧w'.ownsRow B' 106 2 vl l1.length (aP l1)
  | .error p=>∃a n c i vP vM,e=.returned (.tuple #[.slice a n c,.bool false])∧cL B w' pb s T i g vC vP vM∧(aD T i).pos=p
def aDh (B pb:Nat) (s:ByteArray) (T:List Tk) (g:Nat) (vC:Value) (mg f:Nat):Prop:=
 ∀(B':Nat) (atom:Bool) (st:aV) (vP vl:Value) (l:List Nd) (w:World),bJ B w pb s T st g vC vP mg→w.ownsRow B' 106 2 vl l.length (aP l)→B≤B'→B'≤w.heap.size→(atom=true→(aD T st.i).kind≠118)→T.length < st.i+f→l.length≤st.i→st.places.length≤st.i→st.vars.length≤st.i→
  Calls Tryz.prog 125 #[.pointer (some ⟨pb,0,none⟩),vl] w fun e w'=>pR B B' pb w s T g vC mg (bZ T f atom st l) e w'
section
variable {B B' pb:Nat} {s:ByteArray} {T:List Tk} {g:Nat} {vC vP vl:Value} {mg:Nat} {st:aV} {l:List Nd} {w:World}
theorem aLx {w1 w2 w3:World} {D:DataW Unit} {sn:List ByteArray} {v3:Value} {x:Int} {X:Obj} {st1:aV} (h:bJ B w1 pb s T st1 g vC vP mg) (hl:w1.ownsRow B' 106 2 vl l.length (aP l)) (hBB:B≤B') (hk:bH B B' mg w w1)
  (hg:w1.grownBy w2 (some mg)) (hm:w2.ownsMap Tryz.prog 9 kU mg sn.length D) (hN:mZ D sn) (ho:w3.ownsRow B' 106 2 v3 (l.length+1) (aP l++[.string ⟨#[]⟩,.int .i64 x])) (hg3:(w2.alloc X).grownBy w3 vl.ownBlock) :
  bJ B w3 pb s T ⟨st1.i,sn,st1.places⟩ g vC vP mg∧w3.ownsRow B' 106 2 v3 (l++[((⟨#[]⟩ : ByteArray),x)]).length (aP (l++[((⟨#[]⟩ : ByteArray),x)]))∧bH B B' mg w w3:=by
 obtain ⟨D0,m1,_⟩:=h.map
 have h2:=h.var hg hm hN
 have hl2:=hl.kept hg (Or.inr (pQ hl m1))
 have hA:=(Below.refl w2.heap.size w2).alloc (Nat.le_refl _) X
 refine ⟨(h2.below hA).far (aZ hl2 hA (Nat.le_refl _)) (by decide) hg3,by rw [tB,List.length_append];exact ho,?_⟩
 exact ((hk.grownMap h.mhigh hg).trans (.of_below hA)).grownRow (aZ hl2 hA (Nat.le_refl _)) hBB (Or.inr ⟨rfl,Nat.le_refl _⟩) hg3
set_option maxHeartbeats 3000000 in
theorem aLy (atom:Bool) (f:Nat) (hT:∀i,(aD T i).kind∈fK) (hx:∀i,(aD T i).txt.size≤1000000) (hs:s.size≤3000) (hTl:T.length≤1000000) (h:bJ B w pb s T st g vC vP mg) (hl:w.ownsRow B' 106 2 vl l.length (aP l)) (hBB:B≤B') (hBw:B'≤w.heap.size) (hk:(aD T st.i).kind=118) (hat:atom=false) (hl1:l.length≤st.i) (hv1:st.vars.length≤st.i) :
  Calls Tryz.prog 125 #[.pointer (some ⟨pb,0,none⟩),vl] w fun e w'=>pR B B' pb w s T g vC mg (bZ T (f+1) atom st l) e w':=by
 subst hat
 have hlt:=h.pp.lt
 obtain ⟨iN,hN,hN0,hN1,hN2⟩:=info_parts pL
 obtain ⟨left,hb,_⟩:=h.pp.box
 obtain ⟨la,lc,rfl⟩:=aR hl
 rw [hk,show cU 118=65 from rfl] at hb
 have d1:=hb.c1
 have d2:=hb.c2
 have d3:=hb.c3
 have CT:=aA (fun o=>kB 118 (by decide) (by decide) (by decide) hT hs (h.pp.below ((Below.refl w.heap.size w).alloc (Nat.le_refl _) o)))
 rw [hk,show cU 118=65 from rfl] at CT
 simp only [if_true,decide_true] at CT
 have HP:Hid (bZ T (f+1) false st l=.ok (⟨st.i+1,nH st.vars (aD T st.i).txt,st.places⟩,l++[(⟨#[]⟩,kF st.vars (aD T st.i).txt)])):=aA (by rw [bZ,if_pos ⟨hk,rfl⟩])
 obtain ⟨tx,htx⟩ : ∃tx,(aD T st.i).txt=tx:=⟨_,rfl⟩
 obtain ⟨tp,htp⟩ : ∃tp,(aD T st.i).pos=tp:=⟨_,rfl⟩
 have hxs:=hx st.i
 rw [htx] at d3 HP hxs
 rw [htp] at d2
 have HQ:=aA h
 have HL:=aA hl
 clear h hl hb hk hx hT htx htp
 go_enter Tryz.func125,Tryz.ntmps125
 go_upto_region 3 with (first
  | (go_at_call 74;refine (aB CT _).mono ?_;rintro e w1 ⟨rfl,hg1,hp1⟩;have hq1:=(HQ.out.below ((Below.refl w.heap.size w).alloc (Nat.le_refl _) _)).take hg1 hp1;have hx1:=hg1.block w.heap.size (by simp) (by obtain ⟨left,hb,_⟩:=HQ.out.pp.box;have:=hb.lt;simp;omega);have HQ1:=aA hq1;have HX1:=aA hx1;have HG1:=aA hg1;clear hg1 hp1 hq1 hx1)
  | go_in)
 have hx1:w1.heap[w.heap.size]?=some (.cells #[.int .i32 65,.int .i64 tp,.string tx] 59):=HX1.out.trans (by show (w.heap.push _)[w.heap.size]?=_;simp)
 have t2:w1.cell? ⟨w.heap.size,2,none⟩=some (.string tx):=by unfold World.cell?;rw [hx1];rfl
 obtain ⟨left1,hb1,_⟩:=HQ1.out.pp.box
 have m6:=hb1.c6
 have hA:=(Below.refl w.heap.size w).alloc (Nat.le_refl _) (.cells #[.int .i32 65,.int .i64 tp,.string tx] 59)
 obtain ⟨leftA,hbA,hBp⟩:=(HQ.out.below hA).pp.box
 have HK1:Hid (bH B B' mg w w1):=aA ((bH.of_below hA).grownBox hbA hBp HG1.out)
 have HL1:=aA ((aZ HL.out hA (Nat.le_refl _)).kept HG1.out (hbA.apart (aZ HL.out hA (Nat.le_refl _)) (by decide)))
 obtain ⟨D,hmp,hmn⟩:=HQ1.out.map
 have CN:=aA (aLw mg D st.vars tx w1.drew hmp hmn (by omega) hxs)
 have hz1:=HK1.out.size
 have HMP:=aA hmp
 clear hmp hmn hx1 hb1 hbA hA HQ HL HX1 HG1 CT d1 d2 d3
 go_region_law (first
  | (refine aRa (by rfl) 140 _ _ (by rfl) (enters_of Tryz.func140 (by kernel_rfl) rfl) _ (by rfl) (aB CN) ?_;rintro e w2 ⟨D2,rfl,hm2,hn2,hg2⟩;refine ⟨_,rfl,?_⟩;have HM2:=aA hm2;have HN2:=aA hn2;have HG2:=aA hg2;have HL2:=aA (World.ownsRow.kept (w:=w1.drew) HL1.out hg2 (Or.inr (pQ HL1.out HMP.out)));have hz2:=hg2.size;clear hm2 hn2 hg2)
  | (refine mI ?g1 (.tmp 13) (.tmp 22) 72 106 ?g2 (.agg #[.string ⟨#[]⟩,.int .i64 0]) 2 24 Tryz.underlying72 pL ?g3 ?g4 ?g5 B' _ l.length (aP l) ?g6 (HL2.out.alloc _) ?g7 ?g8 w2.heap.size 1 [.string ⟨#[]⟩,.int .i64 (kF st.vars tx)] ?g9 ?g10 (iV w2 _ _ 106 w2.heap.size rfl) (yH _ _) ?_;(case g1=>rfl);(case g2=>rfl);(case g3=>rfl);(case g4=>decide);(case g5=>decide);(case g6=>rfl);(case g7=>omega);(case g8=>(simp at hz2 ⊢;omega));(case g9=>rfl);(case g10=>rfl);intro v3 w3 ho3 hg3;have hput:=aLx (w1:=w1.drew) (HQ1.out.below (aJ (w1:=w1.drew) ⟨1,rfl⟩)) HL1.out hBB (HK1.out.trans (.of_below (aJ (w1:=w1.drew) ⟨1,rfl⟩))) HG2.out HM2.out HN2.out ho3 hg3;have HPUT:=aA hput;obtain ⟨va3,vc3,rfl⟩:=aR ho3;clear ho3 hg3 hput))
 all_goals
  go_wp2
  go_ret2
  refine ⟨HPUT.out.2.2,?_⟩
  rw [HP.out]
  exact ⟨_,_,rfl,HPUT.out.1,HPUT.out.2.1⟩
set_option maxHeartbeats 3000000 in
theorem aLz (atom:Bool) (f:Nat) (hT:∀i,(aD T i).kind∈fK) (hs:s.size≤3000) (h:bJ B w pb s T st g vC vP mg) (hk:(aD T st.i).kind≠118) (hk2:(aD T st.i).kind≠110) :
  Calls Tryz.prog 125 #[.pointer (some ⟨pb,0,none⟩),vl] w fun e w'=>pR B B' pb w s T g vC mg (bZ T (f+1) atom st l) e w':=by
 obtain ⟨left,hb,_⟩:=h.pp.box
 have d1:=hb.c1
 have d2:=hb.c2
 have d3:=hb.c3
 have CT:=aA (fun o=>kB 118 (by decide) (by decide) (by decide) hT hs (h.pp.below ((Below.refl w.heap.size w).alloc (Nat.le_refl _) o)))
 rw [show cU 118=65 from rfl,if_neg hk,decide_eq_false hk] at CT
 have CU:=aA (fun w1 (hp:cL B w1 pb s T st.i g vC vP (.map (some mg)))=>kB 110 (by decide) (by decide) (by decide) hT hs hp)
 rw [show cU 110=97 from rfl,if_neg hk2,decide_eq_false hk2] at CU
 have HP:Hid (bZ T (f+1) atom st l=.error (aD T st.i).pos):=aA (by rw [bZ,if_neg (fun e=>hk e.1),if_pos hk2])
 have HQ:=aA h
 clear h hb hT hk hk2
 generalize cU (aD T st.i).kind=K at *
 generalize (aD T st.i).txt=tx at *
 obtain ⟨tp,htp⟩ : ∃tp,(aD T st.i).pos=tp:=⟨_,rfl⟩
 rw [htp] at d2 HP
 have HTP:=aA htp
 clear htp
 go_enter Tryz.func125,Tryz.ntmps125
 go_wp2_with (first
  | (go_at_call 74;refine (CU.out _ HP1.out).mono ?_;rintro e w2 ⟨rfl,hg2,hp2⟩;have HG2:=aA hg2;have HP2:=aA hp2;clear hg2 hp2)
  | (go_at_call 74;refine (aB CT _).mono ?_;rintro e w1 ⟨rfl,hg1,hp1⟩;have HG1:=aA hg1;have HP1:=aA hp1;clear hg1 hp1)
  | go_in)
 go_ret2
 have hA:=(Below.refl w.heap.size w).alloc (Nat.le_refl _) (.cells #[.int .i32 K,.int .i64 tp,.string tx] 59)
 obtain ⟨leftA,hbA,hBp⟩:=(HQ.out.below hA).pp.box
 obtain ⟨left1,hb1,_⟩:=HP1.out.box
 refine ⟨((bH.of_below hA).grownBox hbA hBp HG1.out).grownBox hb1 hBp HG2.out,?_⟩
 rw [HP.out]
 exact ⟨_,_,_,_,_,_,rfl,HP2.out,HTP.out⟩
end
def aDi (B B' pb:Nat) (w:World) (s:ByteArray) (T:List Tk) (g:Nat) (vC:Value) (mg nm:Nat) (r:Except Nat (aV×List Nd×Nat)) (e:Ending) (w':World):Prop:=
 bH B B' mg w w'∧
  match r with
  | .ok (s1,l1,n)=>∃vl vP,e=.returned (.tuple #[vl,.bool true])∧bJ B w' pb s T s1 g vC vP mg∧w'.ownsRow B' 106 2 vl (dF l1 nm n).length (aP (dF l1 nm n))
  | .error p=>∃a n c i vP vM,e=.returned (.tuple #[.slice a n c,.bool false])∧cL B w' pb s T i g vC vP vM∧(aD T i).pos=p
def aDj (B pb:Nat) (s:ByteArray) (T:List Tk) (g:Nat) (vC:Value) (mg f:Nat):Prop:=
 ∀(B':Nat) (st:aV) (vP vl:Value) (l:List Nd) (x:ByteArray) (w:World),bJ B w pb s T ⟨st.i+1,st.vars,st.places⟩ g vC vP mg→w.ownsRow B' 106 2 vl (l.length+1) (aP (l++[(x,0)]))→B≤B'→B'≤w.heap.size→T.length < st.i+f→l.length+1≤st.i→st.places.length≤st.i→st.vars.length≤st.i→
  Calls Tryz.prog 141 #[.pointer (some ⟨pb,0,none⟩),vl] w fun e w'=>aDi B B' pb w s T g vC mg l.length (dN T f st (l++[(x,0)]) 0) e w'
theorem bJ.parts {B:Nat} {w:World} {pb:Nat} {s:ByteArray} {T:List Tk} {st:aV} {g:Nat} {vC vP:Value} {mg:Nat} (h:bJ B w pb s T st g vC vP mg) (k n:Nat):bJ B w pb s T ⟨st.i,st.vars,nV st.places k n⟩ g vC vP mg:=
 ⟨h.pp,by rw [aR7,aR8];exact h.places,h.map,h.mhigh⟩
theorem bH.boxSet {B B' mg:Nat} {a w:World} {pb:Nat} {left:Value} {k x:Int} {wd:ByteArray} {vC vP vM:Value} (h:bH B B' mg a w) (hb:bF w pb left k x wd vC vP vM) (hp:B≤pb) (j:Nat) (u:Value):bH B B' mg a (w.setCell ⟨pb,j,none⟩ u):=h.grownBox hb hp (cB _ _ _)
section
variable {B B' pb:Nat} {s:ByteArray} {T:List Tk} {g:Nat} {vC vP vl:Value} {mg:Nat} {st:aV} {l:List Nd} {w:World}
theorem aM0 {w2 w3:World} {st2:aV} {v:Value} {p:Pl} {tb:Nat} {o:Obj} {X:Obj} (h:bJ B w2 pb s T st2 g vC vP mg) (hl:w2.ownsRow B' 106 2 vl l.length (aP l)) (hk:bH B B' mg w w2) (ht:w2.heap[tb]?=some o) (hto:∃cs,o=.cells cs 59) (ho:w3.ownsRow B 3 1 v (st2.places.length+1) (lH st2.places++[.int .i64 p.2.2.2])) (hg:(w2.alloc X).grownBy w3 vP.ownBlock) :
  w3.cell? ⟨pb,5,none⟩=some vP∧w3.frozen? ⟨pb,5,none⟩=false∧bJ B (w3.setCell ⟨pb,5,none⟩ v) pb s T ⟨st2.i,st2.vars,st2.places++[p]⟩ g vC v mg∧(w3.setCell ⟨pb,5,none⟩ v).ownsRow B' 106 2 vl l.length (aP l)∧bH B B' mg w (w3.setCell ⟨pb,5,none⟩ v)∧(w3.setCell ⟨pb,5,none⟩ v).heap[tb]?=some o:=by
 have hA:=(Below.refl w2.heap.size w2).alloc (Nat.le_refl _) X
 have hQA:=h.below hA
 obtain ⟨c5,f5,hQ⟩:=hQA.place (p:=p) ho hg
 obtain ⟨a1,a2⟩:=hQA.pp.row_apart hQA.places (by decide)
 obtain ⟨left3,hb3,hBp⟩:=(hQA.pp.far hg a1 a2).box
 have hlA:=aZ hl hA (Nat.le_refl _)
 have hl3:=hlA.kept hg (eV hlA hQA.places (by decide))
 have hk3:=(hk.trans (.of_below hA)).grownRow hQA.places (Nat.le_refl _) (Or.inl rfl) hg
 have hlt:=(Array.getElem?_eq_some_iff.1 ht).1
 obtain ⟨cs,rfl⟩:=hto
 have htA:(w2.alloc X).heap[tb]?=some (.cells cs 59):=(hA.block tb hlt).trans ht
 refine ⟨c5,f5,hQ,hb3.row hl3 (by decide) _ _,hk3.boxSet hb3 hBp _ _,?_⟩
 have hne:tb≠pb:=by
  rintro rfl
  obtain ⟨leftA,hbA,_⟩:=hQA.pp.box
  unfold bF at hbA
  rw [htA] at hbA
  simp at hbA
 rw [Below.heap_setCell _ _ _ _ hne,hg.block tb (by have:=hA.size;omega) ?_]
 ·exact htA
 ·intro e
  obtain ⟨_,⟨rfl,_⟩ | ⟨g',cap,cur,rfl,_,hh,_⟩⟩:=hQA.places
  ·simp [Value.ownBlock] at e
  ·simp [Value.ownBlock] at e
   subst e
   rw [htA] at hh
   simp at hh
def aDk (k m:Nat):Except Nat (aV×List Nd×Nat)→Except Nat (aV×List Nd)
 | .error p=>.error p
 | .ok (st',l',n)=>.ok (⟨st'.i,st'.vars,nV st'.places k n⟩,dF l' m n)
theorem aM1 {w7 w8:World} {r:Except Nat (aV×List Nd×Nat)} {e:Ending} {k:Nat} (hk:bH B B' mg w w7) (h:aDi B B' pb w7 s T g vC mg l.length r e w8) :
  (∃a n c b,e=.returned (.tuple #[.slice a n c,.bool b]))∧pR B B' pb w s T g vC mg (aDk k l.length r) e w8:=by
 obtain ⟨h1,h2⟩:=h
 cases r with
 | error p=>
  obtain ⟨a,n,c,i,vP,vM,rfl,h3,h4⟩:=h2
  exact ⟨⟨a,n,c,false,rfl⟩,hk.trans h1,a,n,c,i,vP,vM,rfl,h3,h4⟩
 | ok r=>
  obtain ⟨s1,l1,n⟩:=r
  obtain ⟨vl,vP,rfl,h3,h4⟩:=h2
  obtain ⟨a,c,hs⟩:=aR h4
  exact ⟨⟨a,_,c,true,by rw [hs]⟩,hk.trans h1,vl,vP,rfl,h3.parts _ _,h4⟩
set_option maxHeartbeats 4000000 in
theorem aM2 (atom:Bool) (f:Nat) (hT:∀i,(aD T i).kind∈fK) (hs:s.size≤3000) (hTl:T.length≤1000000) (hPC:aDj B pb s T g vC mg f) (h:bJ B w pb s T st g vC vP mg) (hl:w.ownsRow B' 106 2 vl l.length (aP l)) (hBB:B≤B') (hBw:B'≤w.heap.size) (hk:(aD T st.i).kind=110) (hf:T.length < st.i+(f+1)) (hl1:l.length≤st.i) (hp1:st.places.length≤st.i) (hv1:st.vars.length≤st.i) :
  Calls Tryz.prog 125 #[.pointer (some ⟨pb,0,none⟩),vl] w fun e w'=>pR B B' pb w s T g vC mg (bZ T (f+1) atom st l) e w':=by
 have hlt:=h.pp.lt
 obtain ⟨iN,hN,hN0,hN1,hN2⟩:=info_parts pL
 obtain ⟨left,hb,_⟩:=h.pp.box
 obtain ⟨la,lc,rfl⟩:=aR hl
 obtain ⟨va,vc,rfl⟩:=aR h.places
 have d1:=hb.c1
 have d2:=hb.c2
 have d3:=hb.c3
 rw [hk,show cU 110=97 from rfl] at d1
 have CT:=aA (fun o=>kB 118 (by decide) (by decide) (by decide) hT hs (h.pp.below ((Below.refl w.heap.size w).alloc (Nat.le_refl _) o)))
 rw [show cU 118=65 from rfl,if_neg (by rw [hk];decide),decide_eq_false (by rw [hk];decide)] at CT
 have CU:=aA (fun w1 (hp:cL B w1 pb s T st.i g vC (.slice va st.places.length vc) (.map (some mg)))=>kB 110 (by decide) (by decide) (by decide) hT hs hp)
 rw [show cU 110=97 from rfl,if_pos hk,decide_eq_true hk] at CU
 have HQ:=aA h
 have HL:=aA hl
 have HK:=aA hk
 have HT:=aA hT
 have HPC:=aA hPC
 clear h hl hb hk hT hPC
 obtain ⟨tx,htx⟩ : ∃tx,(aD T st.i).txt=tx:=⟨_,rfl⟩
 obtain ⟨tp,htp⟩ : ∃tp,(aD T st.i).pos=tp:=⟨_,rfl⟩
 rw [htp] at d2
 rw [htx] at d3
 have HTX:=aA htx
 have HTP:=aA htp
 clear htx htp
 go_enter Tryz.func125,Tryz.ntmps125
 go_upto_region 6 with (first
  | (go_at_call 74;refine (CU.out _ HP1.out).mono ?_;rintro e w2 ⟨rfl,hg2,hp2⟩;have HG2:=aA hg2;have HP2:=aA hp2;clear hg2 hp2)
  | (go_at_call 74;refine (aB CT _).mono ?_;rintro e w1 ⟨rfl,hg1,hp1'⟩;have HG1:=aA hg1;have HP1:=aA hp1';clear hg1 hp1')
  | go_in)
 have hA:=(Below.refl w.heap.size w).alloc (Nat.le_refl _) (.cells #[.int .i32 97,.int .i64 tp,.string tx] 59)
 have hQA:=HQ.out.below hA
 have hQ1:=hQA.take HG1.out HP1.out
 have hQ2:=hQ1.take HG2.out HP2.out
 obtain ⟨leftA,hbA,hBp⟩:=hQA.pp.box
 obtain ⟨left1,hb1,_⟩:=hQ1.pp.box
 have hlA:=aZ HL.out hA (Nat.le_refl _)
 have hl1':=hlA.kept HG1.out (hbA.apart hlA (by decide))
 have hl2':=hl1'.kept HG2.out (hb1.apart hl1' (by decide))
 have hk2:bH B B' mg w w2:=((bH.of_below hA).grownBox hbA hBp HG1.out).grownBox hb1 hBp HG2.out
 have hpbl:pb < w.heap.size:=by obtain ⟨left,hb,_⟩:=HQ.out.pp.box;exact hb.lt
 have hx2:w2.heap[w.heap.size]?=some (.cells #[.int .i32 97,.int .i64 tp,.string tx] 59):=by
  rw [HG2.out.block w.heap.size (by have:=HG1.out.size;simp at this;omega) (by simp;omega),HG1.out.block w.heap.size (by simp) (by simp;omega)]
  show (w.heap.push _)[w.heap.size]?=_
  simp
 have hz2:=hk2.size
 obtain ⟨left2,hb2,_⟩:=hQ2.pp.box
 have p5:=hb2.c5
 have t1:w2.cell? ⟨w.heap.size,1,none⟩=some (.int .i64 tp):=by unfold World.cell?;rw [hx2];rfl
 have t2:w2.cell? ⟨w.heap.size,2,none⟩=some (.string tx):=by unfold World.cell?;rw [hx2];rfl
 have p5A:∀o,(w2.alloc o).cell? ⟨pb,5,none⟩=some (.slice va st.places.length vc):=fun o=>Below.at' ((Below.refl w2.heap.size w2).alloc (Nat.le_refl _) o) (Nat.le_refl _) p5
 have t1A:∀o,(w2.alloc o).cell? ⟨w.heap.size,1,none⟩=some (.int .i64 tp):=fun o=>Below.at' ((Below.refl w2.heap.size w2).alloc (Nat.le_refl _) o) (Nat.le_refl _) t1
 have HQ2:=aA hQ2
 have HL2:=aA hl2'
 have HK2:=aA hk2
 have HX2:=aA hx2
 clear hA hQA hQ1 hQ2 hbA hb1 hb2 hlA hl1' hl2' hk2 hx2 HQ HL HP1 HP2 HG1 HG2 CT CU d1 d2 d3
 go_cut [] (fun wx=>∃v5,bJ B wx pb s T ⟨st.i+1,st.vars,st.places++[(tx,atom,0,(tp:Int))]⟩ g vC v5 mg∧wx.ownsRow B' 106 2 (.slice la l.length lc) l.length (aP l)∧bH B B' mg w wx∧wx.heap[w.heap.size]?=some (.cells #[.int .i32 97,.int .i64 tp,.string tx] 59))
 case first=>
  refine rF ?_
  have hq2d:Hid (bJ B w2.drew pb s T ⟨st.i+1,st.vars,st.places⟩ g vC (.slice va st.places.length vc) mg):=aA (HQ2.out.below (aJ (w1:=w2.drew) ⟨1,rfl⟩))
  have hk2d:Hid (bH B B' mg w w2.drew):=aA (HK2.out.trans (.of_below (aJ (w1:=w2.drew) ⟨1,rfl⟩)))
  go_region_law (refine mI ?g1 (.tmp 31) (.tmp 34) 31 3 ?g2 (.int .i64 0) 1 8 Tryz.underlying31 qM ?g3 ?g4 ?g5 B _ st.places.length (lH st.places) ?g6 (hq2d.out.places.alloc _) ?g7 ?g8 w2.heap.size 1 [.int .i64 tp] ?g9 ?g10 (oH w2.drew (.int .i64 tp) 3 w2.heap.size rfl) (aC7 tp) ?_;(case g1=>rfl);(case g2=>rfl);(case g3=>rfl);(case g4=>decide);(case g5=>decide);(case g6=>rfl);(case g7=>omega);(case g8=>(simp;omega));(case g9=>rfl);(case g10=>rfl);intro v3 w3 ho3 hg3;obtain ⟨c5,f5,hp3⟩:=aM0 (p:=(tx,atom,0,(tp:Int))) (tb:=w.heap.size) hq2d.out HL2.out hk2d.out HX2.out ⟨_,rfl⟩ ho3 hg3;have HP3:=aA hp3;obtain ⟨va3,vc3,rfl⟩:=aR ho3;clear ho3 hg3 hp3)
  all_goals
   refine oU ?_
   go_wp2_with fail
   go_meet
   case rel=>exact ⟨_,HP3.out⟩
 case rest=>
  obtain ⟨v5,hQ5,hl5,hk5,hx5⟩:=hcut
  have t2:wc.cell? ⟨w.heap.size,2,none⟩=some (.string tx):=by unfold World.cell?;rw [hx5];rfl
  have HQ5:=aA hQ5
  have HL5:=aA hl5
  have HK5:=aA hk5
  have hz5:=hk5.size
  clear hQ5 hl5 hk5 hx5 HQ2 HL2 HK2 HX2 p5 p5A t1 t1A
  have HNP:Hid (∀(h40:(aD T (st.i+1)).kind≠40),bZ T (f+1) atom st l=.ok (⟨st.i+1,st.vars,st.places++[(tx,atom,0,(tp:Int))]⟩,l++[(tx,0)])):=aA fun h40=>by
   rw [bZ,if_neg (by rw [HK.out];exact fun h=>absurd h.1 (by decide)),if_neg (by rw [HK.out];decide),if_neg h40,HTX.out,HTP.out]
  by_cases h40:(aD T (st.i+1)).kind=40
  ·have CT4:=aA (fun w1 (hp:cL B w1 pb s T (st.i+1) g vC v5 (.map (some mg)))=>kB 40 (by decide) (by decide) (by decide) HT.out hs hp)
   rw [show cU 40=40 from rfl,if_pos h40,decide_eq_true h40] at CT4
   have HPT:Hid (bZ T (f+1) atom st l=aDk st.places.length l.length (dN T f ⟨st.i+1,st.vars,st.places++[(tx,atom,0,(tp:Int))]⟩ (l++[(tx,0)]) 0)):=aA (by
    rw [bZ,if_neg (by rw [HK.out];exact fun h=>absurd h.1 (by decide)),if_neg (by rw [HK.out];decide),if_pos h40,HTX.out,HTP.out]
    cases dN T f ⟨st.i+1,st.vars,st.places++[(tx,atom,0,(tp:Int))]⟩ (l++[(tx,0)]) 0 with
    | error p=>rfl
    | ok r=>rfl)
   go_wp2_with (first
    | (at_builtin;refine wpList_append_own _ rfl (.tmp 38) (.tmp 42) 72 rfl B' 106 iN (.agg #[.string ⟨#[]⟩,.int .i64 0]) 2 24 Tryz.underlying72 hN hN0 hN1 hN2 rfl (by decide) _ _ _ rfl (HL5.out.alloc _) ⟨_,0,none⟩ 1 1 [.string tx,.int .i64 0] rfl rfl (iV wc _ _ _ _ rfl) (yH _ _) (by unfold maxLen;omega) (by omega) (by simp;omega) ?_;intro v6 w6 ho6 hg6 _;have HQ6:=aA ((HQ5.out.below ((Below.refl wc.heap.size wc).alloc (Nat.le_refl _) _)).far (HL5.out.alloc _) (by decide) hg6);have HK6:=aA ((HK5.out.trans (.of_below ((Below.refl wc.heap.size wc).alloc (Nat.le_refl _) _))).grownRow (HL5.out.alloc _) hBB (Or.inr ⟨rfl,Nat.le_refl _⟩) hg6);have HL6:Hid (w6.ownsRow B' 106 2 v6 (l.length+1) (aP (l++[(tx,0)]))):=aA (by rw [tB];exact ho6);obtain ⟨va6,vc6,rfl⟩:=aR ho6;clear ho6 hg6)
    | (go_at_call 74;refine (CT4.out _ HQ6.out.pp).mono ?_;rintro e w7 ⟨rfl,hg7,hp7⟩;obtain ⟨left6,hb6,hBp6⟩:=HQ6.out.pp.box;have hQ7:=HQ6.out.take hg7 hp7;have hl7:=HL6.out.kept hg7 (hb6.apart HL6.out (by decide));have hk7:=HK6.out.grownBox hb6 hBp6 hg7;have CP:=aA (HPC.out B' ⟨st.i+1,st.vars,st.places++[(tx,atom,0,(tp:Int))]⟩ v5 _ l tx w7 hQ7 hl7 hBB (Nat.le_trans hBw hk7.size) (by simp;omega) (by simp;omega) (by simp;omega) (by simp;omega));have HK7:=aA hk7;clear hg7 hp7 hQ7 hl7 hk7 hb6)
    | (go_at_call 141;refine (aB CP).mono ?_;intro e w8 hP8;obtain ⟨⟨a8,n8,c8,b8,he8⟩,hTQ⟩:=aM1 (k:=st.places.length) HK7.out hP8;subst he8;have HTQ:=aA hTQ;clear hTQ)
    | go_in)
   go_ret2
   rw [HPT.out]
   exact HTQ.out
  ·have CT4:=aA (fun w1 (hp:cL B w1 pb s T (st.i+1) g vC v5 (.map (some mg)))=>kB 40 (by decide) (by decide) (by decide) HT.out hs hp)
   rw [show cU 40=40 from rfl,if_neg h40,decide_eq_false h40] at CT4
   have HNP':=aA (HNP.out h40)
   clear HNP
   go_wp2_with (first
    | (at_builtin;refine wpList_append_own _ rfl (.tmp 38) (.tmp 42) 72 rfl B' 106 iN (.agg #[.string ⟨#[]⟩,.int .i64 0]) 2 24 Tryz.underlying72 hN hN0 hN1 hN2 rfl (by decide) _ _ _ rfl (HL5.out.alloc _) ⟨_,0,none⟩ 1 1 [.string tx,.int .i64 0] rfl rfl (iV wc _ _ _ _ rfl) (yH _ _) (by unfold maxLen;omega) (by omega) (by simp;omega) ?_;intro v6 w6 ho6 hg6 _;have HQ6:=aA ((HQ5.out.below ((Below.refl wc.heap.size wc).alloc (Nat.le_refl _) _)).far (HL5.out.alloc _) (by decide) hg6);have HK6:=aA ((HK5.out.trans (.of_below ((Below.refl wc.heap.size wc).alloc (Nat.le_refl _) _))).grownRow (HL5.out.alloc _) hBB (Or.inr ⟨rfl,Nat.le_refl _⟩) hg6);have HL6:Hid (w6.ownsRow B' 106 2 v6 (l++[(tx,0)]).length (aP (l++[(tx,0)]))):=aA (by rw [tB,List.length_append];exact ho6);obtain ⟨va6,vc6,rfl⟩:=aR ho6;clear ho6 hg6)
    | (go_at_call 74;refine (CT4.out _ HQ6.out.pp).mono ?_;rintro e w7 ⟨rfl,hg7,hp7⟩;obtain ⟨left6,hb6,hBp6⟩:=HQ6.out.pp.box;have HQ7:=aA (HQ6.out.take hg7 hp7);have HL7:=aA (HL6.out.kept hg7 (hb6.apart HL6.out (by decide)));have HK7:=aA (HK6.out.grownBox hb6 hBp6 hg7);clear hg7 hp7 hb6)
    | go_in)
   go_ret2
   refine ⟨HK7.out,?_⟩
   rw [HNP'.out]
   exact ⟨_,_,rfl,HQ7.out,HL7.out⟩
end
theorem pR.shape {B B' pb:Nat} {w:World} {s:ByteArray} {T:List Tk} {g:Nat} {vC:Value} {mg:Nat} {r:Except Nat (aV×List Nd)} {e:Ending} {w':World} (h:pR B B' pb w s T g vC mg r e w'):∃a n c b,e=.returned (.tuple #[.slice a n c,.bool b]):=by
 obtain ⟨_,h⟩:=h
 cases r with
 | error p=>obtain ⟨a,n,c,i,vP,vM,rfl,_⟩:=h;exact ⟨a,n,c,false,rfl⟩
 | ok y=>
  obtain ⟨s1,l1⟩:=y
  obtain ⟨vl,vP,rfl,_,h4⟩:=h
  obtain ⟨a,c,hs⟩:=aR h4
  exact ⟨a,_,c,true,by rw [hs]⟩
theorem aM3 (L:List Nd) (k n:Nat) (h:k < L.length):∃x:ByteArray,(dF L k n)[k]'(by rw [sO];exact h)=(x,(n:Int)):=by
 unfold dF
 exact ⟨L[k].1,by rw [List.getElem_modify_eq]⟩
structure vY (B B' pb:Nat) (w:World) (s:ByteArray) (T:List Tk) (g:Nat) (vC:Value) (mg nm:Nat) (r:Except Nat (aV×List Nd×Nat)) (k:Nat) (vl:Value) (wr:World) (st:aV) (L:List Nd) (n:Nat) (vP:Value):Prop where
 q:bJ B wr pb s T ⟨st.i+1,st.vars,st.places⟩ g vC vP mg
 row:wr.ownsRow B' 106 2 vl L.length (aP (dF L nm n))
 kept:bH B B' mg w wr
 eq:r=dN T k st L n
 fuel:T.length < st.i+k
 nm:nm < L.length
 len:L.length≤st.i
 pl:st.places.length≤st.i
 vs:st.vars.length≤st.i
 few:n≤st.i
theorem vY.step {B B' pb:Nat} {w:World} {s:ByteArray} {T:List Tk} {g:Nat} {vC:Value} {mg nm:Nat} {r:Except Nat (aV×List Nd×Nat)} {k:Nat} {vl:Value} {wr:World} {st:aV} {L:List Nd} {n:Nat} {vP:Value} (h:vY B B' pb w s T g vC mg nm r (k+1) vl wr st L n vP) {q:Except Nat (aV×List Nd)} (hq:bZ T k false ⟨st.i+1,st.vars,st.places⟩ []=q) :
  match q with
  | .error p=>r=.error p
  | .ok (s1,x)=>r=if (aD T s1.i).kind=44 then dN T k s1 (L++x) (n+1) else if (aD T s1.i).kind=41 then .ok (⟨s1.i+1,s1.vars,s1.places⟩,L++x,n+1) else .error (aD T s1.i).pos:=by
 have he:=h.eq
 rw [dN,(aFp T k).1 false _ L,hq] at he
 cases q with
 | error p=>exact he
 | ok y=>exact he
theorem aM4 {B B' pb:Nat} {w w1:World} {s:ByteArray} {T:List Tk} {g:Nat} {vC:Value} {mg nm:Nat} {s1:aV} {L x:List Nd} {n:Nat} {vP vl:Value} (hq:bJ B w1 pb s T s1 g vC vP mg) (hr:w1.ownsRow B' 106 2 vl (dF L nm n++x).length (aP (dF L nm n++x))) (hnm:nm < L.length) (hBB:B≤B') (hk:bH B B' mg w w1) :
  ∃gn c,vl=.slice (some ⟨gn,0,none⟩) (L++x).length c∧w1.cell? ⟨gn,nm * 2+1,none⟩=some (.int .i64 n)∧w1.frozen? ⟨gn,nm * 2+1,none⟩=false∧
   bJ B (w1.setCell ⟨gn,nm * 2+1,none⟩ (.int .i64 ((n:Int)+1))) pb s T s1 g vC vP mg∧(w1.setCell ⟨gn,nm * 2+1,none⟩ (.int .i64 ((n:Int)+1))).ownsRow B' 106 2 vl (L++x).length (aP (dF (L++x) nm (n+1)))∧bH B B' mg w (w1.setCell ⟨gn,nm * 2+1,none⟩ (.int .i64 ((n:Int)+1))):=by
 rw [←aR3 L x nm n hnm,sO] at hr
 have hnx:nm < (L++x).length:=by simp;omega
 obtain ⟨gn,c,rfl⟩:=sM hr (by omega)
 have hg:w1.grownBy (w1.setCell ⟨gn,nm * 2+1,none⟩ (.int .i64 ((n:Int)+1))) (some gn):=cB _ _ _
 obtain ⟨y,hy⟩:=aM3 (L++x) nm n hnx
 refine ⟨gn,c,rfl,?_,hr.frozenAt _,hq.far hr (by decide) hg,?_,hk.grownRow hr hBB (Or.inr ⟨rfl,Nat.le_refl _⟩) hg⟩
 ·rw [hr.cellAt _ (by omega),(tC _ nm (by rw [sO];exact hnx)).2,hy]
 ·have:=(hr.stored (nm * 2+1) (.int .i64 ((n+1:Nat):Int))).1
  rw [aQv,aR5] at this
  exact this
section
variable {B pb:Nat} {s:ByteArray} {T:List Tk} {g:Nat} {vC:Value} {mg:Nat}
set_option maxHeartbeats 4000000 in
theorem aM5 (f:Nat) (hT:∀i,(aD T i).kind∈fK) (hs:s.size≤3000) (hTl:T.length≤1000000) (IH:∀k,k < f→aDh B pb s T g vC mg k):aDj B pb s T g vC mg f:=by
 intro B' st vP vl l x w h hl hBB hBw hf hl1 hp1 hv1
 have hlt:=h.pp.lt
 simp only at hlt
 obtain ⟨la,lc,rfl⟩:=aR hl
 have HIH:=aA IH
 have HT:=aA hT
 have H0:Hid (vY B B' pb w s T g vC mg l.length (dN T f st (l++[(x,0)]) 0) f (.slice la (l.length+1) lc) w st (l++[(x,0)]) 0 vP):=aA ⟨h,by rw [aQw,List.length_append];exact hl,bH.refl _ _ _ _,rfl,hf,by simp,by simp;omega,hp1,hv1,Nat.zero_le _⟩
 obtain ⟨R,hR⟩ : ∃R,dN T f st (l++[(x,0)]) 0=R:=⟨_,rfl⟩
 rw [hR] at H0
 simp only [hR]
 have hl1':l.length≤1000000:=by omega
 clear h hl IH hT hR
 generalize l.length=nm at *
 go_enter Tryz.func141,Tryz.ntmps141
 go_wp2
 go_loopg [1] f (fun k vl wr=>k≤f∧∃st' L n vP',vY B B' pb w s T g vC mg nm R k vl wr st' L n vP')
 case atStart=>exact ⟨Nat.le_refl _,st,_,0,vP,H0.out⟩
 case round=>
  clear H0
  obtain ⟨hkf,st',L,n,vP',hL⟩:=hrel
  have hlt':=hL.q.pp.lt
  simp only at hlt'
  have hfu:=hL.fuel
  have hnm:=hL.nm
  have hlen:=hL.len
  have hpl:=hL.pl
  have hvs:=hL.vs
  have hfew:=hL.few
  obtain ⟨k',rfl⟩ : ∃k',gk=k'+1:=⟨gk - 1,by omega⟩
  obtain ⟨va,vc,rfl⟩:=aR hL.row
  have CT:=aA (HIH.out k' (by omega) B' false ⟨st'.i+1,st'.vars,st'.places⟩ vP' _ (dF L nm n) wr hL.q (by rw [sO];exact hL.row) hBB (Nat.le_trans hBw hL.kept.size) (by simp) (by simp;omega) (by rw [sO];simp;omega) (by simp;omega) (by simp;omega))
  have HL:=aA hL
  have hpre:=(aFp T k').1 false ⟨st'.i+1,st'.vars,st'.places⟩ (dF L nm n)
  rw [hpre] at CT
  clear hpre
  cases hq:bZ T k' false ⟨st'.i+1,st'.vars,st'.places⟩ [] with
  | error p=>
   have hst:=HL.out.step hq
   rw [hq] at CT
   have HR:Hid (R=.error p):=aA hst
   clear hq hst hL
   go_wp2_with (first
    | (go_at_call 125;refine (aB CT).mono ?_;rintro e w1 ⟨hk1,a1,n1,c1,i1,vP1,vM1,rfl,hp1,hpos⟩;have HK1:=aA hk1;have HP1:=aA hp1;have HPO:=aA hpos;clear hk1 hp1 hpos)
    | go_in)
   go_ret2
   refine ⟨HL.out.kept.trans HK1.out,?_⟩
   rw [HR.out]
   exact ⟨_,_,_,_,_,_,rfl,HP1.out,HPO.out⟩
  | ok y=>
   obtain ⟨s1,x1⟩:=y
   have hst:=HL.out.step hq
   simp only at hst
   have hon:=(sK T k').1 _ _ _ _ _ hq
   simp only [List.length_nil] at hon
   rw [hq] at CT
   obtain ⟨L2,hL2⟩ : ∃L2,L++x1=L2:=⟨_,rfl⟩
   have hl2:L2.length=L.length+x1.length:=by rw [←hL2];simp
   have HPM:=aA (fun (w1:World) (vP1 vl1:Value) (hq1:bJ B w1 pb s T s1 g vC vP1 mg) (hr1:w1.ownsRow B' 106 2 vl1 (dF L nm n++x1).length (aP (dF L nm n++x1))) (hk1:bH B B' mg w w1)=>aM4 hq1 hr1 hnm hBB hk1)
   rw [hL2] at hst HPM
   have HST:=aA hst
   have hnmi:(nm:Int) < (L2.length:Int):=by omega
   have hnm0:(0:Int)≤(nm:Int):=by omega
   have hnn:n≤1000000:=by omega
   have HL2:=aA hl2
   clear hq hst hL hL2 hl2
   have C44:=aA (fun w1 vP1 (hp:cL B w1 pb s T s1.i g vC vP1 (.map (some mg)))=>kB 44 (by decide) (by decide) (by decide) HT.out hs hp)
   rw [show cU 44=44 from rfl] at C44
   have C41:=aA (fun w1 vP1 (hp:cL B w1 pb s T s1.i g vC vP1 (.map (some mg)))=>kB 41 (by decide) (by decide) (by decide) HT.out hs hp)
   rw [show cU 41=41 from rfl] at C41
   by_cases h44:(aD T s1.i).kind=44
   ·rw [if_pos h44,decide_eq_true h44] at C44
    have HST':Hid (R=dN T k' s1 L2 (n+1)):=aA (by have:=HST.out;rw [if_pos h44] at this;exact this)
    clear HST C41
    go_wp2_with (first
     | (go_at_call 74;refine (C44.out _ _ HQ2.out.pp).mono ?_;rintro e w3 ⟨rfl,hg3,hp3⟩;obtain ⟨left2,hb2,hBp2⟩:=HQ2.out.pp.box;have HQ3:=aA (HQ2.out.take hg3 hp3);have HR3:=aA (HR2.out.kept hg3 (hb2.apart HR2.out (by decide)));have HK3:=aA (HK2.out.grownBox hb2 hBp2 hg3);clear hg3 hp3 hb2)
     | (go_at_call 125;refine (aB CT).mono ?_;rintro e w1 ⟨hk1,vl1,vP1,rfl,hq1,hr1⟩;obtain ⟨gn,cn,rfl,cc,cf,hq2,hr2,hk2⟩:=HPM.out w1 vP1 vl1 hq1 hr1 (HL.out.kept.trans hk1);have HQ2:=aA hq2;have HR2:=aA hr2;have HK2:=aA hk2;clear hk1 hq1 hr1 hq2 hr2 hk2)
     | go_in)
    go_roundg k'
    case measure=>omega
    case rel=>exact ⟨by omega,s1,L2,n+1,_,HQ3.out,HR3.out,HK3.out,HST'.out,by omega,by have:=HL2.out;omega,by have:=HL2.out;omega,by omega,by omega,by omega⟩
   ·rw [if_neg h44,decide_eq_false h44] at C44
    by_cases h41:(aD T s1.i).kind=41
    ·rw [if_pos h41,decide_eq_true h41] at C41
     have HST':Hid (R=.ok (⟨s1.i+1,s1.vars,s1.places⟩,L2,n+1)):=aA (by have:=HST.out;rw [if_neg h44,if_pos h41] at this;exact this)
     clear HST
     go_wp2_with (first
      | (go_at_call 74;refine (C41.out _ _ HQ3.out.pp).mono ?_;rintro e w4 ⟨rfl,hg4,hp4⟩;obtain ⟨left3,hb3,hBp3⟩:=HQ3.out.pp.box;have HQ4:=aA (HQ3.out.take hg4 hp4);have HR4:=aA (HR3.out.kept hg4 (hb3.apart HR3.out (by decide)));have HK4:=aA (HK3.out.grownBox hb3 hBp3 hg4);clear hg4 hp4 hb3)
      | (go_at_call 74;refine (C44.out _ _ HQ2.out.pp).mono ?_;rintro e w3 ⟨rfl,hg3,hp3⟩;obtain ⟨left2,hb2,hBp2⟩:=HQ2.out.pp.box;have HQ3:=aA (HQ2.out.take hg3 hp3);have HR3:=aA (HR2.out.kept hg3 (hb2.apart HR2.out (by decide)));have HK3:=aA (HK2.out.grownBox hb2 hBp2 hg3);clear hg3 hp3 hb2)
      | (go_at_call 125;refine (aB CT).mono ?_;rintro e w1 ⟨hk1,vl1,vP1,rfl,hq1,hr1⟩;obtain ⟨gn,cn,rfl,cc,cf,hq2,hr2,hk2⟩:=HPM.out w1 vP1 vl1 hq1 hr1 (HL.out.kept.trans hk1);have HQ2:=aA hq2;have HR2:=aA hr2;have HK2:=aA hk2;clear hk1 hq1 hr1 hq2 hr2 hk2)
      | go_in)
     go_ret2
     refine ⟨HK4.out,?_⟩
     rw [HST'.out]
     exact ⟨_,_,rfl,HQ4.out,by rw [sO];exact HR4.out⟩
    ·rw [if_neg h41,decide_eq_false h41] at C41
     have HST':Hid (R=.error (aD T s1.i).pos):=aA (by have:=HST.out;rw [if_neg h44,if_neg h41] at this;exact this)
     clear HST
     go_wp2_with (first
      | (go_at_call 74;refine (C41.out _ _ HQ3.out.pp).mono ?_;rintro e w4 ⟨rfl,hg4,hp4⟩;obtain ⟨left3,hb3,hBp3⟩:=HQ3.out.pp.box;have HP4:=aA hp4;have HK4:=aA (HK3.out.grownBox hb3 hBp3 hg4);clear hg4 hp4 hb3)
      | (go_at_call 74;refine (C44.out _ _ HQ2.out.pp).mono ?_;rintro e w3 ⟨rfl,hg3,hp3⟩;obtain ⟨left2,hb2,hBp2⟩:=HQ2.out.pp.box;have HQ3:=aA (HQ2.out.take hg3 hp3);have HK3:=aA (HK2.out.grownBox hb2 hBp2 hg3);clear hg3 hp3 hb2)
      | (go_at_call 125;refine (aB CT).mono ?_;rintro e w1 ⟨hk1,vl1,vP1,rfl,hq1,hr1⟩;obtain ⟨gn,cn,rfl,cc,cf,hq2,hr2,hk2⟩:=HPM.out w1 vP1 vl1 hq1 hr1 (HL.out.kept.trans hk1);have HQ2:=aA hq2;have HR2:=aA hr2;have HK2:=aA hk2;clear hk1 hq1 hr1 hq2 hr2 hk2)
      | go_in)
     go_ret2
     refine ⟨HK4.out,?_⟩
     rw [HST'.out]
     exact ⟨_,_,_,_,_,_,rfl,HP4.out,rfl⟩
theorem aM6 (hT:∀i,(aD T i).kind∈fK) (hx:∀i,(aD T i).txt.size≤1000000) (hs:s.size≤3000) (hTl:T.length≤1000000):∀f,aDh B pb s T g vC mg f:=by
 intro f
 induction f using Nat.strongRecOn with
 | _ f ih=>
  intro B' atom st vP vl l w h hl hBB hBw hat hf hl1 hp1 hv1
  have hlt:=h.pp.lt
  obtain ⟨f',rfl⟩ : ∃f',f=f'+1:=⟨f - 1,by omega⟩
  by_cases hk:(aD T st.i).kind=110
  ·exact aM2 atom f' hT hs hTl (aM5 f' hT hs hTl fun k hk=>ih k (by omega)) h hl hBB hBw hk hf hl1 hp1 hv1
  ·by_cases hk2:(aD T st.i).kind=118
   ·have ha:atom=false:=by
     cases atom
     ·rfl
     ·exact absurd hk2 (hat rfl)
    exact aLy atom f' hT hx hs hTl h hl hBB hBw hk2 ha hl1 hv1
   ·exact aLz atom f' hT hs h hk2 hk
end
set_option maxHeartbeats 2000000 in
theorem aM7 {B pb:Nat} {s:ByteArray} {T:List Tk} {g:Nat} {vC vP:Value} {mg:Nat} {st:aV} {w:World} (hT:∀i,(aD T i).kind∈fK) (hx:∀i,(aD T i).txt.size≤1000000) (hs:s.size≤3000) (hTl:T.length≤1000000) (h:bJ B w pb s T st g vC vP mg) (hBw:B≤w.heap.size) (hp1:st.places.length≤st.i) (hv1:st.vars.length≤st.i) :
  Calls Tryz.prog 104 #[.pointer (some ⟨pb,0,none⟩)] w fun e w'=>pR B w.heap.size pb w s T g vC mg (bZ T (T.length+1) true st []) e w':=by
 have hlt:=h.pp.lt
 obtain ⟨left,hb,_⟩:=h.pp.box
 have d1:=hb.c1
 by_cases hk:(aD T st.i).kind=118
 ·have HP:Hid (bZ T (T.length+1) true st []=.error (aD T st.i).pos):=aA (by rw [bZ,if_neg (by simp),if_pos (by rw [hk];decide)])
  rw [hk,show cU 118=65 from rfl] at d1
  have HQ:=aA h
  clear h hb
  go_enter Tryz.func104,Tryz.ntmps104
  go_wp2
  go_ret2
  refine ⟨bH.refl _ _ _ _,?_⟩
  rw [HP.out]
  exact ⟨_,_,_,_,_,_,rfl,HQ.out.pp,rfl⟩
 ·have hne:(cU (aD T st.i).kind == 65)=false:=by
   rw [beq_eq_false_iff_ne]
   exact fun e=>hk (zA _ (hT st.i) 118 (by decide) (by rw [e];rfl))
  have CT:=aA (aM6 (B:=B) (pb:=pb) (g:=g) (vC:=vC) (mg:=mg) hT hx hs hTl (T.length+1) w.heap.size true st vP (.slice none 0 0) [] w h (World.ownsRow_nil _ _ _ _) hBw (Nat.le_refl _) (fun _=>hk) (by omega) (Nat.zero_le _) hp1 hv1)
  generalize cU (aD T st.i).kind=K at *
  clear h hb hk hT hx
  go_enter Tryz.func104,Tryz.ntmps104
  go_wp2_with (first
   | (go_at_call 125;refine (aB CT).mono ?_;intro e w1 hQ1;obtain ⟨a1,n1,c1,b1,he1⟩:=hQ1.shape;subst he1;have HQ1:=aA hQ1;clear hQ1)
   | go_in)
  go_ret2
  exact HQ1.out
end Go.Proofs.YtbddofieljiihaaGreatDoor
