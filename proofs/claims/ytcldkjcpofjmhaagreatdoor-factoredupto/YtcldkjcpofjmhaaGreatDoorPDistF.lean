import Derived.Test.YtcldkjcpofjmhaaGreatDoorRefs1F
import Derived.Test.YtcldkjcpofjmhaaGreatDoorONum0F
import Derived.OwnWalk
open List renaming set_cons_succ→zz,replicate→zw,take_succ_eq_append_getElem→zt,contains_iff_mem→zr,getElem_mem→zq,countP_cons→zo,replicate_succ→zn,mem_map→zm,getElem?_cons_succ→zi,take_of_length_le→zh,set_append_right→zg,ext_getElem?→ze
open Nat renaming le_refl→zy,mod_two_eq_zero_or_one→zk,zero_le→zf
open Or renaming inr→zs,inl→zc
open Prod renaming fst→zx
namespace Go.Proofs.YtcldkjcpofjmhaaGreatDoor
open _root_.Go.Proofs.Tryz renaming prog→zu,underlying160→zl,underlying3→zj
open Value renaming ownBlock→zv
set_option maxHeartbeats 2000000
set_option maxRecDepth 100000
variable{B i tp:Nat}{v:Value}{w:World}
section
open Go.RowKit Go.Shelf
theorem kC.below{w1:World}{l:List Nd}(h:kC w v l){B:Nat}(k:Below B w w1)(hB:w.heap.size<=B):kC w1 v l:=by obtain ⟨a,cap,h1,h2⟩:=h;exact ⟨a,cap,h1,h2.below k hB⟩
theorem aHi(P:List (Lt×Value))(y:Lt)(k:Nat)(h:k<P.length):eS ((P.map zx).take (k+1)) y=(eS ((P.map zx).take k) y || nL P[k].1 y):=by rw [zt (by simpa using h),aHz,aSx];simp
theorem aHj(P:List (Lt×Value))(y:Lt)(k:Nat)(h:eS ((P.map zx).take k) y=true):eS (P.map zx) y=true:=by rw [aHy] at h ⊢;exact List.mem_of_mem_take h
theorem aSf(a a2:Option Addr)(cap c2 g:Nat)(P:List (Lt×Value))(yb:Bool)(yl:List Nd)(w:World)(hf:P.length<=4398046511104)
  (hc:∀k (h:k<P.length),∃g',a=some ⟨g',0,none⟩/\w.cell? ⟨g',k*2,none⟩=some (.bool P[k].1.1)/\w.cell? ⟨g',k*2+1,none⟩=some P[k].2)
  (hA:∀p∈P,kC w p.2 p.1.2) (h2:cU w a2 yl) (g0:w.cell? ⟨g,0,none⟩=some (.bool yb)) (g1:w.cell? ⟨g,1,none⟩=some (.slice a2 yl.length c2)) :
  Calls zu 131 #[.slice a P.length cap,.func (Fn.func 110) #[] #[.pointer (some ⟨g,0,none⟩)]] w λe w'=>∃r:Int,e=.returned (.int .i64 r)/\decide (0<=r)=eS (P.map zx) (yb,yl)/\Below w.heap.size w w':=by
 have HC:=aA hc;have HA:=aA hA;have H2:=aA h2;clear hc hA h2;go_enter Tryz.func131,Tryz.ntmps131;go_wp2;go_loopw [8] (λi wr=>∃k:Nat,k<=P.length/\i=.int .i64 k/\eS ((P.map zx).take k) (yb,yl)=false/\Below w.heap.size w wr) (λi _=>P.length-(intOf i).toNat);case atStart=>exact ⟨0,zf _,rfl,rfl,Below.refl _ _⟩
 case round=>
  obtain ⟨k,hk,rfl,hm,hb⟩:=hrel;have HM:=aA hm;clear hm;by_cases hlt:k<P.length
  ·obtain ⟨g',rfl,e1,f1⟩:=HC.out k hlt;obtain ⟨pa,pcp,hpv,hpn⟩:=HA.out P[k] (zq _);rw [hpv] at f1;have hmt:=aHi P (yb,yl) k hlt;rw [HM.out,Bool.false_or] at hmt;have hmx:=aHj P (yb,yl) (k+1);rw [hmt] at hmx;generalize P[k].1=x at *;obtain ⟨xb,xl⟩:=x;simp only at e1 f1 hpn;have e2:=Below.at' hb (zy _) e1;have f2:=Below.at' hb (zy _) f1;have CL:=aA (aT2 xb yb pa a2 pcp c2 g xl yl wr (hpn.below hb (zy _)) (H2.out.below hb (zy _)) (Below.at' hb (zy _) g0) (Below.at' hb (zy _) g1));have HMT:=aA hmt;have HMX:=aA hmx;have HB:=aA hb;have hbs:=hb.size;clear hmt hmx hb hpv hpn e1 f1;cases hl:nL (xb,xl) (yb,yl)
   ·rw [hl] at CL HMT;clear hl;go_wp2_with (go_at_call 110;refine (aB CL).mono ?_;rintro e w1 ⟨rfl,hb1⟩;have HB1:=aA (HB.out.trans (hb1.mono hbs));clear hb1);go_roundw;case rel=>exact ⟨k+1,by omega,by go_num,HMT.out,HB1.out⟩
    case measure=>simp [intOf];omega
   ·rw [hl] at CL HMX;clear hl;go_wp2_with (go_at_call 110;refine (aB CL).mono ?_;rintro e w1 ⟨rfl,hb1⟩;have HB1:=aA (HB.out.trans (hb1.mono hbs));clear hb1);go_ret;exact ⟨_,rfl,by rw [HMX.out (by first | rfl | trivial)];simp,HB1.out⟩
  ·have hk1:(P.map zx).take k=P.map zx:=zh (by simp;omega);rw [hk1] at HM;have HB:=aA hb;clear hk1 hb;go_wp2;go_ret;exact ⟨_,rfl,by rw [HM.out];rfl,HB.out⟩
theorem aSg(a a2:Option Addr)(cap c2 g:Nat)(P:List (Lt×Value))(yb:Bool)(yl:List Nd)(w:World)(hf:P.length<=4398046511104)
  (hc:∀k (h:k<P.length),∃g',a=some ⟨g',0,none⟩/\w.cell? ⟨g',k*2,none⟩=some (.bool P[k].1.1)/\w.cell? ⟨g',k*2+1,none⟩=some P[k].2)
  (hA:∀p∈P,kC w p.2 p.1.2) (h2:cU w a2 yl) (g0:w.cell? ⟨g,0,none⟩=some (.bool yb)) (g1:w.cell? ⟨g,1,none⟩=some (.slice a2 yl.length c2)) :
  Calls zu 112 #[.slice a P.length cap,.func (Fn.func 110) #[] #[.pointer (some ⟨g,0,none⟩)]] w λe w'=>e=.returned (.bool (eS (P.map zx) (yb,yl)))/\Below w.heap.size w w':=by
 have CI:=aA (aSf a a2 cap c2 g P yb yl w hf hc hA h2 g0 g1);clear hc hA h2 g0 g1;go_enter Tryz.func112,Tryz.ntmps112;go_wp2_with (go_at_call 131;refine (aB CI).mono ?_;rintro e w1 ⟨r,rfl,hr,hb⟩;have HR:=aA hr;have HB:=aA hb;clear hr hb);go_ret;exact ⟨cI HR.out,HB.out⟩
theorem aHk(a:Option Addr)(cp:Nat)(c:List Lt)(w:World)(h:bE w a c) :
  Calls zu 85 #[.slice a c.length cp] w λe w'=>∃v P,e=.returned v/\P.map zx=cK c/\(∀p∈P,kC w p.2 p.1.2)/\w'.ownsRow w.heap.size 39 2 v P.length (bA P)/\Below w.heap.size w w':=by
 obtain ⟨iL,hL,hL0,hL1,hL2⟩:=info_parts sF;have hf:=h.few;go_enter Tryz.func85,Tryz.ntmps85;go_wp2;go_loopw [3,9] (λo i wr=>∃(k:Nat) (P:List (Lt×Value)),k<=c.length/\i=.int .i64 k/\P.map zx=cK (c.take k)/\(∀p∈P,kC w p.2 p.1.2)/\wr.ownsRow w.heap.size 39 2 o P.length (bA P)/\Below w.heap.size w wr)
  (λ_ i _=>c.length-(intOf i).toNat)
 case atStart=>exact ⟨0,[],zf _,rfl,rfl,λp hp=>by simp at hp,World.ownsRow_nil _ _ _ _,Below.refl _ _⟩
 case round=>
  obtain ⟨k,P,hk,rfl,hP,hA,ho,hb⟩:=hrel;have hPl:P.length<=k:=by
   have h1:=(qQ (c.take k)).1;have h2:P.length=(cK (c.take k)).length:=by rw [<-hP];simp
   have h3:(c.take k).length<=k:=List.length_take_le _ _;omega
  by_cases hlt:k<c.length
  ·obtain ⟨b,q,aa,acp,rfl,e1,f1,g1⟩:=h.cell k hlt;have e2:=Below.at' hb (zy _) e1;have f2:=Below.at' hb (zy _) f1;have hst:=aI0 c k hlt;rw [<-hP] at hst;generalize c[k]=x at *;obtain ⟨xb,xl⟩:=x;simp only at e2 f2 g1;obtain ⟨oa,ocp,rfl,hoc⟩:=qR ho;have hbs:=hb.size;have hbx:Below w.heap.size w (wr.alloc (.cells #[.bool xb,.slice aa xl.length acp] 39)):=hb.alloc hbs _;have hbw:Below wr.heap.size wr (wr.alloc (.cells #[.bool xb,.slice aa xl.length acp] 39)):=(Below.refl _ _).alloc (zy _) _;have CC:=aA (aSg oa aa ocp acp wr.heap.size P xb xl (wr.alloc (.cells #[.bool xb,.slice aa xl.length acp] 39)) (by omega)
    (λj hj=>by obtain ⟨g',h1,h2,h3⟩:=hoc j hj;exact ⟨g',h1,Below.at' hbw (zy _) h2,Below.at' hbw (zy _) h3⟩)
    (λp hp=>(hA p hp).below hbx (zy _)) (g1.below hbx (zy _)) (by simp) (by simp))
   have HST:=aA hst;have HA:=aA hA;have HG:=aA g1;have HBX:=aA hbx;have HO:=aA ho;clear e1 f1 h hst hP hA hoc hb g1 hbx hbw;cases hm:eS (P.map zx) (xb,xl)
   ·have HST':Hid (cK (c.take (k+1))=P.map zx++[(xb,xl)]):=aA (by rw [HST.out];simp [eO,hm]);rw [hm] at CC;clear hm HST;go_wp2_with (first
     | (go_at_call 112;refine (aB CC).mono ?_;rintro e w1 ⟨rfl,hb1⟩;obtain ⟨q1,q2,q3⟩:=jR hb1;have ho1:=aU (ho.alloc (.cells #[.bool xb,.slice aa xl.length acp] 39)) hb1 (zy _);have HB1:=aA (HBX.out.trans (hb1.mono HBX.out.size));have h1s:=HB1.out.size;clear hb1 q3)
     | (at_builtin;refine wpList_append_own _ rfl _ _ 22 rfl w.heap.size 39 iL (.agg #[.bool false,.slice none 0 0]) 2 32 Tryz.underlying22 hL hL0 hL1 hL2 rfl (by decide) _ _ _ rfl (ho1.alloc _) ⟨w1.heap.size,0,none⟩ 1 1 [.bool xb,.slice aa xl.length acp] rfl rfl ?c1 ?c2 ?c3 ?c4 ?c5 ?_)
     | go_in)
    case c1=>exact gK _ _ _ _ _ (by simp)
    case c2=>first | exact sG _ _ _ _ | exact ⟨rfl,rfl⟩
    case c3=>unfold maxLen;omega
    case c4=>omega
    case c5=>exact Nat.le_trans h1s (World.grownBy_alloc _ _ none).size
    intro v' w2 ho' hg' _;have R:=aI5 (x:=(xb,xl)) (ho1.alloc _) (HB1.out.alloc h1s _) ho' hg';clear ho' hg' ho1;go_wp2;go_roundw;case rel=>exact ⟨k+1,P++[((xb,xl),.slice aa xl.length acp)],by omega,by go_num,by rw [HST'.out];simp,aI3 HA.out ⟨aa,acp,rfl,HG.out⟩,R.1,R.2⟩
    case measure=>simp [intOf];omega
   ·have HST':Hid (cK (c.take (k+1))=P.map zx):=aA (by rw [HST.out];simp [eO,hm]);rw [hm] at CC;clear hm HST;go_wp2_with (first
     | (go_at_call 112;refine (aB CC).mono ?_;rintro e w1 ⟨rfl,hb1⟩;have HO1:=aA (aU (HO.out.alloc (.cells #[.bool xb,.slice aa xl.length acp] 39)) hb1 (zy _));have HB1:=aA (HBX.out.trans (hb1.mono HBX.out.size));clear hb1)
     | go_in)
    go_roundw;case rel=>exact ⟨k+1,P,by omega,by go_num,HST'.out.symm,HA.out,HO1.out,HB1.out⟩
    case measure=>simp [intOf];omega
  ·have hk1:c.take k=c:=zh (by omega);rw [hk1] at hP;have F:=aA (And.intro hP (And.intro hA (And.intro ho hb)));clear hk1 hP hA ho hb;go_wp2;go_ret;exact ⟨_,P,rfl,F.out⟩
end
section
open Go.RowKit Go.Shelf Go.WideMaps
def fW(v:Value):Option (DataW Unit×List MemPlace):=
 match v with
 | .int .i64 x=>some (.lit (.int .i64 x),[])
 | _=>none
structure oK(D:DataW Unit)(sn:List Int):Prop where
 tidy:Maps.Tidy D
 size:Maps.size D=sn.length
 old:∀x,0<=eJ sn x->Maps.has D (.int .i64 x)=true/\∀z,D.atKey (.int .i64 x) z=.lit (.int .i64 (eJ sn x))
 new:∀x,eJ sn x<0->Maps.has D (.int .i64 x)=false
theorem oK.start:oK (.map []) []:=⟨⟨[],rfl,by simp⟩,rfl,λx h=>by rw [aF3] at h;omega,λx _=>rfl⟩
theorem oK.put{D:DataW Unit}{sn:List Int}{x:Int}(h:oK D sn)(hx:eJ sn x<0):oK (D.put (.int .i64 x) (.lit (.int .i64 sn.length))) (sn++[x]):=by
 have hkey:WideAt.IsKeyLit (.int .i64 x):=trivial;refine ⟨h.tidy.put hkey _,?_,λy hy=>?_,λy hy=>?_⟩
 ·rw [Maps.size_put h.tidy,h.new x hx,h.size];simp
 ·rw [wK] at hy ⊢;by_cases he:x=y
  ·subst he;rw [if_pos rfl];exact ⟨Maps.has_put_same h.tidy.isMap hkey _,λz=>Maps.atKey_put_same h.tidy.isMap hkey _ _⟩
  ·rw [if_neg he] at hy ⊢;have hne:(Lit.int .i64 y)≠.int .i64 x:=λe=>he (by simpa using e.symm)
   have ho:=h.old y hy;exact ⟨by rw [Maps.has_put_other hne];exact ho.1,λz=>by rw [Maps.atKey_put_other hne];exact ho.2 z⟩
 ·rw [wK] at hy;by_cases he:x=y
  ·rw [if_pos he] at hy;omega
  ·rw [if_neg he] at hy;have hne:(Lit.int .i64 y)≠.int .i64 x:=λe=>he (by simpa using e.symm)
   rw [Maps.has_put_other hne];exact h.new y hy
theorem aCc{x:Int}(h0 : -1000000000<=x)(h1:x<=1000000000):(Lit.int .i64 x).wf=true:=by simp [Lit.wf,IntKind.min,IntKind.max,IntKind.bits,IntKind.signed];omega
theorem zL{x:Int}{ps:List MemPlace}(h:fW v=some (.lit (.int .i64 x),ps)):v=.int .i64 x:=by
 unfold fW at h;split at h
 ·simp at h;rw [h.1]
 ·simp at h
def nJ(sn:List Int)(x:Int):List Int×Int:=if eJ sn x<0 then (sn++[x],(sn.length:Int)) else (sn,eJ sn x)
theorem aSh(g:Nat)(D:DataW Unit)(sn:List Int)(x:Int)(w:World)(hown:w.ownsMap zu 3 fW g sn.length D)(hN:oK D sn)(h0:0<=x)(h1:x<=1000000000)(hf:sn.length<=1000000) :
  Calls zu 109 #[.map (some g),.int .i64 x] w λe w'=>∃D':DataW Unit,e=.returned (.int .i64 (nJ sn x).2)/\w'.ownsMap zu 3 fW g (nJ sn x).1.length D'/\oK D' (nJ sn x).1/\w.grownBy w' (some g):=by
 have hkey:keyOf zu 3 (.int .i64 x)=some (.int .i64 x):=Maps.keyOf_int_mk zj (aCc (by omega) (by omega));obtain ⟨v,ps,hrun,hv⟩:=hown.look_ok (Maps.int_keyed zj) zl (Tryz.zeroValue3 _) (zd:=.lit (.int .i64 0)) (zp:=[]) rfl hkey;by_cases hp:eJ sn x<0
 ·have HST:Hid (nJ sn x=(sn++[x],(sn.length:Int))):=aA (by unfold nJ;rw [if_pos hp]);have hhas:=hN.new x hp;rw [hhas] at hrun;rw [zH hN.tidy.isMap hhas] at hv;have hvv:=zL hv;subst hvv;have HN:=aA (hN.put hp);have HKEY:=aA hkey;have HSZ:=aA hN.size;have hlen:=hN.size;clear hv hhas hN hkey hp;go_enter Tryz.func109,Tryz.ntmps109;go_wp2_with (first
   | (at_len;refine wpList_len_own _ rfl _ 160 rfl 3 3 zl _ g sn.length D rfl hown ?_)
   | (at_mapUpdate;refine wpList_mapUpdate_own _ rfl _ _ _ 160 rfl 3 3 (Maps.int_keyed zj) zl fW g sn.length D rfl hown (by unfold maxLen;omega) _ _ (.int .i64 x) rfl rfl (aB HKEY) (.lit (.int .i64 sn.length)) [] ?_ ?_)
   | go_in)
  case refine_1=>rfl
  intro w1 hown1 hg1;have HO:=aA hown1;have HG:=aA hg1;clear hown1 hg1;go_wp2;go_ret;rw [HST.out];exact ⟨_,rfl,by rw [List.length_append];exact HO.out,HN.out,HG.out⟩
 ·have HST:Hid (nJ sn x=(sn,eJ sn x)):=aA (by unfold nJ;rw [if_neg hp]);have ho:=hN.old x (by omega);rw [ho.1] at hrun;rw [ho.2] at hv;have hvv:=zL hv;subst hvv;have HN:=aA hN;have HOW:=aA hown;clear hv ho hN hkey hp hown;go_enter Tryz.func109,Tryz.ntmps109;go_wp2;go_ret;rw [HST.out];exact ⟨D,rfl,HOW.out,HN.out,⟨rfl,rfl,rfl,zy _,λ_ _ _=>rfl⟩⟩
abbrev zM:Nd:=(⟨#[]⟩,0)
abbrev sD:Lt×Value:=((false,[]),.slice none 0 0)
theorem aCd(x:Nd)(r:List Nd):aG (x :: r)=.string x.1 :: .int .i64 x.2 :: aG r:=rfl
theorem zN(x:Lt×Value)(r:List (Lt×Value)):bA (x :: r)=.bool x.1.1 :: x.2 :: bA r:=rfl
theorem aSi(l:List Nd):∀(k:Nat) (x:Nd),k<l.length->((aG l).set (k*2) (.string x.1)).set (k*2+1) (.int .i64 x.2)=aG (l.set k x):=by
 induction l with
 | nil=>intro k x h;simp at h
 | cons y r ih=>
  intro k x h;cases k with
  | zero=>rfl
  | succ k=>
   have:=ih k x (by simpa using h);rw [show (k+1)*2=k*2+1+1 by omega,zz,aCd,aCd,zz,zz,zz,zz,this]
theorem aSj(l:List (Lt×Value)):∀(k:Nat) (x:Lt×Value),k<l.length->((bA l).set (k*2) (.bool x.1.1)).set (k*2+1) x.2=bA (l.set k x):=by
 induction l with
 | nil=>intro k x h;simp at h
 | cons y r ih=>
  intro k x h;cases k with
  | zero=>rfl
  | succ k=>
   have:=ih k x (by simpa using h);rw [show (k+1)*2=k*2+1+1 by omega,zz,zN,zN,zz,zz,zz,zz,this]
theorem aHl{α:Type}(a:List α)(z x:α)(m:Nat)(h:a.length<m):(a++zw (m-a.length) z).set a.length x=(a++[x])++zw (m-(a.length+1)) z:=by rw [show m-a.length=(m-(a.length+1))+1 by omega,zn,zg _ _ (zy _)];simp
theorem aSk(n:Nat):∀j,(aG (zw n zM))[j]?=if j<n*2 then some (if j % 2=0 then .string ⟨#[]⟩ else .int .i64 0) else none:=by
 induction n with
 | zero=>intro j;simp [aG]
 | succ n ih=>
  intro j;rw [zn,aCd];match j with
  | 0=>simp
  | 1=>simp;omega
  | j+2=>
   simp only [zi];rw [ih j];have e:(j+2) % 2=j % 2:=by omega
   rw [e];by_cases h:j<n*2
   ·rw [if_pos h,if_pos (show j+2<(n+1)*2 by omega)]
   ·rw [if_neg h,if_neg (show ¬j+2<(n+1)*2 by omega)]
theorem aSl(n:Nat):∀j,(bA (zw n sD))[j]?=if j<n*2 then some (if j % 2=0 then .bool false else .slice none 0 0) else none:=by
 induction n with
 | zero=>intro j;simp [bA]
 | succ n ih=>
  intro j;rw [zn,zN];match j with
  | 0=>simp
  | 1=>simp;omega
  | j+2=>
   simp only [zi];rw [ih j];have e:(j+2) % 2=j % 2:=by omega
   rw [e];by_cases h:j<n*2
   ·rw [if_pos h,if_pos (show j+2<(n+1)*2 by omega)]
   ·rw [if_neg h,if_neg (show ¬j+2<(n+1)*2 by omega)]
theorem aSm(n:Nat):(madeCells #[.string ⟨#[]⟩,.int .i64 0] (n*2)).toList=aG (zw n zM):=by
 apply ze;intro j;rw [aSk];by_cases hj:j<n*2
 ·rw [if_pos hj];rcases zk j with h | h <;> simp [madeCells,hj,h]
 ·rw [if_neg hj];simp [madeCells];omega
theorem aSn(n:Nat):(madeCells #[.bool false,.slice none 0 0] (n*2)).toList=bA (zw n sD):=by
 apply ze;intro j;rw [aSl];by_cases hj:j<n*2
 ·rw [if_pos hj];rcases zk j with h | h <;> simp [madeCells,hj,h]
 ·rw [if_neg hj];simp [madeCells];omega
theorem aHm{e:TypeId}{size:Nat}{n k m:Nat}{xs:List Value}{D:DataW Unit}(h:w.ownsRow B e size v n xs)(hm:w.ownsMap zu 3 fW k m D):v.ownBlock≠some k:=by
 obtain ⟨es,clock,hh,_⟩:=hm;obtain ⟨_,⟨rfl,_⟩ | ⟨g,cap,cur,rfl,_,hg,_⟩⟩:=h
 ·simp [zv]
 ·simp [zv];rintro rfl;rw [hh] at hg;simp at hg
theorem qN{e:TypeId}{size:Nat}{n:Nat}{xs:List Value}(h:w.ownsRow B e size v n xs){p:Addr}(hp:some p.block≠v.ownBlock)(u:Value):(w.setCell p u).ownsRow B e size v n xs:=by
 obtain ⟨h1,⟨rfl,h2⟩ | ⟨g,cap,cur,rfl,hb,hh,hr⟩⟩:=h
 ·exact ⟨h1,zc ⟨rfl,h2⟩⟩
 ·refine ⟨h1,zs ⟨g,cap,cur,rfl,hb,?_,hr⟩⟩;rw [heap_setCell_other _ _ _ _ (λe=>hp (by simp [zv,e])),hh]
structure Rw where
 node:Nd
 cls:Nat
 parts:List Nat
def fC(P:List (Rw×Value)):List Value:=P.flatMap λp=>[.string p.1.node.1,.int .i64 p.1.node.2,p.2,.int .i64 p.1.cls]
theorem vG(x:Rw×Value)(r:List (Rw×Value)):fC (x :: r)=.string x.1.node.1 :: .int .i64 x.1.node.2 :: x.2 :: .int .i64 x.1.cls :: fC r:=rfl
theorem aSo(P:List (Rw×Value)):∀k (h:k<P.length),(fC P)[k*4]?=some (.string P[k].1.node.1)/\(fC P)[k*4+1]?=some (.int .i64 P[k].1.node.2)/\(fC P)[k*4+2]?=some P[k].2/\(fC P)[k*4+3]?=some (.int .i64 P[k].1.cls):=by
 induction P with
 | nil=>intro k h;simp at h
 | cons x r ih=>
  intro k h;cases k with
  | zero=>simp [vG]
  | succ k=>
   have:=ih k (by simpa using h);rw [vG,show (k+1)*4=k*4+1+1+1+1 by omega];simpa [show k*4+1+1+1+1+1=(k*4+1)+1+1+1+1 by omega,show k*4+1+1+1+1+2=(k*4+2)+1+1+1+1 by omega,show k*4+1+1+1+1+3=(k*4+3)+1+1+1+1 by omega] using this
theorem aSp(P:List (Rw×Value)):∀(k:Nat) (h:k<P.length) (c:Nat),(fC P).set (k*4+3) (.int .i64 c)=fC (P.set k ({P[k].1 with cls:=c},P[k].2)):=by
 induction P with
 | nil=>intro k h;simp at h
 | cons x r ih=>
  intro k h c;cases k with
  | zero=>rfl
  | succ k=>
   have:=ih k (by simpa using h) c;rw [show (k+1)*4+3=k*4+3+1+1+1+1 by omega,zz,vG,vG,zz,zz,zz,zz,this];rfl
structure bU(w:World)(B tp:Nat)(v:Value)(P:List (Rw×Value)):Prop where
 box:w.heap[tp]?=some (.cells #[v] 63)
 high:B<=tp
 row:w.ownsRow B 94 4 v P.length (fC P)
 parts:∀p∈P,w.ownsRow B 3 1 p.2 p.1.parts.length (p.1.parts.map λx:Nat=>Value.int .i64 x)
theorem bU.cell{P:List (Rw×Value)}(h:bU w B tp v P):w.cell? ⟨tp,0,none⟩=some v:=by simp [World.cell?,h.box]
theorem bU.soft{P:List (Rw×Value)}(h:bU w B tp v P):w.frozen? ⟨tp,0,none⟩=false:=by simp [World.frozen?,h.box]
theorem bU.drewN{P:List (Rw×Value)}(h:bU w B tp v P)(d:Nat):bU (w.drewN d) B tp v P:=⟨h.box,h.high,h.row,h.parts⟩
theorem bU.shape{P:List (Rw×Value)}(h:bU w B tp v P) :
  ∃a cap,v=.slice a P.length cap/\∀k (h:k<P.length),∃g,a=some ⟨g,0,none⟩/\w.cell? ⟨g,k*4,none⟩=some (.string P[k].1.node.1)/\w.cell? ⟨g,k*4+1,none⟩=some (.int .i64 P[k].1.node.2)/\w.cell? ⟨g,k*4+2,none⟩=some P[k].2/\w.cell? ⟨g,k*4+3,none⟩=some (.int .i64 P[k].1.cls):=by
 obtain ⟨h1,⟨rfl,h2⟩ | ⟨g,cap,cur,rfl,hb,hh,hc,hm,hz,ht⟩⟩:=h.row
 ·exact ⟨none,0,by rw [h2],λk hk=>by omega⟩
 ·have ho:w.ownsRow B 94 4 (.slice (some ⟨g,0,none⟩) P.length cap) P.length (fC P):=⟨h1,zs ⟨g,cap,cur,rfl,hb,hh,hc,hm,hz,ht⟩⟩;refine ⟨_,_,rfl,λk hk=>⟨g,rfl,?_⟩⟩;obtain ⟨a,b,c,d⟩:=aSo P k hk;refine ⟨?_,?_,?_,?_⟩
  ·rw [ho.cellAt _ (by omega),a]
  ·rw [ho.cellAt _ (by omega),b]
  ·rw [ho.cellAt _ (by omega),c]
  ·rw [ho.cellAt _ (by omega),d]
def aHn(P:List (Rw×Value))(c:Nat)(r:Int):Prop:=(r=-1/\∀i (h:i<P.length),¬(P[i].1.cls=c/\aF P[i].1.node=false))\/∃h:Nat,r=h/\∃hl:h<P.length,P[h].1.cls=c/\aF P[h].1.node=false
theorem aHo(B tp:Nat)(v:Value)(P:List (Rw×Value))(c:Nat)(w:World)(h:bU w B tp v P)(hf:P.length<=1000000) :
  Calls zu 71 #[.pointer (some ⟨tp,0,none⟩),.int .i64 c] w λe w'=>∃r:Int,e=.returned (.int .i64 r)/\aHn P c r/\∃d,w'=w.drewN d:=by
 obtain ⟨a,cap,rfl,hc⟩:=h.shape;have hcell:=h.cell;have HC:=aA hc;clear hc h;go_enter Tryz.func71,Tryz.ntmps71;go_wp2;go_loopw [5] (λi wr=>∃k:Nat,k<=P.length/\i=.int .i64 k/\(∀i (h:i<k) (h':i<P.length),¬(P[i].1.cls=c/\aF P[i].1.node=false))/\∃d,wr=w.drewN d) (λi _=>P.length-(intOf i).toNat);case atStart=>exact ⟨0,zf _,rfl,λi h=>by omega,0,rfl⟩
 case round=>
  obtain ⟨k,hk,rfl,hno,d,rfl⟩:=hrel;by_cases hlt:k<P.length
  ·have hlti:(k:Int)<(P.length:Int):=by omega
   obtain ⟨g,rfl,e1,e2,e3,e4⟩:=HC.out k hlt;have HNO:=aA hno;have HP:=aA (show ∀q:Bool,(P[k].1.cls=c/\aF P[k].1.node=false)\/¬(P[k].1.cls=c/\aF P[k].1.node=false) from λ_=>Classical.em _);clear hno e2 e3 HP;have HE:=aA (show P[k]=P[k] from rfl);generalize hpk:P[k]=pk at e1 e4;obtain ⟨⟨⟨s,x⟩,cl,pt⟩,pv⟩:=pk;simp only at e1 e4;have HPK:=aA hpk;clear hpk HE;by_cases hcc:cl=c
   ·subst hcc;by_cases hv:s.toList.isEmpty=true
    ·go_wp2;go_roundw;case rel=>
      refine ⟨k+1,by omega,by go_num,λi h h'=>?_,d,rfl⟩;by_cases hi:i<k
      ·exact HNO.out i hi h'
      ·have:i=k:=by omega
       subst this;rw [HPK.out];simp [aF,hv]
     case measure=>simp [intOf];omega
    ·go_wp2;go_ret;exact ⟨_,rfl,zs ⟨k,rfl,hlt,by rw [HPK.out],by rw [HPK.out];simpa [aF] using hv⟩,d,rfl⟩
   ·have hcc':¬((cl:Int)=(c:Int)):=by omega
    go_wp2;go_roundw;case rel=>
     refine ⟨k+1,by omega,by go_num,λi h h'=>?_,d,rfl⟩;by_cases hi:i<k
     ·exact HNO.out i hi h'
     ·have:i=k:=by omega
      subst this;rw [HPK.out];simp [hcc]
    case measure=>simp [intOf];omega
  ·have hlti:¬((k:Int)<(P.length:Int)):=by omega
   have HNO:=aA hno;clear hno;go_wp2;go_ret;exact ⟨_,rfl,zc ⟨rfl,λi h=>HNO.out i (by omega) h⟩,d,rfl⟩
def kS(x y:Nat)(p:Rw×Value):Rw×Value:=if p.1.cls=y then ({p.1 with cls:=x},p.2) else p
def fX(P:List (Rw×Value))(x y:Nat):List (Rw×Value):=P.map (kS x y)
def jQ(P:List (Rw×Value))(x y k:Nat):List (Rw×Value):=(P.take k).map (kS x y)++P.drop k
theorem aSq(P:List (Rw×Value))(x y:Nat):jQ P x y 0=P:=by simp [jQ]
theorem aSr(P:List (Rw×Value))(x y:Nat):jQ P x y P.length=fX P x y:=by simp [jQ,fX]
theorem aSs(P:List (Rw×Value))(x y k:Nat):(jQ P x y k).length=P.length:=by simp [jQ];omega
theorem aSt(P:List (Rw×Value))(x y k:Nat)(h:k<P.length)(h':k<(jQ P x y k).length):(jQ P x y k)[k]=P[k]:=by simp [jQ,Nat.min_eq_left (Nat.le_of_lt h)]
theorem aSu(P:List (Rw×Value))(x y k:Nat)(h:k<P.length):jQ P x y (k+1)=(jQ P x y k).set k (kS x y P[k]):=by unfold jQ;rw [zt h,List.drop_eq_getElem_cons h,List.map_append,zg _ _ (by simp;omega)];simp only [List.length_map,List.length_take,Nat.min_eq_left (Nat.le_of_lt h),Nat.sub_self,List.set_cons_zero,List.map_cons,List.map_nil,List.append_assoc,List.cons_append,List.nil_append]
theorem vH(x y:Nat)(p:Rw×Value):(kS x y p).2=p.2/\(kS x y p).1.parts=p.1.parts/\(kS x y p).1.node=p.1.node:=by unfold kS;split <;> simp
theorem aHp(P:List (Rw×Value))(x:Nat):fX P x x=P:=by
 unfold fX;rw [List.map_congr_left (g:=id)]
 ·simp
 ·intro p _;unfold kS;split
  ·rename_i h;obtain ⟨⟨n,c,q⟩,v⟩:=p;simp at h;subst h;rfl
  ·rfl
theorem bU.ne{P:List (Rw×Value)}(h:bU w B tp v P):v.ownBlock≠some tp:=by
 obtain ⟨_,⟨rfl,_⟩ | ⟨g,cap,cur,rfl,hb,hh,_⟩⟩:=h.row
 ·simp [zv]
 ·simp [zv];rintro rfl;have hb:=h.box;rw [hh] at hb;simp at hb
theorem bU.cls{g cap:Nat}{P:List (Rw×Value)}(h:bU w B tp (.slice (some ⟨g,0,none⟩) P.length cap) P)(k:Nat)(hk:k<P.length)(c:Nat) :
  bU (w.setCell ⟨g,k*4+3,none⟩ (.int .i64 c)) B tp (.slice (some ⟨g,0,none⟩) P.length cap) (P.set k ({P[k].1 with cls:=c},P[k].2)):=by
 have hne:=h.ne;simp [zv] at hne;refine ⟨?_,h.high,?_,?_⟩
 ·rw [heap_setCell_other _ _ _ _ (by simpa using λe=>hne e.symm),h.box]
 ·have r:=(h.row.stored (k*4+3) (.int .i64 c)).1;rw [aSp P k hk c] at r;simpa using r
 ·intro p hp;have key:∀q∈P,(w.setCell ⟨g,k*4+3,none⟩ (.int .i64 c)).ownsRow B 3 1 q.2 q.1.parts.length (q.1.parts.map λx:Nat=>Value.int .i64 x):=λq hq=>
   qN (h.parts q hq) (by
    rcases bW (h.parts q hq) h.row (by decide) with e | e
    ·rw [e];simp
    ·exact λe'=>e (by rw [<-e'];rfl)) _
  rcases List.mem_or_eq_of_mem_set hp with hp | rfl
  ·exact key p hp
  ·exact key P[k] (zq _)
theorem bU.frozen{g cap:Nat}{P:List (Rw×Value)}(h:bU w B tp (.slice (some ⟨g,0,none⟩) P.length cap) P)(j:Nat):w.frozen? ⟨g,j,none⟩=false:=h.row.frozenAt j
theorem aHq(B tp:Nat)(v:Value)(P:List (Rw×Value))(a b:Nat)(ha:a<P.length)(hb:b<P.length)(w:World)(h:bU w B tp v P)(hf:P.length<=1000000) :
  Calls zu 69 #[.pointer (some ⟨tp,0,none⟩),.int .i64 a,.int .i64 b] w λe w'=>e=.returned (.bool (decide (P[a].1.cls≠P[b].1.cls)))/\bU w' B tp v (fX P P[a].1.cls P[b].1.cls)/\w.grownBy w' v.ownBlock:=by
 obtain ⟨o,cap,rfl,hc⟩:=h.shape;have hcell:=h.cell;obtain ⟨g,rfl,q1,q2,q3,ea⟩:=hc a ha;obtain ⟨g',hg',q4,q5,q6,eb⟩:=hc b hb;clear q1 q2 q3 q4 q5 q6;simp at hg';subst hg';have hai:(a:Int)<(P.length:Int):=by omega
 have hbi:(b:Int)<(P.length:Int):=by omega
 generalize P[a].1.cls=x at *;generalize P[b].1.cls=y at *;have HT:=aA h;clear h hc;by_cases hxy:x=y
 ·subst hxy;have HJ:=aA (aHp P x);go_enter Tryz.func69,Tryz.ntmps69;go_wp2;go_ret;exact ⟨cI (by simp),by rw [HJ.out];exact HT.out,⟨rfl,rfl,rfl,zy _,λ_ _ _=>rfl⟩⟩
 ·have hxy':¬((x:Int)=(y:Int)):=by omega
  go_enter Tryz.func69,Tryz.ntmps69;go_wp2;go_loopw [9] (λi wr=>∃k:Nat,k<=P.length/\i=.int .i64 k/\bU wr B tp (.slice (some ⟨g,0,none⟩) P.length cap) (jQ P x y k)/\w.grownBy wr (some g)) (λi _=>P.length-(intOf i).toNat);case atStart=>exact ⟨0,zf _,rfl,by rw [aSq];exact HT.out,⟨rfl,rfl,rfl,zy _,λ_ _ _=>rfl⟩⟩
  case round=>
   obtain ⟨k,hk,rfl,hT,hg⟩:=hrel;have c1:=hT.cell;have hlen:=aSs P x y k;by_cases hlt:k<P.length
   ·have hlti:(k:Int)<(P.length:Int):=by omega
    obtain ⟨o',cap',e',hc'⟩:=hT.shape;obtain ⟨g2,rfl,q1,q2,q3,e3⟩:=hc' k (by omega);simp at e';obtain ⟨rfl,q4,rfl⟩:=e';clear q1 q2 q3 q4;have hat:=aSt P x y k hlt (by omega);rw [hat] at e3;have hcl:=bU.cls (P:=jQ P x y k) (cap:=cap) (by rw [hlen];exact hT) k (by omega) x;rw [hat,hlen] at hcl;have hfz:=bU.frozen (P:=jQ P x y k) (cap:=cap) (by rw [hlen];exact hT) (k*4+3);have hsu:=aSu P x y k hlt;have HT1:=aA hT;have HCL:=aA hcl;have HG:=aA hg;have hcv:∀c,P[k].1.cls=c->c=y->kS x y P[k]=({P[k].1 with cls:=x},P[k].2):=λc h1 h2=>by unfold kS;rw [if_pos (h1.trans h2)]
    have hcn:∀c,P[k].1.cls=c->c≠y->kS x y P[k]=P[k]:=λc h1 h2=>by unfold kS;rw [if_neg (by rw [h1];exact h2)]
    have HCV:=aA hcv;have hsn:∀c,P[k].1.cls=c->c≠y->jQ P x y (k+1)=jQ P x y k:=λc h1 h2=>by rw [hsu,hcn c h1 h2,<-hat,List.set_getElem_self]
    have HSN:=aA hsn;have HSU:=aA hsu;generalize hcl':P[k].1.cls=cl at e3;have HC1:=aA hcl';clear hT hcl hg hcv hcn hsn hsu hat hcl' hc' hlen;by_cases hcy:cl=y
    ·subst hcy;go_wp2;go_roundw;case rel=>
      refine ⟨k+1,by omega,by go_num,?_,HG.out.trans (bR _ _ _)⟩;rw [HSU.out,HCV.out _ HC1.out rfl];exact HCL.out
     case measure=>simp [intOf];omega
    ·have hcy':¬((cl:Int)=(y:Int)):=by omega
     go_wp2;go_roundw;case rel=>
      refine ⟨k+1,by omega,by go_num,?_,HG.out⟩;rw [HSN.out _ HC1.out hcy];exact HT1.out
     case measure=>simp [intOf];omega
   ·have hlti:¬((k:Int)<(P.length:Int)):=by omega
    have hke:k=P.length:=by omega
    rw [hke,aSr] at hT;have HT1:=aA hT;have HG:=aA hg;clear hT hg;go_wp2;go_ret;exact ⟨cI (by simp),HT1.out,HG.out⟩
abbrev Tb:=List (Rw×Value)
def aV(P:Tb):Gr:=⟨λi=>if h:i<P.length then P[i].1.node else (⟨#[]⟩,0),λi=>if h:i<P.length then P[i].1.parts else []⟩
def aZ(P:Tb)(i j:Nat):Prop:=i=j\/∃(hi:i<P.length) (hj:j<P.length),P[i].1.cls=P[j].1.cls
structure gS(P:Tb):Prop where
 parts:∀i (h:i<P.length),∀q∈P[i].1.parts,q<P.length
 cls:∀i (h:i<P.length),P[i].1.cls<P.length
 ary:∀i (h:i<P.length),aF P[i].1.node=false->(P[i].1.parts.length:Int)=P[i].1.node.2
theorem kT(P:Tb)(x y:Nat):(fX P x y).length=P.length:=by simp [fX]
theorem nK(P:Tb)(x y i:Nat)(h:i<P.length)(h':i<(fX P x y).length):(fX P x y)[i]=kS x y P[i]:=by simp [fX]
theorem aHr(P:Tb)(x y:Nat):aV (fX P x y)=aV P:=by
 unfold aV;congr 1
 ·funext i
  by_cases h:i<P.length
  ·simp only [kT,dif_pos h,nK P x y i h,(vH x y _).2.2]
  ·simp only [kT,dif_neg h]
 ·funext i
  by_cases h:i<P.length
  ·simp only [kT,dif_pos h,nK P x y i h,(vH x y _).2.1]
  ·simp only [kT,dif_neg h]
theorem oL{P:Tb}(h:(aV P).named i):∃h:i<P.length,aF P[i].1.node=false:=by
 unfold Gr.named aV at h;simp only at h;by_cases hl:i<P.length
 ·rw [dif_pos hl] at h;exact ⟨hl,h⟩
 ·rw [dif_neg hl,oI] at h;cases h
theorem mF(P:Tb)(i:Nat)(h:i<P.length):(aV P).lab i=P[i].1.node:=by simp [aV,h]
theorem pF(P:Tb)(i:Nat)(h:i<P.length):(aV P).ch i=P[i].1.parts:=by simp [aV,h]
theorem qO(x y:Nat)(p:Rw×Value):(kS x y p).1.cls=if p.1.cls=y then x else p.1.cls:=by unfold kS;split <;> simp_all
theorem gS.join{P:Tb}(h:gS P)(x y:Nat)(hx:x<P.length):gS (fX P x y):=by
 refine ⟨λi hi q hq=>?_,λi hi=>?_,λi hi hv=>?_⟩
 ·rw [kT] at hi ⊢;rw [nK P x y i hi,(vH x y _).2.1] at hq;exact h.parts i hi q hq
 ·rw [kT] at hi ⊢;rw [nK P x y i hi,qO];split
  ·exact hx
  ·exact h.cls i hi
 ·have hi':=hi;rw [kT] at hi;rw [nK P x y i hi,(vH x y _).2.2] at hv ⊢;rw [(vH x y _).2.1];exact h.ary i hi hv
theorem gS.arity{P:Tb}(h:gS P):(aV P).Arity:=by intro i j hi hj e;obtain ⟨h1,v1⟩:=oL hi;obtain ⟨h2,v2⟩:=oL hj;rw [mF P i h1,mF P j h2] at e;rw [pF P i h1,pF P j h2];have a:=h.ary i h1 v1;have b:=h.ary j h2 v2;rw [e] at a;omega
theorem aZ.refl(P:Tb)(i:Nat):aZ P i i:=zc rfl
theorem aZ.symm{P:Tb}{j:Nat}(h:aZ P i j):aZ P j i:=by
 rcases h with rfl | ⟨a,b,e⟩
 ·exact zc rfl
 ·exact zs ⟨b,a,e.symm⟩
theorem aZ.trans{P:Tb}{i j k:Nat}(h:aZ P i j)(h':aZ P j k):aZ P i k:=by
 rcases h with rfl | ⟨a,b,e⟩
 ·exact h'
 ·rcases h' with rfl | ⟨c,d,e'⟩
  ·exact zs ⟨a,b,e⟩
  ·exact zs ⟨a,d,e.trans e'⟩
theorem aZ.iff{P:Tb}{j:Nat}(hi:i<P.length)(hj:j<P.length):aZ P i j↔P[i].1.cls=P[j].1.cls:=by
 constructor
 ·rintro (rfl | ⟨_,_,e⟩)
  ·rfl
  ·exact e
 ·intro e;exact zs ⟨hi,hj,e⟩
theorem aHs{P:Tb}{C:Nat->Nat->Prop}(hs:∀i j,aZ P i j->C i j)(h1:∀i j,C i j->C j i)(h2:∀i j k,C i j->C j k->C i k){u v:Nat}(hu:u<P.length)(hv:v<P.length)(huv:C u v)(i j:Nat)(h:aZ (fX P P[u].1.cls P[v].1.cls) i j):C i j:=by
 rcases h with rfl | ⟨a,b,e⟩
 ·exact hs i i (zc rfl)
 ·rw [kT] at a b;rw [nK _ _ _ i a,nK _ _ _ j b,qO,qO] at e;have iv:P[i].1.cls=P[v].1.cls->C i v:=λe=>hs i v (zs ⟨a,hv,e⟩)
  have jv:P[j].1.cls=P[v].1.cls->C j v:=λe=>hs j v (zs ⟨b,hv,e⟩)
  have iu:P[i].1.cls=P[u].1.cls->C i u:=λe=>hs i u (zs ⟨a,hu,e⟩)
  have ju:P[j].1.cls=P[u].1.cls->C j u:=λe=>hs j u (zs ⟨b,hu,e⟩)
  by_cases hi:P[i].1.cls=P[v].1.cls
  ·by_cases hj:P[j].1.cls=P[v].1.cls
   ·exact h2 _ _ _ (iv hi) (h1 _ _ (jv hj))
   ·rw [if_pos hi,if_neg hj] at e;exact h2 _ _ _ (h2 _ _ _ (iv hi) (h1 _ _ huv)) (h1 _ _ (ju e.symm))
  ·by_cases hj:P[j].1.cls=P[v].1.cls
   ·rw [if_neg hi,if_pos hj] at e;exact h2 _ _ _ (h2 _ _ _ (iu e) huv) (h1 _ _ (jv hj))
   ·rw [if_neg hi,if_neg hj] at e;exact hs i j (zs ⟨a,b,e⟩)
theorem aHt{P:Tb}{x y j:Nat}(h:aZ P i j):aZ (fX P x y) i j:=by
 rcases h with rfl | ⟨a,b,e⟩
 ·exact zc rfl
 ·refine zs ⟨by rw [kT];exact a,by rw [kT];exact b,?_⟩;rw [nK _ _ _ i a,nK _ _ _ j b,qO,qO,e]
theorem aSv{P:Tb}{u v:Nat}(hu:u<P.length)(hv:v<P.length):aZ (fX P P[u].1.cls P[v].1.cls) u v:=by refine zs ⟨by rw [kT];exact hu,by rw [kT];exact hv,?_⟩;rw [nK _ _ _ u hu,nK _ _ _ v hv,qO,qO,if_pos rfl];split <;> rfl
structure qP(P0:Tb)(B:Nat->Nat->Prop)(P:Tb):Prop where
 gr:aV P=aV P0
 len:P.length=P0.length
 ok:gS P
 sound:∀i j,aZ P i j->Cl (aV P0) B i j
 base:∀i j,B i j->aZ P i j
theorem qP.join{P0 P:Tb}{B:Nat->Nat->Prop}(h:qP P0 B P){u v:Nat}(hu:u<P.length)(hv:v<P.length)(huv:Cl (aV P0) B u v):qP P0 B (fX P P[u].1.cls P[v].1.cls):=
 ⟨by rw [aHr,h.gr],by rw [kT,h.len],h.ok.join _ _ (h.ok.cls u hu),aHs h.sound (λ_ _=>Cl.symm) (λ_ _ _=>Cl.trans) hu hv huv,λi j hb=>aHt (h.base i j hb)⟩
def jI(P:Tb)(i k:Nat):Prop:=∀(hi:i<P.length) (hk:k<P.length),P[i].1.cls=P[k].1.cls->aF P[i].1.node=false->aF P[k].1.node=false->P[i].1.node=P[k].1.node/\∀p q r:Nat,P[i].1.parts[p]?=some q->P[k].1.parts[p]?=some r->aZ P q r
theorem qP.done{P0 P:Tb}{B:Nat->Nat->Prop}(h:qP P0 B P)(hf:∀i k,k<i->i<P.length->jI P i k):(∀i j,aZ P i j↔Cl (aV P0) B i j)/\dW (aV P0) (Cl (aV P0) B):=by
 have hfs:∀i k,i≠k->(hi:i<P.length)->(hk:k<P.length)->P[i].1.cls=P[k].1.cls->aF P[i].1.node=false->aF P[k].1.node=false->P[i].1.node=P[k].1.node/\∀p q r:Nat,P[i].1.parts[p]?=some q->P[k].1.parts[p]?=some r->aZ P q r:=by
  intro i k hne hi hk e v1 v2;by_cases hlt:k<i
  ·exact hf i k hlt hi hi hk e v1 v2
  ·obtain ⟨a,b⟩:=hf k i (by omega) hk hk hi e.symm v2 v1;exact ⟨a.symm,λp q r h1 h2=>(b p r q h2 h1).symm⟩
 have hd:eK (aV P0) (aZ P):=by
  refine ⟨aZ.refl P,λ_ _=>aZ.symm,λ_ _ _=>aZ.trans,λi j k p q hij hi hj hp hq=>?_⟩;rw [<-h.gr] at hi hj hp hq;obtain ⟨h1,v1⟩:=oL hi;obtain ⟨h2,v2⟩:=oL hj;by_cases hne:i=j
  ·subst hne;rw [hp] at hq;simp at hq;exact zc hq
  ·rw [pF P i h1] at hp;rw [pF P j h2] at hq;exact (hfs i j hne h1 h2 ((aZ.iff h1 h2).1 hij) v1 v2).2 k p q hp hq
 have hiff:∀i j,aZ P i j↔Cl (aV P0) B i j:=λi j=>⟨h.sound i j,Cl.le hd h.base⟩
 refine ⟨hiff,λi j hij hi hj=>?_⟩;have hij':=(hiff i j).2 hij;rw [<-h.gr] at hi hj ⊢;obtain ⟨h1,v1⟩:=oL hi;obtain ⟨h2,v2⟩:=oL hj;rw [mF P i h1,mF P j h2];by_cases hne:i=j
 ·subst hne;rfl
 ·exact (hfs i j hne h1 h2 ((aZ.iff h1 h2).1 hij') v1 v2).1
theorem qP.clash{P0 P:Tb}{B:Nat->Nat->Prop}(h:qP P0 B P){i k:Nat}(hi:i<P.length)(hk:k<P.length)(e:P[i].1.cls=P[k].1.cls)(v1:aF P[i].1.node=false)(v2:aF P[k].1.node=false)(hn:P[i].1.node≠P[k].1.node):¬dW (aV P0) (Cl (aV P0) B):=by
 intro n;have hij:=h.sound i k (zs ⟨hi,hk,e⟩);rw [<-h.gr] at n;have n1:(aV P).named i:=by show aF ((aV P).lab i)=false;rw [mF P i hi];exact v1
 have n2:(aV P).named k:=by show aF ((aV P).lab k)=false;rw [mF P k hk];exact v2
 have:=n i k (by rw [h.gr];exact hij) n1 n2;rw [mF P i hi,mF P k hk] at this;exact hn this
def wV(n:Nat)(l:List Nat):Nat:=(List.range n).countP λc=>l.contains c
theorem aHu{α:Type}(l:List α)(p q:α->Bool)(h:∀x∈l,p x=true->q x=true)(x:α)(hx:x∈l)(hp:p x=false)(hq:q x=true):l.countP p<l.countP q:=by
 induction l with
 | nil=>simp at hx
 | cons y r ih=>
  have hr:r.countP p<=r.countP q:=List.countP_mono_left λz hz=>h z (by simp [hz])
  rcases List.mem_cons.1 hx with rfl | hx
  ·rw [zo,zo,hp,hq];simp;omega
  ·have:=ih (λz hz=>h z (by simp [hz])) hx;rw [zo,zo];have hy:=h y (by simp);cases hpy:p y
   ·cases q y <;> simp <;> omega
   ·rw [hy hpy];simp;omega
theorem aSw{P:Tb}(hok:gS P){u v:Nat}(hu:u<P.length)(hv:v<P.length)(hne:P[u].1.cls≠P[v].1.cls):wV P.length ((fX P P[u].1.cls P[v].1.cls).map λp=>p.1.cls)<wV P.length (P.map λp=>p.1.cls):=by
 unfold wV;refine aHu _ _ _ ?_ P[v].1.cls (by simp;exact hok.cls v hv) ?_ ?_
 ·intro c _ hc;simp only [zr,zm] at hc ⊢;obtain ⟨p,hp,rfl⟩:=hc;obtain ⟨q,hq,rfl⟩:=zm.1 hp;rw [qO];split
  ·exact ⟨P[u],zq _,rfl⟩
  ·exact ⟨q,hq,rfl⟩
 ·rw [<-Bool.not_eq_true];simp only [zr,zm];rintro ⟨p,hp,e⟩;obtain ⟨q,hq,rfl⟩:=zm.1 hp;rw [qO] at e;split at e
  ·exact hne e
  ·rename_i h;exact h e
 ·simp only [zr,zm];exact ⟨P[v],zq _,rfl⟩
end
end Go.Proofs.YtcldkjcpofjmhaaGreatDoor
