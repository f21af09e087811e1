import Derived.Test.YtcldkjcpofjmhaaGreatDoorRefs1M
import Derived.Test.YtcldkjcpofjmhaaGreatDoorText0M
import Derived.OwnWalk
import Derived.Test.YtcldkjcpofjmhaaGreatDoorRTermM
open List renaming set_cons_succ→zz,countP_cons→zy,replicate→zx,contains_iff_mem→zt,replicate_succ→zr,mem_map→zq,getElem?_append_right→zl,getElem?_eq_some_iff→zk,getElem?_append_left→zj,ext_getElem?→zi,getElem?_cons_succ→zg,cons_append→zf,getElem_mem→ze,set_append_right→zc,getElem?_eq_none→zb,mem_of_getElem?→za,drop_succ_cons→z0,mem_cons→z1,getD→z3
open Nat renaming add_comm→zv,le_refl→zs,mod_two_eq_zero_or_one→zm
open Or renaming inr→zu,inl→z2
namespace Go.Proofs.YtcldkjcpofjmhaaGreatDoor
open _root_.Go.Proofs.Tryz renaming prog→zo,underlying160→zn,underlying3→zh
open Value renaming ownBlock→zw
set_option maxHeartbeats 2000000
set_option maxRecDepth 100000
section
open Go.RowKit Go.Shelf Go.WideMaps
def fN(v:Value):Option (DataW Unit×List MemPlace):=
 match v with
 | .int .i64 x=>some (.lit (.int .i64 x),[])
 | _=>none
structure oA(D:DataW Unit)(sn:List Int):Prop where
 tidy:Maps.Tidy D
 size:Maps.size D=sn.length
 old:∀x,0<=eF sn x->Maps.has D (.int .i64 x)=true/\∀z,D.atKey (.int .i64 x) z=.lit (.int .i64 (eF sn x))
 new:∀x,eF sn x<0->Maps.has D (.int .i64 x)=false
theorem oA.start:oA (.map []) []:=⟨⟨[],rfl,by simp⟩,rfl,λx h=>by rw [aEc] at h;omega,λx _=>rfl⟩
theorem oA.put{D:DataW Unit}{sn:List Int}{x:Int}(h:oA D sn)(hx:eF sn x<0):oA (D.put (.int .i64 x) (.lit (.int .i64 sn.length))) (sn++[x]):=by
 have hkey:WideAt.IsKeyLit (.int .i64 x):=trivial;refine ⟨h.tidy.put hkey _,?_,λy hy=>?_,λy hy=>?_⟩
 ·rw [Maps.size_put h.tidy,h.new x hx,h.size];simp
 ·rw [vU] at hy ⊢;by_cases he:x=y
  ·subst he;rw [if_pos rfl];exact ⟨Maps.has_put_same h.tidy.isMap hkey _,λz=>Maps.atKey_put_same h.tidy.isMap hkey _ _⟩
  ·rw [if_neg he] at hy ⊢;have hne:(Lit.int .i64 y)≠.int .i64 x:=λe=>he (by simpa using e.symm)
   have ho:=h.old y hy;exact ⟨by rw [Maps.has_put_other hne];exact ho.1,λz=>by rw [Maps.atKey_put_other hne];exact ho.2 z⟩
 ·rw [vU] at hy;by_cases he:x=y
  ·rw [if_pos he] at hy;omega
  ·rw [if_neg he] at hy;have hne:(Lit.int .i64 y)≠.int .i64 x:=λe=>he (by simpa using e.symm)
   rw [Maps.has_put_other hne];exact h.new y hy
theorem aBp{x:Int}(h0 : -1000000000<=x)(h1:x<=1000000000):(Lit.int .i64 x).wf=true:=by simp [Lit.wf,IntKind.min,IntKind.max,IntKind.bits,IntKind.signed];omega
theorem yT{v:Value}{x:Int}{ps:List MemPlace}(h:fN v=some (.lit (.int .i64 x),ps)):v=.int .i64 x:=by
 unfold fN at h;split at h
 ·simp at h;rw [h.1]
 ·simp at h
def mT(sn:List Int)(x:Int):List Int×Int:=if eF sn x<0 then (sn++[x],(sn.length:Int)) else (sn,eF sn x)
theorem aPh(g:Nat)(D:DataW Unit)(sn:List Int)(x:Int)(w:World)(hown:w.ownsMap zo 3 fN g sn.length D)(hN:oA D sn)(h0:0<=x)(h1:x<=1000000000)(hf:sn.length<=1000000) :
  Calls zo 109 #[.map (some g),.int .i64 x] w λe w'=>∃D':DataW Unit,e=.returned (.int .i64 (mT sn x).2)/\w'.ownsMap zo 3 fN g (mT sn x).1.length D'/\oA D' (mT sn x).1/\w.grownBy w' (some g):=by
 have hkey:keyOf zo 3 (.int .i64 x)=some (.int .i64 x):=Maps.keyOf_int_mk zh (aBp (by omega) (by omega));obtain ⟨v,ps,hrun,hv⟩:=hown.look_ok (Maps.int_keyed zh) zn (Tryz.zeroValue3 _) (zd:=.lit (.int .i64 0)) (zp:=[]) rfl hkey;by_cases hp:eF sn x<0
 ·have HST:Hid (mT sn x=(sn++[x],(sn.length:Int))):=aA (by unfold mT;rw [if_pos hp]);have hhas:=hN.new x hp;rw [hhas] at hrun;rw [zO hN.tidy.isMap hhas] at hv;have hvv:=yT hv;subst hvv;have HN:=aA (hN.put hp);have HKEY:=aA hkey;have HSZ:=aA hN.size;have hlen:=hN.size;clear hv hhas hN hkey hp;go_enter Tryz.func109,Tryz.ntmps109;go_wp2_with (first
   | (at_len;refine wpList_len_own _ rfl _ 160 rfl 3 3 zn _ g sn.length D rfl hown ?_)
   | (at_mapUpdate;refine wpList_mapUpdate_own _ rfl _ _ _ 160 rfl 3 3 (Maps.int_keyed zh) zn fN g sn.length D rfl hown (by unfold maxLen;omega) _ _ (.int .i64 x) rfl rfl (aB HKEY) (.lit (.int .i64 sn.length)) [] ?_ ?_)
   | go_in)
  case refine_1=>rfl
  intro w1 hown1 hg1;have HO:=aA hown1;have HG:=aA hg1;clear hown1 hg1;go_wp2;go_ret;rw [HST.out];exact ⟨_,rfl,by rw [List.length_append];exact HO.out,HN.out,HG.out⟩
 ·have HST:Hid (mT sn x=(sn,eF sn x)):=aA (by unfold mT;rw [if_neg hp]);have ho:=hN.old x (by omega);rw [ho.1] at hrun;rw [ho.2] at hv;have hvv:=yT hv;subst hvv;have HN:=aA hN;have HOW:=aA hown;clear hv ho hN hkey hp hown;go_enter Tryz.func109,Tryz.ntmps109;go_wp2;go_ret;rw [HST.out];exact ⟨D,rfl,HOW.out,HN.out,⟨rfl,rfl,rfl,zs _,λ_ _ _=>rfl⟩⟩
abbrev yU:Nd:=(⟨#[]⟩,0)
abbrev rR:Lt×Value:=((false,[]),.slice none 0 0)
theorem aBq(x:Nd)(r:List Nd):aH (x :: r)=.string x.1 :: .int .i64 x.2 :: aH r:=rfl
theorem yV(x:Lt×Value)(r:List (Lt×Value)):bA (x :: r)=.bool x.1.1 :: x.2 :: bA r:=rfl
theorem aPi(l:List Nd):∀(k:Nat) (x:Nd),k<l.length->((aH l).set (k*2) (.string x.1)).set (k*2+1) (.int .i64 x.2)=aH (l.set k x):=by
 induction l with
 | nil=>intro k x h;simp at h
 | cons y r ih=>
  intro k x h;cases k with
  | zero=>rfl
  | succ k=>
   have:=ih k x (by simpa using h);rw [show (k+1)*2=k*2+1+1 by omega,zz,aBq,aBq,zz,zz,zz,zz,this]
theorem aPj(l:List (Lt×Value)):∀(k:Nat) (x:Lt×Value),k<l.length->((bA l).set (k*2) (.bool x.1.1)).set (k*2+1) x.2=bA (l.set k x):=by
 induction l with
 | nil=>intro k x h;simp at h
 | cons y r ih=>
  intro k x h;cases k with
  | zero=>rfl
  | succ k=>
   have:=ih k x (by simpa using h);rw [show (k+1)*2=k*2+1+1 by omega,zz,yV,yV,zz,zz,zz,zz,this]
theorem aFz{α:Type}(a:List α)(z x:α)(m:Nat)(h:a.length<m):(a++zx (m-a.length) z).set a.length x=(a++[x])++zx (m-(a.length+1)) z:=by rw [show m-a.length=(m-(a.length+1))+1 by omega,zr,zc _ _ (zs _)];simp
theorem aPk(n:Nat):∀j,(aH (zx n yU))[j]?=if j<n*2 then some (if j % 2=0 then .string ⟨#[]⟩ else .int .i64 0) else none:=by
 induction n with
 | zero=>intro j;simp [aH]
 | succ n ih=>
  intro j;rw [zr,aBq];match j with
  | 0=>simp
  | 1=>simp;omega
  | j+2=>
   simp only [zg];rw [ih j];have e:(j+2) % 2=j % 2:=by omega
   rw [e];by_cases h:j<n*2
   ·rw [if_pos h,if_pos (show j+2<(n+1)*2 by omega)]
   ·rw [if_neg h,if_neg (show ¬j+2<(n+1)*2 by omega)]
theorem aPl(n:Nat):∀j,(bA (zx n rR))[j]?=if j<n*2 then some (if j % 2=0 then .bool false else .slice none 0 0) else none:=by
 induction n with
 | zero=>intro j;simp [bA]
 | succ n ih=>
  intro j;rw [zr,yV];match j with
  | 0=>simp
  | 1=>simp;omega
  | j+2=>
   simp only [zg];rw [ih j];have e:(j+2) % 2=j % 2:=by omega
   rw [e];by_cases h:j<n*2
   ·rw [if_pos h,if_pos (show j+2<(n+1)*2 by omega)]
   ·rw [if_neg h,if_neg (show ¬j+2<(n+1)*2 by omega)]
theorem aPm(n:Nat):(madeCells #[.string ⟨#[]⟩,.int .i64 0] (n*2)).toList=aH (zx n yU):=by
 apply zi;intro j;rw [aPk];by_cases hj:j<n*2
 ·rw [if_pos hj];rcases zm j with h | h <;> simp [madeCells,hj,h]
 ·rw [if_neg hj];simp [madeCells];omega
theorem aPn(n:Nat):(madeCells #[.bool false,.slice none 0 0] (n*2)).toList=bA (zx n rR):=by
 apply zi;intro j;rw [aPl];by_cases hj:j<n*2
 ·rw [if_pos hj];rcases zm j with h | h <;> simp [madeCells,hj,h]
 ·rw [if_neg hj];simp [madeCells];omega
theorem aG0{w:World}{B:Nat}{e:TypeId}{size:Nat}{v:Value}{n k m:Nat}{xs:List Value}{D:DataW Unit}(h:w.ownsRow B e size v n xs)(hm:w.ownsMap zo 3 fN k m D):v.ownBlock≠some k:=by
 obtain ⟨es,clock,hh,_⟩:=hm;obtain ⟨_,⟨rfl,_⟩ | ⟨g,cap,cur,rfl,_,hg,_⟩⟩:=h
 ·simp [zw]
 ·simp [zw];rintro rfl;rw [hh] at hg;simp at hg
theorem pX{w:World}{B:Nat}{e:TypeId}{size:Nat}{v:Value}{n:Nat}{xs:List Value}(h:w.ownsRow B e size v n xs){p:Addr}(hp:some p.block≠v.ownBlock)(u:Value):(w.setCell p u).ownsRow B e size v n xs:=by
 obtain ⟨h1,⟨rfl,h2⟩ | ⟨g,cap,cur,rfl,hb,hh,hr⟩⟩:=h
 ·exact ⟨h1,z2 ⟨rfl,h2⟩⟩
 ·refine ⟨h1,zu ⟨g,cap,cur,rfl,hb,?_,hr⟩⟩;rw [heap_setCell_other _ _ _ _ (λe=>hp (by simp [zw,e])),hh]
structure Rw where
 node:Nd
 cls:Nat
 parts:List Nat
def eT(P:List (Rw×Value)):List Value:=P.flatMap λp=>[.string p.1.node.1,.int .i64 p.1.node.2,p.2,.int .i64 p.1.cls]
theorem uJ(x:Rw×Value)(r:List (Rw×Value)):eT (x :: r)=.string x.1.node.1 :: .int .i64 x.1.node.2 :: x.2 :: .int .i64 x.1.cls :: eT r:=rfl
theorem aPo(P:List (Rw×Value)):∀k (h:k<P.length),(eT P)[k*4]?=some (.string P[k].1.node.1)/\(eT P)[k*4+1]?=some (.int .i64 P[k].1.node.2)/\(eT P)[k*4+2]?=some P[k].2/\(eT P)[k*4+3]?=some (.int .i64 P[k].1.cls):=by
 induction P with
 | nil=>intro k h;simp at h
 | cons x r ih=>
  intro k h;cases k with
  | zero=>simp [uJ]
  | succ k=>
   have:=ih k (by simpa using h);rw [uJ,show (k+1)*4=k*4+1+1+1+1 by omega];simpa [show k*4+1+1+1+1+1=(k*4+1)+1+1+1+1 by omega,show k*4+1+1+1+1+2=(k*4+2)+1+1+1+1 by omega,show k*4+1+1+1+1+3=(k*4+3)+1+1+1+1 by omega] using this
theorem aPp(P:List (Rw×Value)):∀(k:Nat) (h:k<P.length) (c:Nat),(eT P).set (k*4+3) (.int .i64 c)=eT (P.set k ({P[k].1 with cls:=c},P[k].2)):=by
 induction P with
 | nil=>intro k h;simp at h
 | cons x r ih=>
  intro k h c;cases k with
  | zero=>rfl
  | succ k=>
   have:=ih k (by simpa using h) c;rw [show (k+1)*4+3=k*4+3+1+1+1+1 by omega,zz,uJ,uJ,zz,zz,zz,zz,this];rfl
structure bT(w:World)(B tp:Nat)(v:Value)(P:List (Rw×Value)):Prop where
 box:w.heap[tp]?=some (.cells #[v] 63)
 high:B<=tp
 row:w.ownsRow B 94 4 v P.length (eT P)
 parts:∀p∈P,w.ownsRow B 3 1 p.2 p.1.parts.length (p.1.parts.map λx:Nat=>Value.int .i64 x)
theorem bT.cell{w:World}{B tp:Nat}{v:Value}{P:List (Rw×Value)}(h:bT w B tp v P):w.cell? ⟨tp,0,none⟩=some v:=by simp [World.cell?,h.box]
theorem bT.soft{w:World}{B tp:Nat}{v:Value}{P:List (Rw×Value)}(h:bT w B tp v P):w.frozen? ⟨tp,0,none⟩=false:=by simp [World.frozen?,h.box]
theorem bT.drewN{w:World}{B tp:Nat}{v:Value}{P:List (Rw×Value)}(h:bT w B tp v P)(d:Nat):bT (w.drewN d) B tp v P:=⟨h.box,h.high,h.row,h.parts⟩
theorem bT.shape{w:World}{B tp:Nat}{v:Value}{P:List (Rw×Value)}(h:bT w B tp v P) :
  ∃a cap,v=.slice a P.length cap/\∀k (h:k<P.length),∃g,a=some ⟨g,0,none⟩/\w.cell? ⟨g,k*4,none⟩=some (.string P[k].1.node.1)/\w.cell? ⟨g,k*4+1,none⟩=some (.int .i64 P[k].1.node.2)/\w.cell? ⟨g,k*4+2,none⟩=some P[k].2/\w.cell? ⟨g,k*4+3,none⟩=some (.int .i64 P[k].1.cls):=by
 obtain ⟨h1,⟨rfl,h2⟩ | ⟨g,cap,cur,rfl,hb,hh,hc,hm,hz,ht⟩⟩:=h.row
 ·exact ⟨none,0,by rw [h2],λk hk=>by omega⟩
 ·have ho:w.ownsRow B 94 4 (.slice (some ⟨g,0,none⟩) P.length cap) P.length (eT P):=⟨h1,zu ⟨g,cap,cur,rfl,hb,hh,hc,hm,hz,ht⟩⟩;refine ⟨_,_,rfl,λk hk=>⟨g,rfl,?_⟩⟩;obtain ⟨a,b,c,d⟩:=aPo P k hk;refine ⟨?_,?_,?_,?_⟩
  ·rw [ho.cellAt _ (by omega),a]
  ·rw [ho.cellAt _ (by omega),b]
  ·rw [ho.cellAt _ (by omega),c]
  ·rw [ho.cellAt _ (by omega),d]
def aG1(P:List (Rw×Value))(c:Nat)(r:Int):Prop:=(r=-1/\∀i (h:i<P.length),¬(P[i].1.cls=c/\aF P[i].1.node=false))\/∃h:Nat,r=h/\∃hl:h<P.length,P[h].1.cls=c/\aF P[h].1.node=false
theorem aG2(B tp:Nat)(v:Value)(P:List (Rw×Value))(c:Nat)(w:World)(h:bT w B tp v P)(hf:P.length<=1000000) :
  Calls zo 71 #[.pointer (some ⟨tp,0,none⟩),.int .i64 c] w λe w'=>∃r:Int,e=.returned (.int .i64 r)/\aG1 P c r/\∃d,w'=w.drewN d:=by
 obtain ⟨a,cap,rfl,hc⟩:=h.shape;have hcell:=h.cell;have HC:=aA hc;clear hc h;go_enter Tryz.func71,Tryz.ntmps71;go_wp2;go_loopw [5] (λi wr=>∃k:Nat,k<=P.length/\i=.int .i64 k/\(∀i (h:i<k) (h':i<P.length),¬(P[i].1.cls=c/\aF P[i].1.node=false))/\∃d,wr=w.drewN d) (λi _=>P.length-(intOf i).toNat);case atStart=>exact ⟨0,Nat.zero_le _,rfl,λi h=>by omega,0,rfl⟩
 case round=>
  obtain ⟨k,hk,rfl,hno,d,rfl⟩:=hrel;by_cases hlt:k<P.length
  ·have hlti:(k:Int)<(P.length:Int):=by omega
   obtain ⟨g,rfl,e1,e2,e3,e4⟩:=HC.out k hlt;have HNO:=aA hno;have HP:=aA (show ∀q:Bool,(P[k].1.cls=c/\aF P[k].1.node=false)\/¬(P[k].1.cls=c/\aF P[k].1.node=false) from λ_=>Classical.em _);clear hno e2 e3 HP;have HE:=aA (show P[k]=P[k] from rfl);generalize hpk:P[k]=pk at e1 e4;obtain ⟨⟨⟨s,x⟩,cl,pt⟩,pv⟩:=pk;simp only at e1 e4;have HPK:=aA hpk;clear hpk HE;by_cases hcc:cl=c
   ·subst hcc;by_cases hv:s.toList.isEmpty=true
    ·go_wp2;go_roundw;case rel=>
      refine ⟨k+1,by omega,by go_num,λi h h'=>?_,d,rfl⟩;by_cases hi:i<k
      ·exact HNO.out i hi h'
      ·have:i=k:=by omega
       subst this;rw [HPK.out];simp [aF,hv]
     case measure=>simp [intOf];omega
    ·go_wp2;go_ret;exact ⟨_,rfl,zu ⟨k,rfl,hlt,by rw [HPK.out],by rw [HPK.out];simpa [aF] using hv⟩,d,rfl⟩
   ·have hcc':¬((cl:Int)=(c:Int)):=by omega
    go_wp2;go_roundw;case rel=>
     refine ⟨k+1,by omega,by go_num,λi h h'=>?_,d,rfl⟩;by_cases hi:i<k
     ·exact HNO.out i hi h'
     ·have:i=k:=by omega
      subst this;rw [HPK.out];simp [hcc]
    case measure=>simp [intOf];omega
  ·have hlti:¬((k:Int)<(P.length:Int)):=by omega
   have HNO:=aA hno;clear hno;go_wp2;go_ret;exact ⟨_,rfl,z2 ⟨rfl,λi h=>HNO.out i (by omega) h⟩,d,rfl⟩
def kL(x y:Nat)(p:Rw×Value):Rw×Value:=if p.1.cls=y then ({p.1 with cls:=x},p.2) else p
def fO(P:List (Rw×Value))(x y:Nat):List (Rw×Value):=P.map (kL x y)
def jI(P:List (Rw×Value))(x y k:Nat):List (Rw×Value):=(P.take k).map (kL x y)++P.drop k
theorem aPq(P:List (Rw×Value))(x y:Nat):jI P x y 0=P:=by simp [jI]
theorem aPr(P:List (Rw×Value))(x y:Nat):jI P x y P.length=fO P x y:=by simp [jI,fO]
theorem aPs(P:List (Rw×Value))(x y k:Nat):(jI P x y k).length=P.length:=by simp [jI];omega
theorem aPt(P:List (Rw×Value))(x y k:Nat)(h:k<P.length)(h':k<(jI P x y k).length):(jI P x y k)[k]=P[k]:=by simp [jI,Nat.min_eq_left (Nat.le_of_lt h)]
theorem aPu(P:List (Rw×Value))(x y k:Nat)(h:k<P.length):jI P x y (k+1)=(jI P x y k).set k (kL x y P[k]):=by unfold jI;rw [List.take_succ_eq_append_getElem h,List.drop_eq_getElem_cons h,List.map_append,zc _ _ (by simp;omega)];simp only [List.length_map,List.length_take,Nat.min_eq_left (Nat.le_of_lt h),Nat.sub_self,List.set_cons_zero,List.map_cons,List.map_nil,List.append_assoc,zf,List.nil_append]
theorem uK(x y:Nat)(p:Rw×Value):(kL x y p).2=p.2/\(kL x y p).1.parts=p.1.parts/\(kL x y p).1.node=p.1.node:=by unfold kL;split <;> simp
theorem aG3(P:List (Rw×Value))(x:Nat):fO P x x=P:=by
 unfold fO;rw [List.map_congr_left (g:=id)]
 ·simp
 ·intro p _;unfold kL;split
  ·rename_i h;obtain ⟨⟨n,c,q⟩,v⟩:=p;simp at h;subst h;rfl
  ·rfl
theorem bT.ne{w:World}{B tp:Nat}{v:Value}{P:List (Rw×Value)}(h:bT w B tp v P):v.ownBlock≠some tp:=by
 obtain ⟨_,⟨rfl,_⟩ | ⟨g,cap,cur,rfl,hb,hh,_⟩⟩:=h.row
 ·simp [zw]
 ·simp [zw];rintro rfl;have hb:=h.box;rw [hh] at hb;simp at hb
theorem bT.cls{w:World}{B tp g cap:Nat}{P:List (Rw×Value)}(h:bT w B tp (.slice (some ⟨g,0,none⟩) P.length cap) P)(k:Nat)(hk:k<P.length)(c:Nat) :
  bT (w.setCell ⟨g,k*4+3,none⟩ (.int .i64 c)) B tp (.slice (some ⟨g,0,none⟩) P.length cap) (P.set k ({P[k].1 with cls:=c},P[k].2)):=by
 have hne:=h.ne;simp [zw] at hne;refine ⟨?_,h.high,?_,?_⟩
 ·rw [heap_setCell_other _ _ _ _ (by simpa using λe=>hne e.symm),h.box]
 ·have r:=(h.row.stored (k*4+3) (.int .i64 c)).1;rw [aPp P k hk c] at r;simpa using r
 ·intro p hp;have key:∀q∈P,(w.setCell ⟨g,k*4+3,none⟩ (.int .i64 c)).ownsRow B 3 1 q.2 q.1.parts.length (q.1.parts.map λx:Nat=>Value.int .i64 x):=λq hq=>
   pX (h.parts q hq) (by
    rcases bV (h.parts q hq) h.row (by decide) with e | e
    ·rw [e];simp
    ·exact λe'=>e (by rw [<-e'];rfl)) _
  rcases List.mem_or_eq_of_mem_set hp with hp | rfl
  ·exact key p hp
  ·exact key P[k] (ze _)
theorem bT.frozen{w:World}{B tp g cap:Nat}{P:List (Rw×Value)}(h:bT w B tp (.slice (some ⟨g,0,none⟩) P.length cap) P)(j:Nat):w.frozen? ⟨g,j,none⟩=false:=h.row.frozenAt j
theorem aG4(B tp:Nat)(v:Value)(P:List (Rw×Value))(a b:Nat)(ha:a<P.length)(hb:b<P.length)(w:World)(h:bT w B tp v P)(hf:P.length<=1000000) :
  Calls zo 69 #[.pointer (some ⟨tp,0,none⟩),.int .i64 a,.int .i64 b] w λe w'=>e=.returned (.bool (decide (P[a].1.cls≠P[b].1.cls)))/\bT w' B tp v (fO P P[a].1.cls P[b].1.cls)/\w.grownBy w' v.ownBlock:=by
 obtain ⟨o,cap,rfl,hc⟩:=h.shape;have hcell:=h.cell;obtain ⟨g,rfl,q1,q2,q3,ea⟩:=hc a ha;obtain ⟨g',hg',q4,q5,q6,eb⟩:=hc b hb;clear q1 q2 q3 q4 q5 q6;simp at hg';subst hg';have hai:(a:Int)<(P.length:Int):=by omega
 have hbi:(b:Int)<(P.length:Int):=by omega
 generalize P[a].1.cls=x at *;generalize P[b].1.cls=y at *;have HT:=aA h;clear h hc;by_cases hxy:x=y
 ·subst hxy;have HJ:=aA (aG3 P x);go_enter Tryz.func69,Tryz.ntmps69;go_wp2;go_ret;exact ⟨cH (by simp),by rw [HJ.out];exact HT.out,⟨rfl,rfl,rfl,zs _,λ_ _ _=>rfl⟩⟩
 ·have hxy':¬((x:Int)=(y:Int)):=by omega
  go_enter Tryz.func69,Tryz.ntmps69;go_wp2;go_loopw [9] (λi wr=>∃k:Nat,k<=P.length/\i=.int .i64 k/\bT wr B tp (.slice (some ⟨g,0,none⟩) P.length cap) (jI P x y k)/\w.grownBy wr (some g)) (λi _=>P.length-(intOf i).toNat);case atStart=>exact ⟨0,Nat.zero_le _,rfl,by rw [aPq];exact HT.out,⟨rfl,rfl,rfl,zs _,λ_ _ _=>rfl⟩⟩
  case round=>
   obtain ⟨k,hk,rfl,hT,hg⟩:=hrel;have c1:=hT.cell;have hlen:=aPs P x y k;by_cases hlt:k<P.length
   ·have hlti:(k:Int)<(P.length:Int):=by omega
    obtain ⟨o',cap',e',hc'⟩:=hT.shape;obtain ⟨g2,rfl,q1,q2,q3,e3⟩:=hc' k (by omega);simp at e';obtain ⟨rfl,q4,rfl⟩:=e';clear q1 q2 q3 q4;have hat:=aPt P x y k hlt (by omega);rw [hat] at e3;have hcl:=bT.cls (P:=jI P x y k) (cap:=cap) (by rw [hlen];exact hT) k (by omega) x;rw [hat,hlen] at hcl;have hfz:=bT.frozen (P:=jI P x y k) (cap:=cap) (by rw [hlen];exact hT) (k*4+3);have hsu:=aPu P x y k hlt;have HT1:=aA hT;have HCL:=aA hcl;have HG:=aA hg;have hcv:∀c,P[k].1.cls=c->c=y->kL x y P[k]=({P[k].1 with cls:=x},P[k].2):=λc h1 h2=>by unfold kL;rw [if_pos (h1.trans h2)]
    have hcn:∀c,P[k].1.cls=c->c≠y->kL x y P[k]=P[k]:=λc h1 h2=>by unfold kL;rw [if_neg (by rw [h1];exact h2)]
    have HCV:=aA hcv;have hsn:∀c,P[k].1.cls=c->c≠y->jI P x y (k+1)=jI P x y k:=λc h1 h2=>by rw [hsu,hcn c h1 h2,<-hat,List.set_getElem_self]
    have HSN:=aA hsn;have HSU:=aA hsu;generalize hcl':P[k].1.cls=cl at e3;have HC1:=aA hcl';clear hT hcl hg hcv hcn hsn hsu hat hcl' hc' hlen;by_cases hcy:cl=y
    ·subst hcy;go_wp2;go_roundw;case rel=>
      refine ⟨k+1,by omega,by go_num,?_,HG.out.trans (bQ _ _ _)⟩;rw [HSU.out,HCV.out _ HC1.out rfl];exact HCL.out
     case measure=>simp [intOf];omega
    ·have hcy':¬((cl:Int)=(y:Int)):=by omega
     go_wp2;go_roundw;case rel=>
      refine ⟨k+1,by omega,by go_num,?_,HG.out⟩;rw [HSN.out _ HC1.out hcy];exact HT1.out
     case measure=>simp [intOf];omega
   ·have hlti:¬((k:Int)<(P.length:Int)):=by omega
    have hke:k=P.length:=by omega
    rw [hke,aPr] at hT;have HT1:=aA hT;have HG:=aA hg;clear hT hg;go_wp2;go_ret;exact ⟨cH (by simp),HT1.out,HG.out⟩
abbrev Tb:=List (Rw×Value)
def aV(P:Tb):Gr:=⟨λi=>if h:i<P.length then P[i].1.node else (⟨#[]⟩,0),λi=>if h:i<P.length then P[i].1.parts else []⟩
def aZ(P:Tb)(i j:Nat):Prop:=i=j\/∃(hi:i<P.length) (hj:j<P.length),P[i].1.cls=P[j].1.cls
structure gP(P:Tb):Prop where
 parts:∀i (h:i<P.length),∀q∈P[i].1.parts,q<P.length
 cls:∀i (h:i<P.length),P[i].1.cls<P.length
 ary:∀i (h:i<P.length),aF P[i].1.node=false->(P[i].1.parts.length:Int)=P[i].1.node.2
theorem kM(P:Tb)(x y:Nat):(fO P x y).length=P.length:=by simp [fO]
theorem mU(P:Tb)(x y i:Nat)(h:i<P.length)(h':i<(fO P x y).length):(fO P x y)[i]=kL x y P[i]:=by simp [fO]
theorem aG5(P:Tb)(x y:Nat):aV (fO P x y)=aV P:=by
 unfold aV;congr 1
 ·funext i
  by_cases h:i<P.length
  ·simp only [kM,dif_pos h,mU P x y i h,(uK x y _).2.2]
  ·simp only [kM,dif_neg h]
 ·funext i
  by_cases h:i<P.length
  ·simp only [kM,dif_pos h,mU P x y i h,(uK x y _).2.1]
  ·simp only [kM,dif_neg h]
theorem oB{P:Tb}{i:Nat}(h:(aV P).named i):∃h:i<P.length,aF P[i].1.node=false:=by
 unfold Gr.named aV at h;simp only at h;by_cases hl:i<P.length
 ·rw [dif_pos hl] at h;exact ⟨hl,h⟩
 ·rw [dif_neg hl,tK] at h;cases h
theorem lP(P:Tb)(i:Nat)(h:i<P.length):(aV P).lab i=P[i].1.node:=by simp [aV,h]
theorem oW(P:Tb)(i:Nat)(h:i<P.length):(aV P).ch i=P[i].1.parts:=by simp [aV,h]
theorem pY(x y:Nat)(p:Rw×Value):(kL x y p).1.cls=if p.1.cls=y then x else p.1.cls:=by unfold kL;split <;> simp_all
theorem gP.join{P:Tb}(h:gP P)(x y:Nat)(hx:x<P.length):gP (fO P x y):=by
 refine ⟨λi hi q hq=>?_,λi hi=>?_,λi hi hv=>?_⟩
 ·rw [kM] at hi ⊢;rw [mU P x y i hi,(uK x y _).2.1] at hq;exact h.parts i hi q hq
 ·rw [kM] at hi ⊢;rw [mU P x y i hi,pY];split
  ·exact hx
  ·exact h.cls i hi
 ·have hi':=hi;rw [kM] at hi;rw [mU P x y i hi,(uK x y _).2.2] at hv ⊢;rw [(uK x y _).2.1];exact h.ary i hi hv
theorem gP.arity{P:Tb}(h:gP P):(aV P).Arity:=by intro i j hi hj e;obtain ⟨h1,v1⟩:=oB hi;obtain ⟨h2,v2⟩:=oB hj;rw [lP P i h1,lP P j h2] at e;rw [oW P i h1,oW P j h2];have a:=h.ary i h1 v1;have b:=h.ary j h2 v2;rw [e] at a;omega
theorem aZ.refl(P:Tb)(i:Nat):aZ P i i:=z2 rfl
theorem aZ.symm{P:Tb}{i j:Nat}(h:aZ P i j):aZ P j i:=by
 rcases h with rfl | ⟨a,b,e⟩
 ·exact z2 rfl
 ·exact zu ⟨b,a,e.symm⟩
theorem aZ.trans{P:Tb}{i j k:Nat}(h:aZ P i j)(h':aZ P j k):aZ P i k:=by
 rcases h with rfl | ⟨a,b,e⟩
 ·exact h'
 ·rcases h' with rfl | ⟨c,d,e'⟩
  ·exact zu ⟨a,b,e⟩
  ·exact zu ⟨a,d,e.trans e'⟩
theorem aZ.iff{P:Tb}{i j:Nat}(hi:i<P.length)(hj:j<P.length):aZ P i j↔P[i].1.cls=P[j].1.cls:=by
 constructor
 ·rintro (rfl | ⟨_,_,e⟩)
  ·rfl
  ·exact e
 ·intro e;exact zu ⟨hi,hj,e⟩
theorem aG6{P:Tb}{C:Nat->Nat->Prop}(hs:∀i j,aZ P i j->C i j)(h1:∀i j,C i j->C j i)(h2:∀i j k,C i j->C j k->C i k){u v:Nat}(hu:u<P.length)(hv:v<P.length)(huv:C u v)(i j:Nat)(h:aZ (fO P P[u].1.cls P[v].1.cls) i j):C i j:=by
 rcases h with rfl | ⟨a,b,e⟩
 ·exact hs i i (z2 rfl)
 ·rw [kM] at a b;rw [mU _ _ _ i a,mU _ _ _ j b,pY,pY] at e;have iv:P[i].1.cls=P[v].1.cls->C i v:=λe=>hs i v (zu ⟨a,hv,e⟩)
  have jv:P[j].1.cls=P[v].1.cls->C j v:=λe=>hs j v (zu ⟨b,hv,e⟩)
  have iu:P[i].1.cls=P[u].1.cls->C i u:=λe=>hs i u (zu ⟨a,hu,e⟩)
  have ju:P[j].1.cls=P[u].1.cls->C j u:=λe=>hs j u (zu ⟨b,hu,e⟩)
  by_cases hi:P[i].1.cls=P[v].1.cls
  ·by_cases hj:P[j].1.cls=P[v].1.cls
   ·exact h2 _ _ _ (iv hi) (h1 _ _ (jv hj))
   ·rw [if_pos hi,if_neg hj] at e;exact h2 _ _ _ (h2 _ _ _ (iv hi) (h1 _ _ huv)) (h1 _ _ (ju e.symm))
  ·by_cases hj:P[j].1.cls=P[v].1.cls
   ·rw [if_neg hi,if_pos hj] at e;exact h2 _ _ _ (h2 _ _ _ (iu e) huv) (h1 _ _ (jv hj))
   ·rw [if_neg hi,if_neg hj] at e;exact hs i j (zu ⟨a,b,e⟩)
theorem aG7{P:Tb}{x y i j:Nat}(h:aZ P i j):aZ (fO P x y) i j:=by
 rcases h with rfl | ⟨a,b,e⟩
 ·exact z2 rfl
 ·refine zu ⟨by rw [kM];exact a,by rw [kM];exact b,?_⟩;rw [mU _ _ _ i a,mU _ _ _ j b,pY,pY,e]
theorem aPv{P:Tb}{u v:Nat}(hu:u<P.length)(hv:v<P.length):aZ (fO P P[u].1.cls P[v].1.cls) u v:=by refine zu ⟨by rw [kM];exact hu,by rw [kM];exact hv,?_⟩;rw [mU _ _ _ u hu,mU _ _ _ v hv,pY,pY,if_pos rfl];split <;> rfl
structure pZ(P0:Tb)(B:Nat->Nat->Prop)(P:Tb):Prop where
 gr:aV P=aV P0
 len:P.length=P0.length
 ok:gP P
 sound:∀i j,aZ P i j->Cl (aV P0) B i j
 base:∀i j,B i j->aZ P i j
theorem pZ.join{P0 P:Tb}{B:Nat->Nat->Prop}(h:pZ P0 B P){u v:Nat}(hu:u<P.length)(hv:v<P.length)(huv:Cl (aV P0) B u v):pZ P0 B (fO P P[u].1.cls P[v].1.cls):=
 ⟨by rw [aG5,h.gr],by rw [kM,h.len],h.ok.join _ _ (h.ok.cls u hu),aG6 h.sound (λ_ _=>Cl.symm) (λ_ _ _=>Cl.trans) hu hv huv,λi j hb=>aG7 (h.base i j hb)⟩
def jB(P:Tb)(i k:Nat):Prop:=∀(hi:i<P.length) (hk:k<P.length),P[i].1.cls=P[k].1.cls->aF P[i].1.node=false->aF P[k].1.node=false->P[i].1.node=P[k].1.node/\∀p q r:Nat,P[i].1.parts[p]?=some q->P[k].1.parts[p]?=some r->aZ P q r
theorem pZ.done{P0 P:Tb}{B:Nat->Nat->Prop}(h:pZ P0 B P)(hf:∀i k,k<i->i<P.length->jB P i k):(∀i j,aZ P i j↔Cl (aV P0) B i j)/\eW (aV P0) (Cl (aV P0) B):=by
 have hfs:∀i k,i≠k->(hi:i<P.length)->(hk:k<P.length)->P[i].1.cls=P[k].1.cls->aF P[i].1.node=false->aF P[k].1.node=false->P[i].1.node=P[k].1.node/\∀p q r:Nat,P[i].1.parts[p]?=some q->P[k].1.parts[p]?=some r->aZ P q r:=by
  intro i k hne hi hk e v1 v2;by_cases hlt:k<i
  ·exact hf i k hlt hi hi hk e v1 v2
  ·obtain ⟨a,b⟩:=hf k i (by omega) hk hk hi e.symm v2 v1;exact ⟨a.symm,λp q r h1 h2=>(b p r q h2 h1).symm⟩
 have hd:gR (aV P0) (aZ P):=by
  refine ⟨aZ.refl P,λ_ _=>aZ.symm,λ_ _ _=>aZ.trans,λi j k p q hij hi hj hp hq=>?_⟩;rw [<-h.gr] at hi hj hp hq;obtain ⟨h1,v1⟩:=oB hi;obtain ⟨h2,v2⟩:=oB hj;by_cases hne:i=j
  ·subst hne;rw [hp] at hq;simp at hq;exact z2 hq
  ·rw [oW P i h1] at hp;rw [oW P j h2] at hq;exact (hfs i j hne h1 h2 ((aZ.iff h1 h2).1 hij) v1 v2).2 k p q hp hq
 have hiff:∀i j,aZ P i j↔Cl (aV P0) B i j:=λi j=>⟨h.sound i j,Cl.le hd h.base⟩
 refine ⟨hiff,λi j hij hi hj=>?_⟩;have hij':=(hiff i j).2 hij;rw [<-h.gr] at hi hj ⊢;obtain ⟨h1,v1⟩:=oB hi;obtain ⟨h2,v2⟩:=oB hj;rw [lP P i h1,lP P j h2];by_cases hne:i=j
 ·subst hne;rfl
 ·exact (hfs i j hne h1 h2 ((aZ.iff h1 h2).1 hij') v1 v2).1
theorem pZ.clash{P0 P:Tb}{B:Nat->Nat->Prop}(h:pZ P0 B P){i k:Nat}(hi:i<P.length)(hk:k<P.length)(e:P[i].1.cls=P[k].1.cls)(v1:aF P[i].1.node=false)(v2:aF P[k].1.node=false)(hn:P[i].1.node≠P[k].1.node):¬eW (aV P0) (Cl (aV P0) B):=by
 intro n;have hij:=h.sound i k (zu ⟨hi,hk,e⟩);rw [<-h.gr] at n;have n1:(aV P).named i:=by show aF ((aV P).lab i)=false;rw [lP P i hi];exact v1
 have n2:(aV P).named k:=by show aF ((aV P).lab k)=false;rw [lP P k hk];exact v2
 have:=n i k (by rw [h.gr];exact hij) n1 n2;rw [lP P i hi,lP P k hk] at this;exact hn this
def wG(n:Nat)(l:List Nat):Nat:=(List.range n).countP λc=>l.contains c
theorem aG8{α:Type}(l:List α)(p q:α->Bool)(h:∀x∈l,p x=true->q x=true)(x:α)(hx:x∈l)(hp:p x=false)(hq:q x=true):l.countP p<l.countP q:=by
 induction l with
 | nil=>simp at hx
 | cons y r ih=>
  have hr:r.countP p<=r.countP q:=List.countP_mono_left λz hz=>h z (by simp [hz])
  rcases z1.1 hx with rfl | hx
  ·rw [zy,zy,hp,hq];simp;omega
  ·have:=ih (λz hz=>h z (by simp [hz])) hx;rw [zy,zy];have hy:=h y (by simp);cases hpy:p y
   ·cases q y <;> simp <;> omega
   ·rw [hy hpy];simp;omega
theorem aPw{P:Tb}(hok:gP P){u v:Nat}(hu:u<P.length)(hv:v<P.length)(hne:P[u].1.cls≠P[v].1.cls):wG P.length ((fO P P[u].1.cls P[v].1.cls).map λp=>p.1.cls)<wG P.length (P.map λp=>p.1.cls):=by
 unfold wG;refine aG8 _ _ _ ?_ P[v].1.cls (by simp;exact hok.cls v hv) ?_ ?_
 ·intro c _ hc;simp only [zt,zq] at hc ⊢;obtain ⟨p,hp,rfl⟩:=hc;obtain ⟨q,hq,rfl⟩:=zq.1 hp;rw [pY];split
  ·exact ⟨P[u],ze _,rfl⟩
  ·exact ⟨q,hq,rfl⟩
 ·rw [<-Bool.not_eq_true];simp only [zt,zq];rintro ⟨p,hp,e⟩;obtain ⟨q,hq,rfl⟩:=zq.1 hp;rw [pY] at e;split at e
  ·exact hne e
  ·rename_i h;exact h e
 ·simp only [zt,zq];exact ⟨P[v],ze _,rfl⟩
end
section
theorem tA(s:List Nd):∀p q,aI s (p+q)=aI s p+aI (s.drop (aI s p)) q:=by
 induction s with
 | nil=>intro p q;cases p <;> cases q <;> simp [aI]
 | cons n r ih=>
  intro p q;cases p with
  | zero=>simp
  | succ p=>
   rw [show p+1+q=(p+q)+1 by omega];simp only [aI];rw [show p+q+bK n=(p+bK n)+q by omega,ih (p+bK n) q,zv 1 (aI r (p+bK n)),z0];omega
def fI:List Nd->Nat->Nat->List Nat
 | _,0,_=>[]
 | s,k+1,b=>b :: fI (s.drop (aI s 1)) k (b+aI s 1)
@[simp] theorem aZ0(s:List Nd)(b:Nat):fI s 0 b=[]:=rfl
theorem kN(s:List Nd)(k b:Nat):fI s (k+1) b=b :: fI (s.drop (aI s 1)) k (b+aI s 1):=rfl
theorem uL(s:List Nd)(k:Nat):∀b,(fI s k b).length=k:=by
 induction k generalizing s with
 | zero=>intro b;rfl
 | succ k ih=>intro b;rw [kN];simp [ih]
theorem yW(k:Nat):∀(s:List Nd) (b d:Nat),fI s k (b+d)=(fI s k b).map (· + d):=by
 induction k with
 | zero=>intro s b d;rfl
 | succ k ih=>
  intro s b d;rw [kN,kN,List.map_cons,show b+d+aI s 1=b+aI s 1+d by omega,ih]
theorem aG9(k:Nat):∀(s:List Nd) (j b:Nat),fI s (k+j) b=fI s k b++fI (s.drop (aI s k)) j (b+aI s k):=by
 induction k with
 | zero=>intro s j b;simp
 | succ k ih=>
  intro s j b;rw [show k+1+j=(k+j)+1 by omega,kN,kN,ih,show aI s (k+1)=aI s 1+aI (s.drop (aI s 1)) k by rw [<-tA];congr 1;omega,List.drop_drop,zf];simp [Nat.add_assoc,zv (aI s 1)]
def eU:List Nd->Nat->Prop
 | _,0=>True
 | [],_+1=>False
 | n :: r,q+1=>eU r (q+bK n)
@[simp] theorem aPx(l:List Nd):eU l 0:=by cases l <;> trivial
theorem aPy(l:List Nd):∀q,aW l q=true->eU l q:=by
 induction l with
 | nil=>intro q h;simp [aW] at h;subst h;trivial
 | cons n r ih=>
  intro q h;cases q with
  | zero=>trivial
  | succ q=>rw [uT,Bool.and_eq_true] at h;exact ih _ h.2
theorem uM(s:List Nd):∀p q,eU s (p+q)↔eU s p/\eU (s.drop (aI s p)) q:=by
 induction s with
 | nil=>
  intro p q;cases p with
  | zero=>simp
  | succ p=>rw [show p+1+q=(p+q)+1 by omega];simp [eU]
 | cons n r ih=>
  intro p q;cases p with
  | zero=>simp
  | succ p=>
   rw [show p+1+q=(p+q)+1 by omega];simp only [eU,aI];rw [show p+q+bK n=(p+bK n)+q by omega,ih,zv 1,z0]
theorem aBr{s:List Nd}{q:Nat}(h:eU s (q+1)):0<aI s (q+1):=by
 cases s with
 | nil=>exact h.elim
 | cons n r=>simp [aI];omega
theorem qA(k:Nat):∀(s:List Nd) (b:Nat),eU s k->∀x∈fI s k b,b<=x/\x<b+aI s k:=by
 induction k with
 | zero=>intro s b _ x h;simp at h
 | succ k ih=>
  intro s b hf x h;rw [kN] at h;have e:aI s (k+1)=aI s 1+aI (s.drop (aI s 1)) k:=by rw [<-tA];congr 1;omega
  have hf1:=(uM s 1 k).1 (by rw [zv];exact hf);have hp:=aBr (q:=0) hf1.1;rw [Nat.zero_add] at hp;rcases z1.1 h with rfl | h
  ·omega
  ·have:=ih _ _ hf1.2 x h;omega
theorem aGa(s t:List Nd):∀q,eU s q->aI (s++t) q=aI s q:=by
 induction s with
 | nil=>intro q h;cases q with
  | zero=>simp
  | succ q=>exact h.elim
 | cons n r ih=>
  intro q h;cases q with
  | zero=>simp
  | succ q=>simp only [zf,aI];rw [ih _ h]
theorem aPz(s t:List Nd):∀q,eU s q->eU (s++t) q:=by
 induction s with
 | nil=>intro q h;cases q with
  | zero=>simp
  | succ q=>exact h.elim
 | cons n r ih=>
  intro q h;cases q with
  | zero=>simp
  | succ q=>exact ih _ h
theorem aQ0(k:Nat):∀(s t:List Nd) (b:Nat),eU s k->fI (s++t) k b=fI s k b:=by
 induction k with
 | zero=>intro s t b _;rfl
 | succ k ih=>
  intro s t b h;have h1:=(uM s 1 k).1 (by rw [zv];exact h);rw [kN,kN,aGa _ _ _ h1.1,List.drop_append_of_le_length (oC _ _),ih _ _ _ h1.2]
theorem aBs(s:List Nd):∀(q i:Nat),eU s q->i<aI s q->∃n,s[i]?=some n/\eU (s.drop (i+1)) (bK n)/\i+1+aI (s.drop (i+1)) (bK n)<=aI s q:=by
 induction s with
 | nil=>intro q i h hi;cases q <;> simp [aI] at hi
 | cons n r ih=>
  intro q i h hi;cases q with
  | zero=>simp at hi
  | succ q=>
   simp only [aI] at hi ⊢;have ha:=(uM r (bK n) q).1 (by rw [zv];exact h);have he:=tA r (bK n) q;rw [zv (bK n) q] at he;cases i with
   | zero=>exact ⟨n,rfl,by simpa using ha.1,by simp;omega⟩
   | succ i=>
    obtain ⟨m,h1,h2,h3⟩:=ih (q+bK n) i h (by omega);exact ⟨m,by simpa using h1,by simpa using h2,by simp;omega⟩
def lQ(up:Int)(n:Nd):Nd:=(n.1,n.2+up)
def rS(R:List Rw)(k:Nat)(ps:List Nat):List Rw:=R.modify k λr=>{r with parts:=ps}
theorem aGb(R:List Rw)(k:Nat)(ps:List Nat):(rS R k ps).length=R.length:=by simp [rS]
theorem tB(R:List Rw)(k:Nat)(ps:List Nat)(i:Nat):(rS R k ps)[i]?=if i=k then (R[i]?).map λr=>{r with parts:=ps} else R[i]?:=by
 simp [rS,List.getElem?_modify];by_cases h:i=k
 ·subst h;simp
 ·have:¬k=i:=λe=>h e.symm
  simp [h,this]
inductive eG(up:Int):List Rw->Nat->List Nd->List Rw->List Nat->List Nd->Prop
 | nil (R:List Rw) (s:List Nd):eG up R 0 s R [] s
 | old {R:List Rw} {n:Nd} {i k:Nat} {s:List Nd} {R':List Rw} {ps:List Nat} {s':List Nd}:aF n=true->(∃r,R[i]?=some r/\r.node=lQ up n)->eG up R k s R' ps s'->eG up R (k+1) (n :: s) R' (i :: ps) s'
 | new {R:List Rw} {n:Nd} {k:Nat} {s:List Nd} {R':List Rw} {ps:List Nat} {s':List Nd}:aF n=true->(∀r∈R,r.node≠lQ up n)->eG up (R++[⟨lQ up n,R.length,[]⟩]) k s R' ps s'->eG up R (k+1) (n :: s) R' (R.length :: ps) s'
 | name {R:List Rw} {n:Nd} {k:Nat} {s:List Nd} {R1:List Rw} {qs:List Nat} {s1:List Nd} {R':List Rw} {ps:List Nat} {s':List Nd}:aF n=false->eG up (R++[⟨n,R.length,[]⟩]) (bK n) s R1 qs s1->eG up (rS R1 R.length qs) k s1 R' ps s'->eG up R (k+1) (n :: s) R' (R.length :: ps) s'
theorem eG.append{up:Int}{R:List Rw}{k:Nat}{s:List Nd}{R1:List Rw}{ps:List Nat}{s1:List Nd}(h:eG up R k s R1 ps s1):∀{j:Nat} {R2:List Rw} {qs:List Nat} {s2:List Nd},eG up R1 j s1 R2 qs s2->eG up R (k+j) s R2 (ps++qs) s2:=by
 induction h with
 | nil R s=>intro j R2 qs s2 h;rw [Nat.zero_add];exact h
 | @old R n i k s R' ps s' a b _ ih=>intro j R2 qs s2 h;rw [show k+1+j=(k+j)+1 by omega];exact eG.old a b (ih h)
 | @new R n k s R' ps s' a b _ ih=>intro j R2 qs s2 h;rw [show k+1+j=(k+j)+1 by omega];exact eG.new a b (ih h)
 | @name R n k s R1 qs s1 R' ps s' a b _ _ ih=>intro j R2 qs2 s2 h;rw [show k+1+j=(k+j)+1 by omega];exact eG.name a b (ih h)
def mV(R:List Rw):Prop:=∀(i j:Nat) (ri rj:Rw),R[i]?=some ri->R[j]?=some rj->aF ri.node=true->ri.node=rj.node->i=j
structure jC(up:Int)(R:List Rw)(k:Nat)(s:List Nd)(R':List Rw)(ps:List Nat)(s':List Nd)(g:Nat->Nat):Prop where
 full:eU s k
 rest:s'=s.drop (aI s k)
 ps:ps=(fI s k 0).map g
 more:R.length<=R'.length
 ext:∀i,i<R.length->R'[i]?=R[i]?
 var:∀i n,i<aI s k->s[i]?=some n->aF n=true->∃r,R'[g i]?=some r/\r.node=lQ up n
 name:∀i n,i<aI s k->s[i]?=some n->aF n=false->R'[g i]?=some ⟨n,g i,(fI (s.drop (i+1)) (bK n) (i+1)).map g⟩/\R.length<=g i
 inj:∀i j n m,i<aI s k->j<aI s k->s[i]?=some n->s[j]?=some m->aF n=false->aF m=false->g i=g j->i=j
 onto:∀r,R.length<=r->r<R'.length->∃i,i<aI s k/\g i=r
 fresh:∀r x,R.length<=r->R'[r]?=some x->x.cls=r/\(aF x.node=true->x.parts=[])
 once:mV R->mV R'
theorem jC.lt{up:Int}{R:List Rw}{k:Nat}{s:List Nd}{R':List Rw}{ps:List Nat}{s':List Nd}{g:Nat->Nat}(h:jC up R k s R' ps s' g){i:Nat}(hi:i<aI s k):g i<R'.length:=by
 obtain ⟨n,h1,_,_⟩:=aBs s k i h.full hi;cases hv:aF n with
 | true=>obtain ⟨r,h2,_⟩:=h.var i n hi h1 hv;exact (zk.1 h2).1
 | false=>exact (zk.1 (h.name i n hi h1 hv).1).1
theorem mV.name{R:List Rw}(h:mV R){r:Rw}(hr:aF r.node=false):mV (R++[r]):=by
 intro i j ri rj h1 h2 hv e;have hl:∀(k:Nat) (x:Rw),(R++[r])[k]?=some x->aF x.node=true->R[k]?=some x:=by
  intro k x hk hx;by_cases hlt:k<R.length
  ·rwa [zj hlt] at hk
  ·rw [zl (by omega)] at hk;have:k-R.length=0:=by
    by_cases h0:k-R.length=0
    ·exact h0
    ·rw [zb (by simp;omega)] at hk;simp at hk
   rw [this] at hk;simp at hk;rw [<-hk,hr] at hx;cases hx
 exact h i j ri rj (hl i ri h1 hv) (hl j rj h2 (by rw [<-e];exact hv)) hv e
theorem mV.new{R:List Rw}(h:mV R){r:Rw}(hr:∀x∈R,x.node≠r.node):mV (R++[r]):=by
 have hl:∀(k:Nat) (x:Rw),(R++[r])[k]?=some x->R[k]?=some x\/(k=R.length/\x=r):=by
  intro k x hk;by_cases hlt:k<R.length
  ·rw [zj hlt] at hk;exact z2 hk
  ·rw [zl (by omega)] at hk;have:k-R.length=0:=by
    by_cases h0:k-R.length=0
    ·exact h0
    ·rw [zb (by simp;omega)] at hk;simp at hk
   rw [this] at hk;simp at hk;exact zu ⟨by omega,hk.symm⟩
 intro i j ri rj h1 h2 hv e;rcases hl i ri h1 with a | ⟨a,rfl⟩ <;> rcases hl j rj h2 with b | ⟨b,rfl⟩
 ·exact h i j ri rj a b hv e
 ·exact absurd e (hr ri (za a))
 ·exact absurd e.symm (hr rj (za b))
 ·omega
theorem mV.parts{R:List Rw}(h:mV R)(k:Nat)(ps:List Nat):mV (rS R k ps):=by
 have hl:∀(i:Nat) (x:Rw),(rS R k ps)[i]?=some x->∃y,R[i]?=some y/\y.node=x.node:=by
  intro i x hi;rw [tB] at hi;split at hi
  ·rw [Option.map_eq_some_iff] at hi;obtain ⟨y,h1,rfl⟩:=hi;exact ⟨y,h1,rfl⟩
  ·exact ⟨x,hi,rfl⟩
 intro i j ri rj h1 h2 hv e;obtain ⟨a,ha,ea⟩:=hl i ri h1;obtain ⟨b,hb,eb⟩:=hl j rj h2;exact h i j a b ha hb (by rw [ea];exact hv) (by rw [ea,eb];exact e)
end
section
open Go.RowKit Go.Shelf Go.WideMaps
def dn(P:Tb)(D:List Bool)(i:Nat):Bool:=match P[i]? with | some p=>D.getD p.1.cls false | none=>false
theorem wH(P:Tb)(D:List Bool)(i:Nat)(h:i<P.length):dn P D i=D.getD P[i].1.cls false:=by simp [dn,h]
def rT(P:Tb)(D:List Bool):Prop:=∀i,i<P.length->dn P D i=true->bF (aV P) (aZ P) i
def yX(P:Tb)(D:List Bool)(i:Nat):Prop:=dn P D i=true\/∃h,∃hl:h<P.length,aZ P i h/\aF P[h].1.node=false/\∃p∈P[h].1.parts,dn P D p=false
def wI(P:Tb):Prop:=∀i j,aZ P i j->(aV P).named i->(aV P).named j->aN (aZ P) ((aV P).ch i) ((aV P).ch j)
theorem aN.mem_right{α β:Type}{R:α->β->Prop}{l:List α}{m:List β}(h:aN R l m){b:β}(hb:b∈m):∃a∈l,R a b:=by
 induction h with
 | nil=>simp at hb
 | cons h1 _ ih=>
  rcases z1.1 hb with rfl | hb
  ·exact ⟨_,by simp,h1⟩
  ·obtain ⟨a,ha,hr⟩:=ih hb;exact ⟨a,by simp [ha],hr⟩
theorem aGc{P:Tb}(h:wI P):gR (aV P) (aZ P):=by
 refine ⟨aZ.refl P,λ_ _=>aZ.symm,λ_ _ _=>aZ.trans,λi j k p q hij hi hj hp hq=>?_⟩;have ha:=h i j hij hi hj;clear hij hi hj;generalize (aV P).ch i=l at *;generalize (aV P).ch j=m at *;induction ha generalizing k with
 | nil=>simp at hp
 | cons h1 _ ih=>
  cases k with
  | zero=>simp at hp hq;subst hp;subst hq;exact h1
  | succ k=>exact ih k (by simpa using hp) (by simpa using hq)
theorem yY{P:Tb}{i:Nat}(h:i<P.length)(hv:aF P[i].1.node=false):(aV P).named i:=by show aF ((aV P).lab i)=false;rw [lP P i h];exact hv
theorem aQ1{P:Tb}(hcl:wI P)(hok:gP P){D:List Bool}(hs:rT P D){i:Nat}(hi:i<P.length){r:Int}(hh:aG1 P P[i].1.cls r)
  (hall:∀h:Nat,r=h->∀hl:h<P.length,∀p∈P[h].1.parts,dn P D p=true):bF (aV P) (aZ P) i:=by
 refine ⟨_,λj hij hj p hp=>?_⟩;obtain ⟨hjl,hjv⟩:=oB hj;rcases hh with ⟨_,hno⟩ | ⟨h,hr,hl,hc,hv⟩
 ·exact absurd ⟨((aZ.iff hi hjl).1 hij).symm,hjv⟩ (hno j hjl)
 ·have hih:aZ P i h:=(aZ.iff hi hl).2 hc.symm;have ha:=hcl h j (hih.symm.trans hij) (yY hl hv) hj;obtain ⟨q,hq,hqp⟩:=ha.mem_right hp;rw [oW P h hl] at hq;exact (hs q (hok.parts h hl q hq) (hall h hr hl q hq)).same (aGc hcl) hqp
theorem rT.set{P:Tb}(hcl:wI P){D:List Bool}(hs:rT P D){i:Nat}(hi:i<P.length)(he:bF (aV P) (aZ P) i):rT P (D.set P[i].1.cls true):=by
 intro k hk hd;by_cases e:P[i].1.cls=P[k].1.cls
 ·exact he.same (aGc hcl) ((aZ.iff hi hk).2 e)
 ·refine hs k hk ?_;rw [wH _ _ _ hk] at hd ⊢;simpa [z3,List.getElem?_set,e] using hd
theorem aQ2{P:Tb}(hok:gP P){D:List Bool}(h:∀i,i<P.length->yX P D i){i:Nat}(e:bF (aV P) (aZ P) i):i<P.length->dn P D i=true:=by
 induction e with
 | mk i _ ih=>
  intro hi;rcases h i hi with hd | ⟨k,hk,hik,hv,p,hp,hd⟩
  ·exact hd
  ·have:=ih k hik (yY hk hv) p (by rw [oW P k hk];exact hp) (hok.parts k hk p hp);rw [this] at hd;cases hd
theorem aQ3(D:List Bool)(c:Nat)(h:c<D.length)(hc:D.getD c false=false):(D.set c true).countP (λb=>!b)<D.countP λb=>!b:=by
 induction D generalizing c with
 | nil=>simp at h
 | cons b r ih=>
  cases c with
  | zero=>
   simp [z3] at hc;subst hc;simp
  | succ c=>
   have:=ih c (by simpa using h) (by simpa [z3] using hc);rw [zz,zy,zy];omega
theorem wJ{w:World}{B:Nat}{g n:Nat}{D:List Bool}(h:w.ownsRow B 4 1 (.slice (some ⟨g,0,none⟩) n n) n (D.map Value.bool))(hn:D.length=n)(k:Nat)(hk:k<D.length):w.cell? ⟨g,k,none⟩=some (.bool (D.getD k false)):=by rw [h.cellAt k (by omega)];simp [z3,hk]
def yZ(w:World)(g n:Nat):List Bool:=(List.range n).map λi=>match w.cell? ⟨g,i,none⟩ with | some (.bool b)=>b | _=>false
theorem aGd{w:World}{g n:Nat}{D:List Bool}(hn:D.length=n)(h:∀k,k<D.length->w.cell? ⟨g,k,none⟩=some (.bool (D.getD k false))):yZ w g n=D:=by
 apply zi;intro k;by_cases hk:k<n
 ·have:=h k (by omega);simp [yZ,hk,this];simp [show k<D.length by omega]
 ·simp [yZ,hk];omega
theorem bT.below{w wr:World}{B tp:Nat}{v:Value}{P:Tb}(h:bT w B tp v P)(k:Below w.heap.size w wr):bT wr B tp v P:=
 ⟨by rw [k.block tp (Array.getElem?_eq_some_iff.1 h.box).1,h.box],h.high,aU h.row k (zs _),λp hp=>aU (h.parts p hp) k (zs _)⟩
structure qB(w:World)(g n:Nat)(D:List Bool)(wr:World):Prop where
 len:D.length=n
 row:wr.ownsRow w.heap.size 4 1 (.slice (some ⟨g,0,none⟩) n n) n (D.map Value.bool)
 low:Below w.heap.size w wr
theorem qB.drewN{w:World}{g n:Nat}{D:List Bool}{wr:World}(h:qB w g n D wr)(d:Nat):qB w g n D (wr.drewN d):=⟨h.len,h.row,h.low.trans ((aJ ⟨d,rfl⟩).mono h.low.size)⟩
theorem qB.set{w:World}{g n:Nat}{D:List Bool}{wr:World}(h:qB w g n D wr)(hg:w.heap.size<=g)(c:Nat):qB w g n (D.set c true) (wr.setCell ⟨g,c,none⟩ (.bool true)):=by have r:=(h.row.stored c (.bool true)).1;refine ⟨by simp [h.len],?_,h.low.setCell (by simpa using hg) _⟩;rw [List.map_set];exact r
end
end Go.Proofs.YtcldkjcpofjmhaaGreatDoor
