import Derived.Test.YtenobhkjiebhaaaGreatDoorBase0S18
import Derived.Lib.ValidLaws
import Derived.Lib.RuneCount
import Derived.Lib.IndexAny
import Derived.Laws.BytesArg
import Derived.RangeFuncNested
import Derived.RangeFuncBound
import Derived.RangeFuncCalls
import Derived.RangeFuncLeaves
open Bool renaming true->zu,eq_iff_iff->zt,false->zm
open List renaming length->zw,length_drop->zs,getElem_drop->zp,drop_eq_nil_of_le->zh,mem_iff_getElem->zf,reverse_cons->zd,append_assoc->zc,getElem?_map->zb
open Nat renaming le_succ->zr,le_refl->zo,lt_succ_self->zn,le_trans->zl
open Option renaming some->U,none->zx
open Or renaming inr->zi,inl->zg
namespace Go.Proofs.YtenobhkjiebhaaaGreatDoor
open Go renaming World->Z,Value->zq
open _root_.Go.Proofs.Tryz renaming prog->zj
open Utf8 renaming decode->zk
open World renaming putObj_heap_other->zv,alloc_heap_new->ze
open Go.RowKit
set_option maxHeartbeats 1000000
set_option maxRecDepth 100000
variable{s:ByteArray}{V:Int->Int->Prop}{S:List TypeId}{B:Nat}{R:Nat->Nat->Prop}{A C:Z}
theorem pP(a:ByteArray):a.size=zw a.data.toList:=rfl
theorem bDh(s:ByteArray)(a:Nat):bV s a<=4:=by grind[aG,bV,eP]
theorem bDi(s:ByteArray):∀c a b,s.size-a<=c->b<=20->iY s c a b=zu->s.size<=a+4*(20-b):=by
 intro c;induction c with
 |zero=>intro a b g e d;omega
 |succ c ih=>
  intro a b g e d;by_cases i:a<s.size
  .by_cases f:bV s a=0\/aG s a=10
   .rw[aAp s (c+1) a b i g f]at d;simp at d
   have k:=bDh s a;simp only[iY,aT i,aS f]at d;by_cases j:b=20
   .exfalso;subst j;have:∀c a b,20<b->iY s c a b=false:=by
     intro c;induction c with
     |zero=>intro a b e;simp[iY];omega
     |succ c ih=>
      intro a b e;simp only[iY];split
      .split
       .rfl
       exact ih _ _ (by omega)
      simp;omega
    rw[this _ _ _ (by omega)]at d;simp at d
   have:=ih (a+bV s a) (b+1) (by omega) (by omega) d;omega
  omega
theorem aPs(s:ByteArray)(a:fS s=zu):0<s.size/\s.size<=80:=by
 refine⟨?_,?_⟩
 .rcases Nat.eq_zero_or_pos s.size with h0|h0
  .unfold fS at a;rw[h0]at a;simp[iY]at a
  exact h0
 have:=bDi s s.size 0 0 (by omega) (by omega) a;omega
theorem oE(s:ByteArray)(a:Nat):aG s a=(s.data.toList.getD a 0).toNat:=by
 unfold aG;split
 .next h=>
  obtain⟨⟨c⟩⟩:=s;have b:a<zw c:=h;simp[List.getD,b];rfl
 simp_all
theorem xD(s:ByteArray)(a:Nat):aG s a<256:=by rw[oE];exact UInt8.toNat_lt _
def vJ(a:Nat×Nat):Nat:=if a.1=65533/\a.2=1 then 0 else a.2
theorem yI(g i b c d a f e:Nat)(j:2<=a)(k:a<=4):vJ (Lib.slowN g i b c d a f e)=if g<a\/b<f\/e<b\/(3<=a/\(c<128\/191<c))\/(4<=a/\(d<128\/191<d)) then 0 else a:=by unfold vJ Lib.slowN;grind
theorem xE(s:ByteArray)(a b:Nat)(i:eP (aG s a)=b)(p:2<=b)(q:b<=4):bV s a=if s.size<a+b\/(aG s (a+1)<128\/191<aG s (a+1))\/(3<=b/\(aG s (a+2)<128\/191<aG s (a+2)))\/(4<=b/\(aG s (a+3)<128\/191<aG s (a+3)))\/sB (aG s a) (aG s (a+1))=zu then 0 else b:=by
 by_cases g:s.size<a+b
 .rw[aCh s a b i (by omega) g,aT (zg g)]
 by_cases d:∀c,0<c->c<b->kJ (aG s (a+c))=zu
 .rw[aCi s a b i (by omega) g d];have m:=d 1 (by omega) (by omega);have j:3<=b->kJ (aG s (a+2))=true:=λh=>d 2 (by omega) (by omega)
  have k:4<=b->kJ (aG s (a+3))=true:=λh=>d 3 (by omega) (by omega)
  simp only[kJ,Bool.and_eq_true,decide_eq_true_eq]at m j k;by_cases f:sB (aG s a) (aG s (a+1))=zu
  .rw[aT f,aT (by simp[f])]
  rw[aS f,aS];intro h;rcases h with h|h|h|h|h
  .omega
  .omega
  .have:=j h.1;omega
  .have:=k h.1;omega
  exact f h
 obtain⟨c,e⟩:=Classical.not_forall.1 d;obtain⟨n,e⟩:=Classical.not_imp.1 e;obtain⟨o,e⟩:=Classical.not_imp.1 e;have l:kJ (aG s (a+c))=false:=by simpa using e
 rw[aAn s a b c i (by omega) n o l,aT];simp only[kJ,Bool.and_eq_false_iff,decide_eq_false_iff_not]at l;rcases(show c=1\/c=2\/c=3 by omega)with rfl|rfl|rfl
 .right;left;omega
 .right;right;left;omega
 right;right;right;left;omega
theorem aEi(s:ByteArray)(a:Nat)(k:a<s.size):bV s a=vJ (zk s a):=by
 rw[Lib.decode_N,<-oE,<-oE,<-oE,<-oE,<-pP];have i:=xD s a;have c:=xD s (a+1);have d:=xD s (a+2);have e:=xD s (a+3);have g:1<=s.size-a:=by omega
 have f:=xU (aG s a) (aG s (a+1));rcases(show aG s a<128\/((128<=aG s a/\aG s a<194)\/245<=aG s a)\/(194<=aG s a/\aG s a<224)\/aG s a=224\/((225<=aG s a/\aG s a<237)\/(238<=aG s a/\aG s a<240))\/aG s a=237\/aG s a=240\/(241<=aG s a/\aG s a<244)\/aG s a=244 by omega)with h|h|h|h|h|h|h|h|h
 .rw[uL s a (by unfold eP;rw[aT h];omega)];unfold eP Lib.decodeN vJ;grind
 .have b:eP (aG s a)=0:=by unfold eP;split<;>(try split)<;>(try split)<;>(try split)<;>(try split)<;>omega
  have j:Lib.firstT (aG s a)=241:=by unfold Lib.firstT;(repeat' split)<;>omega
  rw[uL s a (by omega),b,Lib.bad_eq _ _ _ _ _ i j];rfl
 .have b:eP (aG s a)=2:=by unfold eP;split<;>(try split)<;>(try split)<;>(try split)<;>(try split)<;>omega
  rw[xE s a 2 b (by omega) (by omega),<-Lib.slow_C2 _ _ _ _ _ g c d e h,yI _ _ _ _ _ 2 _ _ (by omega) (by omega)];simp only[f];split<;>split<;>omega
 .have b:eP (aG s a)=3:=by unfold eP;split<;>(try split)<;>(try split)<;>(try split)<;>(try split)<;>omega
  rw[xE s a 3 b (by omega) (by omega),<-Lib.slow_E0 _ _ _ _ _ g c d e h,yI _ _ _ _ _ 3 _ _ (by omega) (by omega)];simp only[f];split<;>split<;>omega
 .have b:eP (aG s a)=3:=by unfold eP;split<;>(try split)<;>(try split)<;>(try split)<;>(try split)<;>omega
  rw[xE s a 3 b (by omega) (by omega),<-Lib.slow_E1 _ _ _ _ _ g c d e h,yI _ _ _ _ _ 3 _ _ (by omega) (by omega)];simp only[f];split<;>split<;>omega
 .have b:eP (aG s a)=3:=by unfold eP;split<;>(try split)<;>(try split)<;>(try split)<;>(try split)<;>omega
  rw[xE s a 3 b (by omega) (by omega),<-Lib.slow_ED _ _ _ _ _ g c d e h,yI _ _ _ _ _ 3 _ _ (by omega) (by omega)];simp only[f];split<;>split<;>omega
 .have b:eP (aG s a)=4:=by unfold eP;split<;>(try split)<;>(try split)<;>(try split)<;>(try split)<;>omega
  rw[xE s a 4 b (by omega) (by omega),<-Lib.slow_F0 _ _ _ _ _ g c d e h,yI _ _ _ _ _ 4 _ _ (by omega) (by omega)];simp only[f];split<;>split<;>omega
 .have b:eP (aG s a)=4:=by unfold eP;split<;>(try split)<;>(try split)<;>(try split)<;>(try split)<;>omega
  rw[xE s a 4 b (by omega) (by omega),<-Lib.slow_F1 _ _ _ _ _ g c d e h,yI _ _ _ _ _ 4 _ _ (by omega) (by omega)];simp only[f];split<;>split<;>omega
 have b:eP (aG s a)=4:=by unfold eP;split<;>(try split)<;>(try split)<;>(try split)<;>(try split)<;>omega
 rw[xE s a 4 b (by omega) (by omega),<-Lib.slow_F4 _ _ _ _ _ g c d e h,yI _ _ _ _ _ 4 _ _ (by omega) (by omega)];simp only[f];split<;>split<;>omega
theorem aPt(s:ByteArray)(b a:Nat)(d:bV s b≠0)(c:0<a)(e:a<bV s b):128<=aG s (b+a):=by grind[aG,bV,aAn,uL,kJ,eP]
theorem bDj(s:ByteArray)(a:Nat)(e:a<s.size)(i:bV s a≠0):(10∈s.data.toList.drop a)↔aG s a=10\/10∈s.data.toList.drop (a+bV s a):=by
 have l:=aAo s a e;rw[zf,zf];constructor
 .rintro⟨b,d,c⟩;simp only[zs,<-pP,zp]at d c;have g:aG s (a+b)=10:=by rw[gH s (a+b) (by omega)];show (s.data.toList[a+b]'_).toNat=10;rw[c];rfl
  by_cases k:b<bV s a
  .by_cases j:b=0
   .subst j;exact zg g
   have:=aPt s a b i (by omega) k;omega
  refine zi ⟨b-bV s a,by simp only[zs,<-pP];omega,?_⟩;simp only[zp];have:a+bV s a+(b-bV s a)=a+b:=by omega
  simp only[this];exact c
 rintro(h|⟨b,d,c⟩)
 .refine⟨0,by simp only[zs,<-pP];omega,?_⟩;simp only[zp,Nat.add_zero];rw[gH s a e]at h;have f:(s.data.toList[a]'(by rw[<-pP];exact e)).toNat=10:=h;exact UInt8.toNat_inj.1 f
 simp only[zs,<-pP,zp]at d c;refine⟨bV s a+b,by simp only[zs,<-pP];omega,?_⟩;simp only[zp];have:a+(bV s a+b)=a+bV s a+b:=by omega
 simp only[this];exact c
theorem bDk(s:ByteArray):∀b a c,s.size-a<=b->
  (iY s b a c=zu↔Lib.validD (s.data.toList.drop a)=zu/\¬10∈s.data.toList.drop a/\1<=c+Lib.runeCountFrom s b a/\c+Lib.runeCountFrom s b a<=20):=by
 intro b;induction b with
 |zero=>
  intro a c k;have j:s.data.toList.drop a=[]:=zh (by rw[<-pP];omega);rw[j];simp[iY,Lib.validD_nil,Lib.runeCountFrom]
 |succ b ih=>
  intro a c k;by_cases d:a<s.size
  .have r:s.data.toList.drop a≠[]:=by
    intro o;have:=congrArg zw o;simp only[zs,<-pP,List.length_nil]at this;omega
   have l:=aEi s a d;rw[Lib.validD_step _ r,Lib.decodeL_drop,List.drop_drop];by_cases e:(zk s a).1=65533/\(zk s a).2=1
   .have p:bV s a=0:=by rw[l];unfold vJ;rw[aT e]
    rw[aT e,aAp s (b+1) a c d k (zg p)];simp
   have v:=Lib.decode_width_pos s a d;have q:bV s a=(zk s a).2:=by rw[l];unfold vJ;rw[aS e]
   rw[aS e,bDj s a d (by omega)];have t:Lib.runeCountFrom s (b+1) a=1+Lib.runeCountFrom s b (a+(zk s a).2):=by simp[Lib.runeCountFrom,d]
   rw[t];by_cases i:aG s a=10
   .rw[aAp s (b+1) a c d k (zi i)];simp[i]
   have u:iY s (b+1) a c=iY s b (a+bV s a) (c+1):=by
    simp only[iY,aT d];rw[aS (by omega)]
   rw[u,ih (a+bV s a) (c+1) (by omega),q];simp only[i,false_or];constructor
   .rintro⟨f,g,m,n⟩;exact⟨f,g,by omega,by omega⟩
   rintro⟨f,g,m,n⟩;exact⟨f,g,by omega,by omega⟩
  have j:s.data.toList.drop a=[]:=zh (by rw[<-pP];omega);rw[aCj s (b+1) a c d,j,Lib.runeCountFrom_end s (b+1) a d];simp[Lib.validD_nil]
theorem bDl(s:ByteArray):fS s=(Lib.validD s.data.toList && !decide (0<=Lib.indexByte s.data.toList 10) && (decide (1<=Lib.runeCount s) && decide (Lib.runeCount s<=20))):=by rw[zt];unfold fS;rw[bDk s s.size 0 0 (by omega),<-Lib.contains_iff_indexByte];have a:Lib.runeCountFrom s s.size 0=Lib.runeCount s:=rfl;rw[a];simp[and_assoc]
def fC(a:Int):Bool:=decide (97<=a) && decide (a<=122)
def eZ(a:Int):Bool:=decide (65<=a) && decide (a<=90)
def rD(a:Int):Bool:=decide (48<=a) && decide (a<=57)
def iE(c:Int):Bool:=fC c || eZ c || rD c || c==95
theorem aPu(a:Int)(b:Z):Calls zj 67 #[.int .u8 a] b λc d=>c=.returned (.bool (fC a))/\d=b:=by
 unfold fC;by_cases e:97<=a
 .go_enter Tryz.func67,Tryz.ntmps67;go_wp2;go_ret;exact⟨eB (by rw[zt];simp;omega),rfl⟩
 go_enter Tryz.func67,Tryz.ntmps67;go_wp2;go_ret;exact⟨eB (by rw[zt];simp;omega),rfl⟩
theorem aPv(a:Int)(b:Z):Calls zj 68 #[.int .u8 a] b λc d=>c=.returned (.bool (eZ a))/\d=b:=by
 unfold eZ;by_cases e:65<=a
 .go_enter Tryz.func68,Tryz.ntmps68;go_wp2;go_ret;exact⟨eB (by rw[zt];simp;omega),rfl⟩
 go_enter Tryz.func68,Tryz.ntmps68;go_wp2;go_ret;exact⟨eB (by rw[zt];simp;omega),rfl⟩
theorem bDm(a:Int)(b:Z):Calls zj 141 #[.int .u8 a] b λc d=>c=.returned (.bool (rD a))/\d=b:=by
 unfold rD;by_cases e:48<=a
 .go_enter Tryz.func141,Tryz.ntmps141;go_wp2;go_ret;exact⟨eB (by rw[zt];simp;omega),rfl⟩
 go_enter Tryz.func141,Tryz.ntmps141;go_wp2;go_ret;exact⟨eB (by rw[zt];simp;omega),rfl⟩
theorem bDn(c:Int)(a:Z):Calls zj 107 #[.int .u8 c] a λb d=>b=.returned (.bool (iE c))/\d=a:=by
 have f:=aPu c a;have g:=aPv c a;have i:=bDm c a;have e:aE (iE c=(fC c || eZ c || rD c || c==95)):=rfl;generalize fC c=b1 at *;generalize eZ c=b2 at *;generalize rD c=b3 at *;go_enter Tryz.func107,Tryz.ntmps107;cases b1<;>cases b2<;>cases b3;all_goals
  go_wp2_with(first
   |(go_at_call 67;refine f.mono ?_;rintro b d ⟨rfl,rfl⟩)
   |(go_at_call 68;refine g.mono ?_;rintro b d ⟨rfl,rfl⟩)
   |(go_at_call 141;refine i.mono ?_;rintro b d ⟨rfl,rfl⟩))
  go_ret;exact⟨eB (by rw[e.o];simp),rfl⟩
def tY(s:ByteArray):Nat->Nat->Nat
 |0,p=>p
 |f+1,p=>if p<s.size/\iE (aG s p)=true then tY s f (p+1) else p
def fG(s:ByteArray)(a:Nat):Nat:=tY s (s.size-a) a
theorem aBn{a:Nat}(c:a<s.size)(e:iE (aG s a)=zu):fG s a=fG s (a+1):=by unfold fG;obtain⟨b,d⟩:∃b,s.size-a=b+1:=⟨s.size-a-1,by omega⟩;grind[tY]
theorem aI2{a:Nat}(b:¬(a<s.size/\iE (aG s a)=zu)):fG s a=a:=by
 unfold fG;cases hf:s.size-a with
 |zero=>rfl
 |succ f=>simp only[tY];rw[aS b]
theorem aI3(s:ByteArray):∀a b,b<=tY s a b/\(b<=s.size->tY s a b<=s.size):=by
 intro a;induction a with
 |zero=>intro b;exact⟨zo _,λc=>c⟩
 |succ a ih=>
  grind[tY]
theorem aPw(s:ByteArray)(a:Nat):a<=fG s a:=(aI3 s _ a).1
theorem aI4{a:Nat}(b:a<=s.size):fG s a<=s.size:=(aI3 s _ a).2 b
def gJ(s:ByteArray):Nat->ByteArray->Nat->Option (ByteArray×Nat)
 |0,_,_=>none
 |f+1,name,p=>
  if p<s.size then
   if aG s p=39 then (if fS name then U (name,p+1) else zx)
   else
    if aG s p=92 then
     (if p+1<s.size/\(aG s (p+1)=39\/aG s (p+1)=92) then gJ s f (name++s.extract (p+1) (p+2)) (p+2) else zx)
    else if bV s p=0\/aG s p=10 then zx else gJ s f (name++s.extract p (p+bV s p)) (p+bV s p)
  else zx
def mZ(s:ByteArray)(a:Nat):Option (ByteArray×Nat):=gJ s s.size ⟨#[]⟩ (a+1)
def yJ(s:ByteArray):Nat->Nat->Nat
 |0,p=>p
 |f+1,p=>if p<s.size/\aG s p≠10 then yJ s f (p+1) else p
def jD(s:ByteArray)(a:Nat):Nat:=yJ s (s.size-a) a
theorem aEj{a:Nat}(c:a<s.size)(e:aG s a≠10):jD s a=jD s (a+1):=by unfold jD;obtain⟨b,d⟩:∃b,s.size-a=b+1:=⟨s.size-a-1,by omega⟩;grind[yJ]
theorem aEk{a:Nat}(b:¬(a<s.size/\aG s a≠10)):jD s a=a:=by
 unfold jD;cases hf:s.size-a with
 |zero=>rfl
 |succ f=>simp only[yJ];rw[aS b]
theorem aPx(s:ByteArray):∀a b,b<=yJ s a b/\(b<=s.size->yJ s a b<=s.size):=by
 intro a;induction a with
 |zero=>intro b;exact⟨zo _,λc=>c⟩
 |succ a ih=>
  grind[yJ]
structure Tk where
 kind:Nat
 txt:ByteArray
 pos:Nat
inductive Nx where
 |tok (t:Tk) (next:Nat)
 |bad (p:Nat)
 |stop (p:Nat)
def oU(a:Nat):Bool:=decide (a=124) || decide (a=126) || decide (a=40) || decide (a=41) || decide (a=44) || decide (a=46)
def fT(s:ByteArray)(a:Nat):Nx:=
 if fC (aG s a) || eZ (aG s a) then
  (if fG s a-a > 20 then .bad a else .tok ⟨if eZ (aG s a) then 118 else 110,s.extract a (fG s a),a⟩ (fG s a))
 else if aG s a=39 then (match mZ s a with|some (n,e)=>.tok ⟨110,n,a⟩ e|none=>.bad a)
 else if aG s a=36 then (if a+6<=s.size/\s.extract a (a+6)=⟨#[36,102,97,108,115,101]⟩ then .tok ⟨102,⟨#[]⟩,a⟩ (a+6) else .bad a)
 else if oU (aG s a) then .tok ⟨aG s a,⟨#[]⟩,a⟩ (a+1)
 else .bad a
def lE(a:Nat):Bool:=decide (a=32) || decide (a=9) || decide (a=10)
def vK(s:ByteArray):Nat->Nat->Nx
 |0,p=>.stop p
 |f+1,p=>
  if p<s.size then
   if lE (aG s p) then vK s f (p+1)
   else if aG s p=37 then vK s f (jD s p)
   else fT s p
  else .stop p
def cW(s:ByteArray):Nat->Nat->List Tk×Option Nat
 |0,p=>([],some p)
 |f+1,p=>
  if p<s.size then
   if lE (aG s p) then cW s f (p+1)
   else if aG s p=37 then cW s f (jD s p)
   else match fT s p with
    | .tok t e=>(t::(cW s f e).1,(cW s f e).2)
    |_=>([],some p)
  else ([⟨101,⟨#[]⟩,p⟩],zx)
theorem yK{a b:zq}{c d:zq}(e:a=c)(f:b=d):Ending.returned (.tuple #[a,b])=.returned (.tuple #[c,d]):=by rw[e,f]
theorem bDo(s:ByteArray)(e:Nat)(l:Z)(q:s.size<=1000000)(o:e<=s.size):Calls zj 69 #[.string s,iQ e] l λj m=>j=.returned (iQ (fG s e))/\m=l:=by
 go_enter Tryz.func69,Tryz.ntmps69;go_wp2;go_loop [1] (λk=>∃a:Nat,a<=s.size/\k=iQ a/\fG s a=fG s e) (λk=>s.size-(intOf k).toNat);exact⟨e,o,rfl,rfl⟩;obtain⟨a,p,rfl,b⟩:=hrel;by_cases d:a<s.size
 .have n:(a:Int)<(s.size:Int):=by omega
  have i:=gH s a d;have f:=O (bDn ((s[a]'d).toNat:Int) l);cases hi:iE ((s[a]'d).toNat:Int)with
  |true=>
   have c:=O (b.symm.trans (aBn d (by rw[i];exact hi)));rw[hi]at f;clear hi b i;go_wp2_with(go_at_call 107;refine(aD f).mono ?_;rintro j m ⟨rfl,rfl⟩);go_round;·exact⟨a+1,by omega,by go_num,c.o.symm⟩
   simp[intOf];omega
  |false=>
   have c:=O (b.symm.trans (aI2 (λg=>by rw[i,hi]at g;cases g.2)));rw[hi]at f;clear hi b i;go_wp2_with(go_at_call 107;refine(aD f).mono ?_;rintro j m ⟨rfl,rfl⟩);go_ret;exact⟨lK (by rw[c.o]),rfl⟩
 have n:¬(a:Int)<(s.size:Int):=by omega
 have c:=O (b.symm.trans (aI2 (λg=>d g.1)));clear b;go_wp2;go_ret;exact⟨lK (by rw[c.o]),rfl⟩
def aI5(a:Option (ByteArray×Nat)):zq:=match a with|some (n,e)=>.tuple #[.string n,iQ e]|none=>.tuple #[.string ⟨#[]⟩,iQ (-1)]
theorem bDp(s:ByteArray)(u:Nat)(y:Z)(a4:s.size<=1000000)(a3:u<s.size):Calls zj 70 #[.string s,iQ u] y λj l=>j=.returned (aI5 (mZ s u))/\l=y:=by
 go_enter Tryz.func70,Tryz.ntmps70;go_wp2;go_loop [1,6] (λF T=>∃(a f:Nat) (e:ByteArray),a<=s.size/\F=iQ a/\T=.string e/\e.size<=a/\s.size<a+f/\mZ s u=gJ s f e a) (λF _=>s.size-(intOf F).toNat);exact⟨u+1,s.size,⟨#[]⟩,by omega,by go_num,rfl,Nat.zero_le _,by omega,rfl⟩;obtain⟨a,f,e,X,rfl,rfl,a2,W,r⟩:=hrel;by_cases d:a<s.size
 .have P:(a:Int)<(s.size:Int):=by omega
  obtain⟨f,rfl⟩:∃H,f=H+1:=⟨f-1,by omega⟩;have w:=gH s a d;simp only[gJ]at r;rw[aT d]at r;have m:=O r;clear r;by_cases k:aG s a=39
  .have L:(((s[a]'d).toNat:Int)==39)=true:=by rw[beq_iff_eq];omega
   have z:=O (aJn e y (by omega));have b:=O (m.o.trans (aT k));clear m w;cases hi:fS e with
   |true=>
    rw[hi]at z b;clear hi k;go_wp2_with(go_at_call 108;refine(aD z).mono ?_;rintro j l ⟨rfl,rfl⟩);go_ret2;exact⟨by rw[b.o];exact yK rfl (by go_num),rfl⟩
   |false=>
    rw[hi]at z b;clear hi k;go_wp2_with(go_at_call 108;refine(aD z).mono ?_;rintro j l ⟨rfl,rfl⟩);go_ret2;exact⟨by rw[b.o];exact yK rfl rfl,rfl⟩
  have L:(((s[a]'d).toNat:Int)==39)=false:=by rw[beq_eq_false_iff_ne];omega
  have o:=O (m.o.trans (aS k));clear m;by_cases p:aG s a=92
  .have M:(((s[a]'d).toNat:Int)==92)=true:=by rw[beq_iff_eq];omega
   have b:=O (o.o.trans (aT p));clear o w k p;by_cases g:a+1<s.size
   .have a1:(a:Int)+1<(s.size:Int):=by omega
    have N:¬(s.size:Int)<=(a:Int)+1:=by omega
    have x:=gH s (a+1) g;by_cases q:aG s (a+1)=39\/aG s (a+1)=92
    .have c:=O (b.o.trans (aT ⟨g,q⟩));have G:bV s (a+1)=1:=by
      have t:eP (aG s (a+1))=1:=by unfold eP;rw[aT (by omega)]
      rw[uL s (a+1) (by omega),t]
     have i:=aFg s (a+1) y g (by omega);rw[G]at i;have v:(((s[a+1]'g).toNat:Int)==10)=false:=by rw[beq_eq_false_iff_ne];omega
     have hcc:(((s[a+1]'g).toNat:Int) != 39)=zu/\(((s[a+1]'g).toNat:Int) != 92)=zm\/(((s[a+1]'g).toNat:Int) != 39)=false:=by
      rcases q with h|h
      .right;rw[x]at h;simp;omega
      left;rw[x]at h;simp;omega
     have D:aE ((e++s.extract (a+1) (a+2)).size<=a+2):=O (by simp;omega);clear b q x G;rcases hcc with⟨hcc,J⟩|hcc
     .go_wp2_with(go_at_call 109;refine i.mono ?_;rintro j l ⟨rfl,rfl⟩);go_round;·exact⟨a+2,f,e++s.extract (a+1) (a+2),by omega,by go_num,rfl,D.o,by omega,c.o⟩
      .simp[intOf];omega
     go_wp2_with(go_at_call 109;refine i.mono ?_;rintro j l ⟨rfl,rfl⟩);go_round;·exact⟨a+2,f,e++s.extract (a+1) (a+2),by omega,by go_num,rfl,D.o,by omega,c.o⟩
     simp[intOf];omega
    have c:=O (b.o.trans (aS (λh=>q h.2)));have hcc:(((s[a+1]'g).toNat:Int) != 39)=zu/\(((s[a+1]'g).toNat:Int) != 92)=true:=by
     rw[x]at q;simp;omega
    obtain⟨hcc,J⟩:=hcc;clear b q x;go_wp2;go_ret2;exact⟨by rw[c.o];exact yK rfl rfl,rfl⟩
   have c:=O (b.o.trans (aS (λh=>g h.1)));have N:(s.size:Int)<=(a:Int)+1:=by omega
   clear b;go_wp2;go_ret2;exact⟨by rw[c.o];exact yK rfl rfl,rfl⟩
  have M:(((s[a]'d).toNat:Int)==92)=false:=by rw[beq_eq_false_iff_ne];omega
  have b:=O (o.o.trans (aS p));have i:=aFg s a y d (by omega);have E:=O (aAo s a d);by_cases t:bV s a=0
  .have c:=O (b.o.trans (aT (zg t)));rw[t]at i;clear o b w k p t E;go_wp2_with(go_at_call 109;refine i.mono ?_;rintro j l ⟨rfl,rfl⟩);go_ret2;exact⟨by rw[c.o];exact yK rfl rfl,rfl⟩
  by_cases v:aG s a=10
  .have c:=O (b.o.trans (aT (zi v)));have I:(((s[a]'d).toNat:Int)==10)=true:=by rw[beq_iff_eq];omega
   have Q:(((bV s a:Nat):Int)==0)=false:=by rw[beq_eq_false_iff_ne];omega
   clear o b w k p v;go_wp2_with(go_at_call 109;refine i.mono ?_;rintro j l ⟨rfl,rfl⟩);go_ret2;exact⟨by rw[c.o];exact yK rfl rfl,rfl⟩
  have c:=O (b.o.trans (aS (λh=>h.elim t v)));have I:(((s[a]'d).toNat:Int)==10)=false:=by rw[beq_eq_false_iff_ne];omega
  have Q:(((bV s a:Nat):Int)==0)=false:=by rw[beq_eq_false_iff_ne];omega
  have a0:=E.o;have D:aE ((e++s.extract a (a+bV s a)).size<=a+bV s a):=O (by simp;omega);clear o b w k p v E;generalize bV s a=n at *;go_wp2_with(go_at_call 109;refine i.mono ?_;rintro j l ⟨rfl,rfl⟩);go_round;·exact⟨a+n,f,e++s.extract a (a+n),by omega,by go_num,rfl,D.o,by omega,c.o⟩
  simp[intOf];omega
 have P:¬(a:Int)<(s.size:Int):=by omega
 have m:aE (mZ s u=zx):=O (by rw[r];cases f<;>simp[gJ,d]);clear r;go_wp2;go_ret2;exact⟨by rw[m.o];exact yK rfl rfl,rfl⟩
structure dH(S:List TypeId)(W W':Z):Prop where
 size:W.heap.size<=W'.heap.size
 kc:∀(k:Nat) (cs:Array zq) (T:TypeId),W.heap[k]?=U (Obj.cells cs T (0,0))->T∉S->W'.heap[k]?=U (Obj.cells cs T (0,0))
theorem dH.refl(S:List TypeId)(a:Z):dH S a a:=⟨zo _,λ_ _ _ b _=>b⟩
theorem dH.trans{S:List TypeId}{A B C:Z}(c:dH S A B)(k:dH S B C):dH S A C:=⟨zl c.size k.size,λe b a f d=>k.kc e b a (c.kc e b a f d) d⟩
theorem dH.put(a:Z)(l:Nat)(o e:Obj)(c:a.heap[l]?=U o)(d:o.isCells=zm):dH S a (a.putObj l e):=
 ⟨by simp,λk g f b _=>(zv (by rintro rfl;rw[c]at b;cases b;cases d)).trans b⟩
theorem dH.grown{b V:Z}{f:Option Nat}(c:World.grownBy b V f)(k:∀e,f=U e->∃o:Obj,b.heap[e]?=U o/\o.isCells=zm):dH S b V:=
 ⟨c.size,λd m l a _=>(c.block d (bA a) (by
  intro g;obtain⟨o,i,j⟩:=k d g.symm;rw[i]at a;cases a;cases j)).trans a⟩
def oV(S:List TypeId)(c:Nat)(a b:Z):Prop:=dH S a b/\KeepsFrom c a b
theorem nB{a:Nat}{b c:Z}(d:KeepsFrom B b c)(g:B<=a):KeepsFrom a b c:=⟨d.size,λj k i e f=>d.same j k (zl g i) e f⟩
theorem oV.trans{S:List TypeId}{N:Nat}{A B C:Z}(a:oV S N A B)(k:oV S N B C):oV S N A C:=⟨a.1.trans k.1,⟨zl a.2.size k.2.size,λd e c f b=>k.2.same d e c (a.2.same d e c f b) b⟩⟩
theorem oW{a:Nat}{B:Z}(b:KeepsFrom a A B)(f:KeepsFrom a B C):KeepsFrom a A C:=⟨zl b.size f.size,λe g d i c=>f.same e g d (b.same e g d i c) c⟩
theorem oV.put{b:Nat}(a:Z)(l:Nat)(o c:Obj)(e:a.heap[l]?=U o)(f:o.isCells=zm)(g:l<b):oV S b a (a.putObj l c):=
 ⟨dH.put a l o c e f,⟨by simp,λk _ i d _=>(zv (by omega)).trans d⟩⟩
def gF(B:Nat)(a b:Z):Prop:=∀I:Z->Prop,OwnFrom B (λ(_:Unit)=>I)->I a->I b
theorem gF.refl(B:Nat)(a:Z):gF B a a:=λ_ _ b=>b
theorem gF.trans{B:Nat}{A C a:Z}(c:gF B A C)(k:gF B C a):gF B A a:=λI b x=>k I b (c I b x)
theorem gF.low{a:Nat}(d:gF a A C)(e:B<=a):gF B A C:=λI f x=>d I (λs X Y j i g c=>f s X Y j i g (λr b=>⟨zl e (c r b).1,(c r b).2⟩)) x
theorem gF.own{β:Type}{I:β->Z->Prop}(b:gF B A C)(c:OwnFrom B I){s:β}(x:I s A):I s C:=b (I s) (λ_ X a g f d e=>c s X a g f d e) x
theorem gF.grown{b:Option Nat}(d:World.grownBy A C b)(e:∀a,b=U a->B<=a/\∃o:Obj,A.heap[a]?=U o/\o.isCells=zm):gF B A C:=λ_ c x=>c () A C b x d e
def xF{o:Type}(F:Fence)(n:Nat)(j:Program)(p:Nat)(lb:Array zq)(Enc:o->Array zq->Nat->Z->Prop)(S:List TypeId)(L:List o)(a:Z):Prop:=
 ∀(l:Nat) (d g:Nat->Z->Prop),OwnFrom a.heap.size d->OwnFrom a.heap.size g->
  (∀c m k i e,L[c]?=U m->d c i->gF a.heap.size i e->Enc m k i.heap.size e->YieldAt F (n-1) j l k e λf b=>
   (f=.returned (.bool zu)/\d (c+1) b/\oV S a.heap.size e b)\/(f=.returned (.bool zm)/\g c b/\KeepsFrom a.heap.size e b))->
  d 0 a->
  CallsIn F n j p (#[.func (.yield l) #[] #[]]++lb) a λf b=>(∃q,f=.returned q)/\(d (zw L) b\/∃c,g c b)
def aEl(B:Nat)(S:List TypeId)(d:Nat->Z->Prop)(c:Code->Nat->Z->Prop)(b:Nat)(a:Z):Exit->Act->Z->Prop
 | .normal,_,W'=>KeepsFrom B a W'/\dH S a W'/\d (b+1) W'
 | .ret,_,W'=>KeepsFrom B a W'/\c .ret b W'
 | .exit i,_,W'=>KeepsFrom B a W'/\c (.exit i) b W'
 | .goto t,_,W'=>KeepsFrom B a W'/\c (.goto t) b W'
 | .panic _,_,_=>False
 | .outgrown,_,_=>False
theorem xG{n:Type}{a:Nat}{b:n->Z->Prop}(i:OwnFrom B b)(j:B<=a):OwnFrom a b:=
 λs f g m l k d=>i s f g m l k (λe c=>⟨zl j (d e c).1,(d e c).2⟩)
def lV(d:FuncId)(g:Array zq)(f:Array Tmp)(a b:Code)(c:Nat)(s:LoopState)(e:Option Code):Loop:=
 {state:=s,pending:=e,fn:=d,tmps:=g,params:=f,assign:=a,body:=b,defers:=c}
structure oX(D:Nat)(r:Loop)(W:Z):Prop where
 k:W.heap[D]?=U (.deferred (U []))
 l:W.heap[D+1]?=U (.loop r)
theorem oX.own{b:Nat}{f:Loop}(i:b+1<B):OwnFrom B (λ(_:Nat) W=>oX b f W):=λ_ X g j a c e=>by
 refine⟨(c.block _ (bA a.k) ?_).trans a.k,(c.block _ (bA a.l) ?_).trans a.l⟩;all_goals
  intro d;have:=(e _ d.symm).1;omega
theorem oX.put{a:Nat}{d:Loop}{b:Z}(c:oX a d b)(r':Loop):oX a r' (b.putObj (a+1) (.loop r')):=
 ⟨(zv (by omega)).trans c.k,World.putObj_heap_same (bA c.l)⟩
theorem oX.keep{a:Nat}{f:Loop}{b c:Z}(d:oX a f b)(g:B<=a)(e:KeepsFrom B b c):oX a f c:=
 ⟨e.same _ _ g d.k rfl,e.same _ _ (by omega) d.l rfl⟩
theorem aBo{J:Type}{F:Fence}{n:Nat}{v:Program}{a3:Operand}{f:Array Tmp}{d e:Code}{X:Exit->Act->Z->Prop}{b:Act}{w:Z}
  (e0:F.round=zx) (c1:1<=n) {gf:Nat}{lb:Array zq} (d2:b.eval a3=.func (.func gf) #[] lb) (c3:F.fn gf) (b7:∀m w,(callFunc gf m).run v w=.ok (.enter gf m) w)
  {Enc:J->Array zq->Nat->Z->Prop}{S:List TypeId}{L:List J}
  (e1:∀e3 e4,xF F (n-1) v gf lb Enc S L ((w.alloc e3).alloc e4))
  (d9:∀k m b5 a,Enc k m b5 a->m.size=f.size)
  (u:Nat->Z->Prop) (M:Code->Nat->Z->Prop) (x:OwnFrom w.heap.size u) (G:∀l,OwnFrom w.heap.size (M l)) (c0:u 0 w)
  (W:Nat->J->Act->Z->Prop) (c2:∀c k q,OwnFrom w.heap.size (λ(_:Unit) a=>W c k q a))
  (c6:∀(T c:Nat) (k:J) (m:Array zq) (E a:Z) (K:Act->Z->Prop),L[c]?=U k->u c E->gF w.heap.size E a->u c a->Enc k m E.heap.size a->(∀q D,KeepsFrom w.heap.size a D->dH S a D->u c D->W c k q D->K q D)->
   d.wpIn (F.inRound T) (n-1-1) v (Exit.then K (λ_ _ _=>False)) {tmps:=(f.zip m).foldl (λt (p,b4)=>t.setIfInBounds p b4) b.tmps,defers:=[]} a)
  (c8:∀(T c:Nat) (k:J) (q:Act) (a:Z),w.heap.size<=T->L[c]?=U k->u c a->W c k q a->
   e.wpIn (F.inRound T) (n-1-1) v (aEl w.heap.size S u M c a) q a)
  (c9:∀(a:Z),u (zw L) a->a.heap[w.heap.size]?=U (.deferred (U []))->X .normal {b with defers:={target:=.collected w.heap.size,args:=#[]}::b.defers} a)
  (e2:∀(l:Code) (c:Nat) (a:Z),M l c a->a.heap[w.heap.size]?=U (.deferred (U []))->l.wpIn F n v X {b with defers:={target:=.collected w.heap.size,args:=#[]}::b.defers} a):(Code.rangeFunc a3 f d e).wpIn F n v X b w:=by
 refine wpIn_rangeFunc λg d1=>?_
 have c4:oX w.heap.size (lV g b.tmps f d e w.heap.size .ready zx) ((w.alloc (.deferred (U []))).alloc (.loop (lV g b.tmps f d e w.heap.size .ready zx))):=by refine⟨(Below.heap_alloc _ _ _ (by simp)).trans (ze w _),?_⟩;have:=ze (w.alloc (.deferred (U []))) (.loop (lV g b.tmps f d e w.heap.size .ready zx));rwa[World.size_alloc]at this
 have Q:((w.alloc (.deferred (U []))).alloc (.loop (lV g b.tmps f d e w.heap.size .ready zx))).heap.size=w.heap.size+1+1:=by simp
 rw[e0];have d0:=run_enterLoop_outer (P:=v) (w:=w) g b.tmps f d e;refine⟨w.heap.size+1,[{target:=.collected w.heap.size,args:=#[]}],(w.alloc (.deferred (U []))).alloc (.loop (lV g b.tmps f d e w.heap.size .ready zx)),{target:=.fn (.func gf) lb,args:=#[.func (.yield (w.heap.size+1)) #[] #[]]},
  (w.alloc (.deferred (U []))).alloc (.loop (lV g b.tmps f d e w.heap.size .ready zx)),gf,#[.func (.yield (w.heap.size+1)) #[] #[]]++lb,(w.alloc (.deferred (U []))).alloc (.loop (lV g b.tmps f d e w.heap.size .ready zx)),d0,?_,?_,?_,λ_=>c1,?_⟩
 .simp only[resolve,d2];simp[go_sem]
 .intro e8 a5;simp[Target.leads]at a5;subst a5;exact c3
 .simp[invoke,go_sem,b7]
 refine(e1 _ _ (w.heap.size+1) (λc a=>u c a/\oX w.heap.size (lV g b.tmps f d e w.heap.size .ready zx) a)
  (λc a=>∃l,M l c a/\oX w.heap.size (lV g b.tmps f d e w.heap.size .done (U l)) a) ?o1 ?o2 ?round ⟨x.alloc _ (x.alloc _ c0),c4⟩).mono ?behind
 case o1=>exact(xG x (by simp;omega)).and (oX.own (by simp))
 case o2=>
  rintro s a0 a1 b3 ⟨l,b8,b9⟩ a6 b1;exact⟨l,xG (G l) (by simp;omega) s a0 a1 b3 b8 a6 b1,oX.own (by simp) s a0 a1 b3 b9 a6 b1⟩
 case round=>
  rintro c k m E a b2 ⟨a9,d7⟩ a7 a4;have a8:=a7.low (B:=w.heap.size) (by simp;omega);have H:=a8.own x a9;have r:=a7.own (oX.own (by simp)) (s:=0) d7;refine⟨g,_,d,e,run_yield (P:=v) (args:=m) r.l (d9 k m _ a a4),roundIn_of_wpIn d1 (c6 _ c k m E a _ b2 a9 a8 H a4 ?_)⟩;intro q b6 b0 d5 d4 c7;have I:=r.keep (zo _) b0;refine⟨_,run_beginRound I.l rfl,?_⟩;have P:=I.put (lV g b.tmps f d e w.heap.size .busy zx);have d3:=x.putObj (.loop (lV g b.tmps f d e w.heap.size .busy zx)) d4 (zr _) I.l rfl;have c5:=(c2 c k q).putObj (s:=()) (.loop (lV g b.tmps f d e w.heap.size .busy zx)) c7 (zr _) I.l rfl;have N:oV S (w.heap.size+1+1) a _:=oV.trans ⟨d5,nB b0 (by omega)⟩ (oV.put b6 _ _ (.loop (lV g b.tmps f d e w.heap.size .busy zx)) I.l rfl (zn _));refine wpIn_mono (c8 _ c k q _ (zr _) b2 d3 c5) ?_;rintro a2 e7 e6 z;cases a2 with
  |normal=>
   obtain⟨o,d6,y⟩:=z;have j:=P.keep (zo _) o;have d8:=j.put (lV g b.tmps f d e w.heap.size .ready zx);exact⟨_,_,run_endRound zx j.l,.inl ⟨rfl,⟨x.putObj _ y (zr _) j.l rfl,d8⟩,by rw[Q];exact(N.trans ⟨d6,nB o (by omega)⟩).trans (oV.put _ _ _ _ j.l rfl (zn _))⟩⟩
  |ret=>
   obtain⟨o,y⟩:=z;have j:=P.keep (zo _) o;exact⟨_,_,run_endRound (U .ret) j.l,.inr ⟨rfl,⟨.ret,(G _).putObj _ y (zr _) j.l rfl,j.put (lV g b.tmps f d e w.heap.size .done (U .ret))⟩,by rw[Q];exact(oW (oW N.2 (nB o (by omega))) (oV.put (S:=S) _ _ _ _ j.l rfl (zn _)).2)⟩⟩
  |exit i=>
   obtain⟨o,y⟩:=z;have j:=P.keep (zo _) o;exact⟨_,_,run_endRound (U (.exit i)) j.l,.inr ⟨rfl,⟨.exit i,(G _).putObj _ y (zr _) j.l rfl,j.put (lV g b.tmps f d e w.heap.size .done (U (.exit i)))⟩,by rw[Q];exact(oW (oW N.2 (nB o (by omega))) (oV.put (S:=S) _ _ _ _ j.l rfl (zn _)).2)⟩⟩
  |goto t=>
   obtain⟨o,y⟩:=z;have j:=P.keep (zo _) o;exact⟨_,_,run_endRound (U (.goto t)) j.l,.inr ⟨rfl,⟨.goto t,(G _).putObj _ y (zr _) j.l rfl,j.put (lV g b.tmps f d e w.heap.size .done (U (.goto t)))⟩,by rw[Q];exact(oW (oW N.2 (nB o (by omega))) (oV.put (S:=S) _ _ _ _ j.l rfl (zn _)).2)⟩⟩
  |panic ch=>exact z.elim
  |outgrown=>exact z.elim
 case behind=>
  rintro a2 e5 ⟨⟨b4,rfl⟩,(⟨H,r⟩|⟨c,l,H,r⟩)⟩
  .exact⟨zx,_,run_endLoop r.l (by simp[lV]),c9 _ (x.putObj _ H (zr _) r.l rfl) ((zv (by omega)).trans r.k)⟩
  exact⟨U l,_,run_endLoop r.l (by simp[lV]),e2 l c _ ((G l).putObj _ H (zr _) r.l rfl) ((zv (by omega)).trans r.k)⟩
theorem aPy{m:Type}{g:Fence}{l:Nat}{k:Program}{D:Operand}{w:Array Tmp}{y z:Code}{r:Exit->Act->Z->Prop}{i:Act}{b:Z}
  (a2:g.round=zx) (H:1<=l) {gf:Nat}{lb:Array zq} (X:i.eval D=.func (.func gf) #[] lb) (I:g.fn gf) (E:∀d b,(callFunc gf d).run k b=.ok (.enter gf d) b)
  {Enc:m->Array zq->Nat->Z->Prop}{S:List TypeId}{L:List m}
  (a3:∀a6 a7,xF g (l-1) k gf lb Enc S L ((b.alloc a6).alloc a7))
  (a1:∀c d q a,Enc c d q a->d.size=w.size)
  (j:Nat->Z->Prop) (n:Code->Nat->Z->Prop) (J:OwnFrom b.heap.size j) (M:∀o,OwnFrom b.heap.size (n o)) (G:j 0 b)
  (A:m->Act)
  (P:∀(f:Nat) (c:m) (d:Array zq) (q:Nat) (a:Z) (K:Act->Z->Prop),Enc c d q a->K (A c) a->
   y.wpIn (g.inRound f) (l-1-1) k (Exit.then K (λ_ _ _=>False)) {tmps:=(w.zip d).foldl (λt (p,v)=>t.setIfInBounds p v) i.tmps,defers:=[]} a)
  (Q:∀(f e:Nat) (c:m) (a:Z),b.heap.size<=f->L[e]?=U c->j e a->
   z.wpIn (g.inRound f) (l-1-1) k (aEl b.heap.size S j n e a) (A c) a)
  (T:∀(a:Z),j (zw L) a->a.heap[b.heap.size]?=U (.deferred (U []))->r .normal {i with defers:={target:=.collected b.heap.size,args:=#[]}::i.defers} a)
  (a4:∀(o:Code) (e:Nat) (a:Z),n o e a->a.heap[b.heap.size]?=U (.deferred (U []))->o.wpIn g l k r {i with defers:={target:=.collected b.heap.size,args:=#[]}::i.defers} a):(Code.rangeFunc D w y z).wpIn g l k r i b:=
 aBo a2 H X I E a3 a1 j n J M G (λ_ c x _=>x=A c) (λ_ _ _ _ _ _ _ F _ _=>F)
  (λf e c d a8 a K _ _ _ u W hK=>P f c d _ a K W (hK _ _ (KeepsFrom.refl _ _) (dH.refl _ _) u rfl))
  (λf e c x a a0 a5 u N=>by subst N;exact Q f e c a a0 a5 u) T a4
section
inductive aU{α β:Type}(R:α->β->Prop):List α->List β->Prop
 |nil:aU R [] []
 |cons {a b l m}:R a b->aU R l m->aU R (a::l) (b::m)
namespace aU
variable {α β:Type}{R S:α->β->Prop}
theorem length{l:List α}{m:List β}(a:aU R l m):zw l=zw m:=by
 induction a with
 |nil=>rfl
 |cons _ _ ih=>simp[ih]
theorem append{a b:List α}{c d:List β}(e:aU R a c)(f:aU R b d):aU R (a++b) (c++d):=by
 induction e with
 |nil=>exact f
 |cons h1 _ ih=>exact aU.cons h1 ih
theorem mono{c:List α}{m:List β}(d:aU R c m)(f:∀a b,R a b->S a b):aU S c m:=by
 induction d with
 |nil=>exact aU.nil
 |cons h1 _ ih=>exact aU.cons (f _ _ h1) ih
theorem snoc{c:List α}{d:List β}{a:α}{b:β}(e:aU R c d)(f:R a b):aU R (c++[a]) (d++[b]):=e.append (aU.cons f aU.nil)
theorem refl{R:α->α->Prop}(c:∀a,R a a):∀b:List α,aU R b b
 |[]=>aU.nil
 |a::b=>aU.cons (c a) (refl c b)
theorem of_get{d:List α}{a:List β}(f:zw d=zw a)(g:∀(e:Nat) (b:α) (c:β),d[e]?=U b->a[e]?=U c->R b c):aU R d a:=by
 induction d generalizing a with
 |nil=>cases a with
  |nil=>exact aU.nil
  |cons=>simp at f
 |cons b d ih=>cases a with
  |nil=>simp at f
  |cons c a=>exact aU.cons (g 0 b c rfl rfl) (ih (by simpa using f) λe b c i j=>g (e+1) b c (by simpa using i) (by simpa using j))
theorem rev{a:List α}{b:List β}(c:aU R a b):aU R a.reverse b.reverse:=by
 induction c with
 |nil=>exact aU.nil
 |cons h1 _ ih=>rw[zd,zd];exact ih.snoc h1
end aU
def lW(V:Int->Int->Prop):Prop:=∀a c b d,V a c->V b d->(a=b↔c=d)
def gK(V:Int->Int->Prop)(a b:Nd):Prop:=(aK a=zu/\aK b=zu/\a.1=b.1/\V a.2 b.2)\/(aK a=zm/\a=b)
theorem bDq(e:lW V){s a:List Int}(d:aU V s a){b c:Int}(f:V b c):wD s b=wD a c:=by
 induction d with
 |nil=>rfl
 |cons h1 h2 ih=>
  simp only[wD];have g:=e _ _ _ _ h1 f;grind[aU.length]
theorem bDr(e:lW V){s a:List Int}(d:aU V s a){b c:Int}(f:V b c):gW s b=gW a c:=bDq e d.rev f
theorem bDs(m:lW V){a b:List Nd×List Int}(k:a.1=b.1)(l:aU V a.2 b.2){d c:Nd}(f:gK V d c):(fH a d).1=(fH b c).1/\aU V (fH a d).2 (fH b c).2:=by rcases f with⟨e,g,i,j⟩|⟨e,rfl⟩;all_goals grind[aU.length,aU.snoc,gW,bDr,fH]
theorem bDt(k:lW V){a b:List Nd}(f:aU (gK V) a b){s e:List Int}(j:aU V s e):(eF a s).1=(eF b e).1/\aU V (eF a s).2 (eF b e).2:=by
 unfold eF;suffices ∀(c d:List Nd×List Int),c.1=d.1->aU V c.2 d.2->(a.foldl fH c).1=(b.foldl fH d).1/\aU V (a.foldl fH c).2 (b.foldl fH d).2 from this _ _ rfl j
 induction f with
 |nil=>intro c d g i;exact⟨g,i⟩
 |cons hc _ ih=>
  grind[bDs]
structure Gr where
 lab:Nat->Nd
 ch:Nat->List Nat
def Gr.named(G:Gr)(i:Nat):Prop:=aK (G.lab i)=zm
inductive Cl(G:Gr)(B:Nat->Nat->Prop):Nat->Nat->Prop
 |refl (i):Cl G B i i
 |base {i j}:B i j->Cl G B i j
 |symm {i j}:Cl G B i j->Cl G B j i
 |trans {i j k}:Cl G B i j->Cl G B j k->Cl G B i k
 |down {i j k p q:Nat}:Cl G B i j->G.named i->G.named j->(G.ch i)[k]?=some p->(G.ch j)[k]?=some q->Cl G B p q
structure gL(G:Gr)(R:Nat->Nat->Prop):Prop where
 refl:∀i,R i i
 symm:∀i j,R i j->R j i
 trans:∀i j k,R i j->R j k->R i k
 down:∀i j k p q:Nat,R i j->G.named i->G.named j->(G.ch i)[k]?=U p->(G.ch j)[k]?=U q->R p q
theorem Cl.isDown(a:Gr)(B:Nat->Nat->Prop):gL a (Cl a B):=⟨Cl.refl,λ_ _=>Cl.symm,λ_ _ _=>Cl.trans,λ_ _ _ _ _=>Cl.down⟩
theorem Cl.le{j:Gr}{B:Nat->Nat->Prop}(g:gL j R)(k:∀e f,B e f->R e f){e f:Nat}(i:Cl j B e f):R e f:=by
 induction i with
 |refl e=>exact g.refl e
 |base i=>exact k _ _ i
 |symm _ ih=>exact g.symm _ _ ih
 |trans _ _ h1 h2=>exact g.trans _ _ _ h1 h2
 |down _ a b c d ih=>exact g.down _ _ _ _ _ ih a b c d
def fU(a:Gr)(R:Nat->Nat->Prop):Prop:=∀b c,R b c->a.named b->a.named c->a.lab b=a.lab c
inductive bZ(G:Gr)(R:Nat->Nat->Prop):Nat->Prop
 |mk (i):(∀j,R i j->G.named j->∀p∈G.ch j,bZ G R p)->bZ G R i
theorem bZ.parts{a:Gr}{c:Nat}(b:bZ a R c){j p:Nat}(d:R c j)(e:a.named j)(f:p∈a.ch j):bZ a R p:=by cases b with|mk _ b=>exact b j d e p f
theorem bZ.same{G:Gr}(b:gL G R){i j:Nat}(a:bZ G R i)(c:R i j):bZ G R j:=⟨_,λ_ d e _ f=>a.parts (b.trans _ _ _ c d) e f⟩
inductive aX(G:Gr)(R:Nat->Nat->Prop)(rep:Nat->Nat):List Nat->List Nd->Prop
 |nil:aX G R rep [] []
 |var {i r l}:(∀j,R i j->¬G.named j)->aX G R rep r l->aX G R rep (i::r) ((⟨#[]⟩,(rep i:Int))::l)
 |name {i j r l}:R i j->G.named j->aX G R rep (G.ch j++r) l->aX G R rep (i::r) (G.lab j::l)
section
variable {G:Gr}{R:Nat->Nat->Prop}{rep:Nat->Nat}
theorem aX.append{c s:List Nat}{a b:List Nd}(d:aX G R rep c a)(e:aX G R rep s b):aX G R rep (c++s) (a++b):=by
 induction d with
 |nil=>exact e
 |var h1 _ ih=>exact aX.var h1 ih
 |name h1 h2 _ ih=>exact aX.name h1 h2 (by rw[zc]at ih;exact ih)
theorem aX.split{x:List Nat}{c:List Nd}(f:aX G R rep x c):∀r s,x=r++s->∃b l2,c=b++l2/\aX G R rep r b/\aX G R rep s l2:=by
 induction f with
 |nil=>
  intro r s a;obtain⟨rfl,rfl⟩:=List.append_eq_nil_iff.1 a.symm;exact⟨[],[],rfl,aX.nil,aX.nil⟩
 |@var i r0 c h1 h2 ih=>
  intro r s a;cases r with
  |nil=>
   simp at a;subst a;exact⟨[],_,rfl,aX.nil,aX.var h1 h2⟩
  |cons y r=>
   simp at a;obtain⟨rfl,a⟩:=a;obtain⟨b,l2,rfl,d,e⟩:=ih r s a;exact⟨_::b,l2,rfl,aX.var h1 d,e⟩
 |@name i j r0 c h1 h2 h3 ih=>
  intro r s a;cases r with
  |nil=>
   simp at a;subst a;exact⟨[],_,rfl,aX.nil,aX.name h1 h2 h3⟩
  |cons y r=>
   simp at a;obtain⟨rfl,a⟩:=a;obtain⟨b,l2,rfl,d,e⟩:=ih (G.ch j++r) s (by rw[a,zc]);exact⟨_::b,l2,rfl,aX.name h1 h2 d,e⟩
theorem aX.same(d:gL G R)(l:∀i j,R i j->rep i=rep j){f:List Nat}{e:List Nd}(g:aX G R rep f e):∀c,aU R f c->aX G R rep c e:=by
 induction g with
 |nil=>intro c a;cases a;exact aX.nil
 |@var i r e h1 _ ih=>
  intro c a;cases a with
  |@cons _ b _ m hb hm=>
   rw[l _ _ hb];exact aX.var (λj k=>h1 j (d.trans _ _ _ hb k)) (ih _ hm)
 |@name i j r e h1 h2 _ ih=>
  intro c a;cases a with
  |@cons _ b _ m hb hm=>
   exact aX.name (d.trans _ _ _ (d.symm _ _ hb) h1) h2 (ih _ ((aU.refl d.refl _).append hm))
def Gr.Arity(G:Gr):Prop:=∀a b,G.named a->G.named b->G.lab a=G.lab b->zw (G.ch a)=zw (G.ch b)
theorem aA8(m:gL G R)(l:fU G R)(k:G.Arity){a b:Nat}(e:R a b)(c:G.named a)(d:G.named b):aU R (G.ch a) (G.ch b):=
 aU.of_get (k a b c d (l a b e c d)) λn f g i j=>m.down a b n f g e c d i j
theorem aX.one(a:gL G R)(f:fU G R)(l:G.Arity)(m:∀d j,R d j->rep d=rep j){i:List Nat}{e:List Nd}(k:aX G R rep i e):∀c,aX G R rep i c->e=c:=by
 induction k with
 |nil=>intro c b;cases b;rfl
 |@var d r e h1 _ ih=>
  intro c b;cases b with
  |var _ h2=>rw[ih _ h2]
  |name h2 h3 _=>exact absurd h3 (h1 _ h2)
 |@name d j r e h1 h2 _ ih=>
  intro c b;cases b with
  |var h3 _=>exact absurd h2 (h3 _ h1)
  |@name _ j' _ m' h3 h4 h5=>
   have g:R j' j:=a.trans _ _ _ (a.symm _ _ h3) h1;rw[f j' j g h4 h2,ih _ (h5.same a m _ ((aA8 a f l g h4 h2).append (aU.refl a.refl _)))]
theorem aX.exists_of_all{c:List Nat}(d:∀b∈c,∃a,aX G R rep [b] a):∃a,aX G R rep c a:=by
 induction c with
 |nil=>exact⟨[],aX.nil⟩
 |cons b r ih=>
  obtain⟨a,f⟩:=d b (by simp);obtain⟨j,g⟩:=ih λi e=>d i (by simp[e])
  exact⟨a++j,f.append g⟩
theorem bZ.exp{i:Nat}(e:bZ G R i):∃d,aX G R rep [i] d:=by
 induction e with
 |mk i _ ih=>
  by_cases c:∃j,R i j/\G.named j
  .obtain⟨j,a,b⟩:=c;obtain⟨d,f⟩:=aX.exists_of_all (G:=G) (R:=R) (rep:=rep) λk g=>ih j a b k g
   exact⟨_,aX.name a b (by rw[List.append_nil];exact f)⟩
  exact⟨_,aX.var (λj a b=>c ⟨j,a,b⟩) aX.nil⟩
theorem aX.pos{c:Nat}{a:List Nd}(b:aX G R rep [c] a):1<=zw a:=by
 cases b with
 |var=>simp
 |name=>simp
end
theorem oF(b:Int):aK (⟨#[]⟩,b)=true:=by
 have a:(⟨#[]⟩:ByteArray).toList=[]:=by rw[ByteArray.toList_eq]
 simp[aK,a]
structure Laid(P D:Gr)(BP BD:Nat->Nat->Prop)(f:Nat->Nat):Prop where
 named:∀p,P.named p↔D.named (f p)
 lab:∀p,P.named p->P.lab p=D.lab (f p)
 ch:∀p,P.named p->D.ch (f p)=(P.ch p).map f
 ker:∀p q,f p=f q->Cl P BP p q
 base:∀p q,BP p q->Cl D BD (f p) (f q)
 back:∀r s,BD r s->∃p q,f p=r/\f q=s/\Cl P BP p q
 onto:∀r,D.named r->∃p,f p=r
section
variable {P D:Gr}{BP BD:Nat->Nat->Prop}{f:Nat->Nat}
theorem Laid.to(a:Laid P D BP BD f){b c:Nat}(d:Cl P BP b c):Cl D BD (f b) (f c):=by refine Cl.le (R:=λb c=>Cl D BD (f b) (f c)) ⟨λ_=>Cl.refl _,λ_ _=>Cl.symm,λ_ _ _=>Cl.trans,?_⟩ (λi j l=>a.base i j l) d;intro i j k b c d e g m n;exact Cl.down (k:=k) d ((a.named i).1 e) ((a.named j).1 g) (by rw[a.ch i e];simp[m]) (by rw[a.ch j g];simp[n])
theorem Laid.from(d:Laid P D BP BD f){p n:Nat}(c:Cl D BD (f p) (f n)):Cl P BP p n:=by
 have E:f p=f n\/∃k l,f k=f p/\f l=f n/\Cl P BP k l:=by
  refine Cl.le (R:=λr s=>r=s\/∃k l,f k=r/\f l=s/\Cl P BP k l) ⟨λ_=>zg rfl,?_,?_,?_⟩ ?_ c
  .rintro i j (rfl|⟨a,b,rfl,rfl,h1⟩)
   .exact zg rfl
   exact zi ⟨b,a,rfl,rfl,h1.symm⟩
  .rintro i j z (rfl|⟨a,b,rfl,rfl,h1⟩) (rfl|⟨a',b',h2,rfl,h3⟩)
   .exact zg rfl
   .exact zi ⟨a',b',h2,rfl,h3⟩
   .exact zi ⟨a,b,rfl,rfl,h1⟩
   exact zi ⟨a,b',rfl,rfl,h1.trans ((d.ker _ _ h2.symm).trans h3)⟩
  .rintro i j z x y (rfl|⟨a,b,rfl,rfl,h1⟩) v w g e
   .rw[g]at e;exact zg (by simpa using e)
   have o:=(d.named a).2 v;have m:=(d.named b).2 w;rw[d.ch a o,zb]at g;rw[d.ch b m,zb]at e;simp at g e;obtain⟨F,g,rfl⟩:=g;obtain⟨G,e,rfl⟩:=e;exact zi ⟨F,G,rfl,rfl,Cl.down h1 o m g e⟩
  intro i j m;exact zi (d.back i j m)
 rcases E with q|⟨k,l,t,u,c⟩
 .exact d.ker _ _ q
 exact(d.ker _ _ t.symm).trans (c.trans (d.ker _ _ u))
theorem Laid.clash(a:Laid P D BP BD f):fU P (Cl P BP)↔fU D (Cl D BD):=by
 constructor
 .intro i l s g j k;obtain⟨b,rfl⟩:=a.onto l j;obtain⟨c,rfl⟩:=a.onto s k;have d:=(a.named b).2 j;have e:=(a.named c).2 k;rw[<-a.lab b d,<-a.lab c e];exact i b c (a.from g) d e
 intro i b c g d e;rw[a.lab b d,a.lab c e];exact i _ _ (a.to g) ((a.named b).1 d) ((a.named c).1 e)
theorem Laid.ends_to(a:Laid P D BP BD f){c:Nat}(e:bZ P (Cl P BP) c):bZ D (Cl D BD) (f c):=by
 induction e with
 |mk i _ ih=>
  refine⟨_,λk l b m j=>?_⟩;obtain⟨d,rfl⟩:=a.onto k b;have g:=(a.named d).2 b;rw[a.ch d g]at j;grind[Laid.from]
theorem Laid.ends_from(a:Laid P D BP BD f){e:Nat}(j:bZ D (Cl D BD) e):∀b,f b=e->bZ P (Cl P BP) b:=by
 induction j with
 |mk i _ ih=>
  rintro b rfl;refine⟨_,λc k d g l=>?_⟩;exact ih (f c) (a.to k) ((a.named c).1 d) (f g) (by rw[a.ch c d];exact List.mem_map_of_mem l) g rfl
theorem Laid.exp(a:Laid P D BP BD f){m rd:Nat->Nat}{n:List Nat}{d:List Nd}(o:aX P (Cl P BP) m n d):∃e,aX D (Cl D BD) rd (n.map f) e/\aU (gK λb c=>∃k,b=(m k:Int)/\c=(rd (f k):Int)) d e:=by
 induction o with
 |nil=>exact⟨[],aX.nil,aU.nil⟩
 |@var i r d h1 _ ih=>
  obtain⟨e,b,c⟩:=ih;refine⟨_,aX.var (i:=f i) (λj p g=>?_) b,aU.cons (zg ⟨oF _,oF _,rfl,i,rfl,rfl⟩) c⟩;obtain⟨l,rfl⟩:=a.onto j g;exact h1 l (a.from p) ((a.named l).2 g)
 |@name i j r d h1 h2 _ ih=>
  obtain⟨e,b,c⟩:=ih;refine⟨_,aX.name (i:=f i) (j:=f j) (a.to h1) ((a.named j).1 h2) (by rw[a.ch j h2,<-List.map_append];exact b),aU.cons (zi ⟨h2,a.lab j h2⟩) c⟩
theorem Laid.pairs(i:Laid P D BP BD f){d c:Nat->Nat}(k:∀a b,d a=d b↔Cl P BP a b)(j:∀a b,c a=c b↔Cl D BD a b):lW λe g=>∃a,e=(d a:Int)/\g=(c (f a):Int):=by rintro l n m o ⟨a,rfl,rfl⟩ ⟨b,rfl,rfl⟩;grind[Laid.from,Laid.to]
end
end
