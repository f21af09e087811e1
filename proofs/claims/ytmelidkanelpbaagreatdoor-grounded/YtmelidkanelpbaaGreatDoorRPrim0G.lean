import Derived.Laws.BytesArg
import Derived.Test.YtmelidkanelpbaaGreatDoorText0G
import Derived.Shelf.Strings.Runes
import Derived.Shelf.Strings.Prefix
import Derived.Test.YtmelidkanelpbaaGreatDoorProg
import Derived.Lib.OthersKept
import Derived.Laws.Runes
import Derived.Shelf.Small.Utf8
import Derived.Shelf.Small.Strs
import Derived.Deep.RegionWith
import Derived.WalkMore
import Derived.OwnWalk
import Derived.Lib.IndexBytes
open Array renaming getElem?_eq_some_iff→zp,getElem?_modify→zm
open List renaming length_append→zv,length_singleton→zs,length_cons→zj
open Nat renaming le_refl→zy
namespace Go.Proofs.YtmelidkanelpbaaGreatDoor
open Calls renaming quiet_of_same→zq
open Exit renaming inBlock→zk,noGoto→ze
open _root_.Go.Proofs.Tryz renaming prog→zx,underlying59→zw,func108→zt,ntmps108→zr,underlying3→zi,underlying4→zh,underlying9→zg
open Utf8 renaming decode→zz
open Value renaming ownBlock→zo
open World renaming cell?→zu,iterPos→zn,setCell→zl,iter_heap→zd
set_option maxHeartbeats 3000000
set_option maxRecDepth 100000
variable{k p:Nat}{v:Value}{w:World}
section
open Go.RowKit
def eK(a:Int):Bool:=decide (97<=a) && decide (a<=122)
def dO(a:Int):Bool:=decide (65<=a) && decide (a<=90)
def tE(a:Int):Bool:=decide (48<=a) && decide (a<=57)
def fD(c:Int):Bool:=eK c || dO c || tE c || c==95
def qQ(a:ByteArray):Nat->Nat->Nat
 |0,p=>p
 |f+1,p=>if p<a.size/\fD (aE a p)=true then qQ a f (p+1) else p
def eB(a:ByteArray)(p:Nat):Nat:=qQ a (a.size-p) p
theorem yO{a:ByteArray}(c:p<a.size)(e:fD (aE a p)=true):eB a p=eB a (p+1):=by unfold eB;obtain ⟨b,d⟩ : ∃b,a.size-p=b+1:=⟨a.size-p-1,by omega⟩;rw [d,show a.size-(p+1)=b by omega];simp only [qQ];rw [aI ⟨c,e⟩]
theorem aKy{a:ByteArray}(b:¬(p<a.size/\fD (aE a p)=true)):eB a p=p:=by
 unfold eB;cases hf:a.size-p with
 |zero=>rfl
 |succ f=>simp only [qQ];rw [aH b]
theorem aE2(c:ByteArray):∀a p,p<=qQ c a p/\(p<=c.size->qQ c a p<=c.size):=by
 intro a;induction a with
 |zero=>intro p;exact ⟨zy _,λb=>b⟩
 |succ a ih=>
  intro p;simp only [qQ];split
  ·rename_i b;have:=ih (p+1);exact ⟨by omega,λ_=>this.2 (by omega)⟩
  ·exact ⟨zy _,λb=>b⟩
theorem aKz(a:ByteArray)(p:Nat):p<=eB a p:=(aE2 a _ p).1
theorem aL0{a:ByteArray}(b:p<=a.size):eB a p<=a.size:=(aE2 a _ p).2 b
def fE(a:ByteArray):Nat->ByteArray->Nat->Option (ByteArray×Nat)
 |0,_,_=>none
 |f+1,name,p=>
  if p<a.size then
   if aE a p=39 then (if eS name then some (name,p+1) else none)
   else
    if aE a p=92 then
     (if p+1<a.size/\(aE a (p+1)=39\/aE a (p+1)=92) then fE a f (name++a.extract (p+1) (p+2)) (p+2) else none)
    else if bO a p=0\/aE a p=10 then none else fE a f (name++a.extract p (p+bO a p)) (p+bO a p)
  else none
def oR(a:ByteArray)(p:Nat):Option (ByteArray×Nat):=fE a a.size ⟨#[]⟩ (p+1)
def uN(a:ByteArray):Nat->Nat->Nat
 |0,p=>p
 |f+1,p=>if p<a.size/\aE a p≠10 then uN a f (p+1) else p
def iB(a:ByteArray)(p:Nat):Nat:=uN a (a.size-p) p
theorem aE3{a:ByteArray}(c:p<a.size)(e:aE a p≠10):iB a p=iB a (p+1):=by unfold iB;obtain ⟨b,d⟩ : ∃b,a.size-p=b+1:=⟨a.size-p-1,by omega⟩;rw [d,show a.size-(p+1)=b by omega];simp only [uN];rw [aI ⟨c,e⟩]
theorem aL1{a:ByteArray}(b:¬(p<a.size/\aE a p≠10)):iB a p=p:=by
 unfold iB;cases hf:a.size-p with
 |zero=>rfl
 |succ f=>simp only [uN];rw [aH b]
theorem aL2(c:ByteArray):∀a p,p<=uN c a p/\(p<=c.size->uN c a p<=c.size):=by
 intro a;induction a with
 |zero=>intro p;exact ⟨zy _,λb=>b⟩
 |succ a ih=>
  intro p;simp only [uN];split
  ·rename_i b;have:=ih (p+1);exact ⟨by omega,λ_=>this.2 (by omega)⟩
  ·exact ⟨zy _,λb=>b⟩
structure Tk where
 kind:Nat
 txt:ByteArray
 pos:Nat
inductive Nx where
 |tok (t:Tk) (next:Nat)
 |bad (p:Nat)
 |stop (p:Nat)
def mQ(a:Nat):Bool:=decide (a=124) || decide (a=126) || decide (a=40) || decide (a=41) || decide (a=44) || decide (a=46)
def dQ(a:ByteArray)(p:Nat):Nx:=
 if eK (aE a p) || dO (aE a p) then
  (if eB a p-p > 20 then .bad p else .tok ⟨if dO (aE a p) then 118 else 110,a.extract p (eB a p),p⟩ (eB a p))
 else if aE a p=39 then (match oR a p with|some (n,e)=>.tok ⟨110,n,p⟩ e|none=>.bad p)
 else if aE a p=36 then (if p+6<=a.size/\a.extract p (p+6)=⟨#[36,102,97,108,115,101]⟩ then .tok ⟨102,⟨#[]⟩,p⟩ (p+6) else .bad p)
 else if mQ (aE a p) then .tok ⟨aE a p,⟨#[]⟩,p⟩ (p+1)
 else .bad p
def lI(c:Nat):Bool:=decide (c=32) || decide (c=9) || decide (c=10)
def rQ(s:ByteArray):Nat->Nat->Nx
 |0,p=>.stop p
 |f+1,p=>
  if p<s.size then
   if lI (aE s p) then rQ s f (p+1)
   else if aE s p=37 then rQ s f (iB s p)
   else dQ s p
  else .stop p
def cD(s:ByteArray):Nat->Nat->List Tk×Option Nat
 |0,p=>([],some p)
 |f+1,p=>
  if p<s.size then
   if lI (aE s p) then cD s f (p+1)
   else if aE s p=37 then cD s f (iB s p)
   else match dQ s p with
    | .tok t e=>(t::(cD s f e).1,(cD s f e).2)
    |_=>([],some p)
  else ([⟨101,⟨#[]⟩,p⟩],none)
abbrev Gl:=Int×Nat
def lW(a:ByteArray)(p:Nat):Int:=if (zz a p).1=65533/\(zz a p).2=1 then -2 else ((zz a p).1:Int)
theorem wN(a:ByteArray)(p:Nat):1<=(zz a p).2/\(zz a p).2<=4:=by
 rw [Lib.decode_N];unfold Lib.decodeN;repeat' split
 all_goals simp
theorem aL3(a:ByteArray)(p:Nat)(b:p<a.size):p+(zz a p).2<=a.size:=by
 rw [Lib.decode_N,<-mW];unfold Lib.decodeN;repeat' split
 all_goals (simp only;omega)
def uO(a:ByteArray):Nat->Nat->List Gl
 |0,_=>[(-1,a.size)]
 |f+1,p=>if p<a.size then (lW a p,p)::uO a f (p+(zz a p).2) else [(-1,a.size)]
theorem aW2(b:ByteArray):∀a p,b.size-p<=a->uO b a p=uO b (b.size-p) p:=by
 intro a;induction a using Nat.strongRecOn with
 |_ a ih=>
  intro p i;by_cases e:p<b.size
  ·obtain ⟨c,rfl⟩ : ∃c,a=c+1:=⟨a-1,by omega⟩;obtain ⟨d,g⟩ : ∃d,b.size-p=d+1:=⟨b.size-p-1,by omega⟩;rw [g];simp only [uO];rw [aI e,aI e];have j:=(wN b p).1;rw [ih c (by omega) _ (by omega)];by_cases l:d<c+1
   ·rw [ih d (by omega) _ (by omega)]
   ·omega
  ·have f:b.size-p=0:=by omega
   rw [f];cases a with
   |zero=>rfl
   |succ a=>simp only [uO];rw [aH e]
def bY(a:ByteArray)(p:Nat):List Gl:=uO a (a.size-p) p
theorem tF{a:ByteArray}(c:p<a.size):bY a p=(lW a p,p)::bY a (p+(zz a p).2):=by unfold bY;obtain ⟨b,d⟩ : ∃b,a.size-p=b+1:=⟨a.size-p-1,by omega⟩;rw [d];simp only [uO];rw [aI c,aW2 a b _ (by have:=(wN a p).1;omega)]
theorem aE4{a:ByteArray}(b:¬p<a.size):bY a p=[(-1,a.size)]:=by unfold bY;rw [show a.size-p=0 by omega];rfl
theorem aAu(b:ByteArray):∀a p,b.size-p<=a->1<=(bY b p).length/\(bY b p).length<=a+1:=by
 intro a;induction a using Nat.strongRecOn with
 |_ a ih=>
  intro p d;by_cases c:p<b.size
  ·rw [tF c];have e:=(wN b p).1;have:=ih (a-1) (by omega) (p+(zz b p).2) (by omega);simp only [zj];omega
  ·rw [aE4 c];simp
theorem aW3(a:List UInt8)(p:Nat)(b c d:UInt8) : [b,c,d].isPrefixOf (a.drop p)=true↔a[p]?=some b/\a[p+1]?=some c/\a[p+2]?=some d:=by
 have e:(a.drop p)[0]?=a[p]?:=by simp
 have f:(a.drop p)[1]?=a[p+1]?:=by simp
 have g:(a.drop p)[2]?=a[p+2]?:=by simp
 rw [<-e,<-f,<-g];generalize a.drop p=m;match m with
 |[]=>simp
 |[x]=>simp
 |[x,y]=>simp
 |x::y::z::r=>simp;constructor<;>(rintro ⟨rfl,rfl,rfl⟩;exact ⟨rfl,rfl,rfl⟩)
theorem aW4(a:ByteArray)(p:Nat)(b:(zz a p).1=65533):Lib.hasPrefix (a.data.toList.drop p) [239,191,189] = !decide ((zz a p).2=1):=by
 have e:=aW3 a.data.toList p 239 191 189;have m:(a.data.toList[p]?=some 239/\a.data.toList[p+1]?=some 191/\a.data.toList[p+2]?=some 189)↔aE a p=239/\aE a (p+1)=191/\aE a (p+2)=189:=by
  have f:∀c (v:UInt8),v.toNat≠0->(a.data.toList[c]?=some v↔aE a c=v.toNat):=by
   intro c v l;rw [lZ];cases hq:a.data.toList[c]? with
   |none=>
    simp only [List.getD,hq,Option.getD_none];constructor
    ·intro b;cases b
    ·intro b;exact absurd b.symm l
   |some x=>
    simp only [List.getD,hq,Option.getD_some,Option.some.injEq];exact ⟨λb=>by rw [b],λb=>UInt8.toNat_inj.1 b⟩
  rw [f p 239 (by decide),f (p+1) 191 (by decide),f (p+2) 189 (by decide)];exact Iff.rfl
 rw [m] at e;unfold Lib.hasPrefix;have g:=Lib.decode_N a p;rw [<-lZ,<-lZ,<-lZ,<-lZ,<-mW] at g;have n:=tJ a p;have o:=tJ a (p+1);have q:=tJ a (p+2);have j:aE a (p+2)≠0->2<a.size-p:=by
  intro d;by_cases i:p+2<a.size
  ·omega
  ·unfold aE at d;rw [dif_neg i] at d;exact absurd rfl d
 generalize aE a p=x0 at *;generalize aE a (p+1)=x1 at *;generalize aE a (p+2)=x2 at *;generalize aE a (p+3)=x3 at *;rw [g] at b ⊢;unfold Lib.decodeN at b ⊢;cases hx:List.isPrefixOf [239,191,189] (a.data.toList.drop p)
 ·have r:¬(x0=239/\x1=191/\x2=189):=λb=>by rw [e.2 b] at hx;cases hx
  revert b;repeat' split
  all_goals first|(intro b;simp only at b;exfalso;omega)|(intro b;rfl)
 ·obtain ⟨rfl,rfl,rfl⟩:=e.1 hx;have:=j (by decide);revert b;repeat' split
  all_goals first|(intro b;rfl)|(intro b;exfalso;omega)
def nZ(b:List Gl):List Value:=b.flatMap λa=>[.int .i32 a.1,.int .i64 a.2]
theorem aL4(b:List Gl)(a:Gl):nZ (b++[a])=nZ b++[.int .i32 a.1,.int .i64 a.2]:=by simp [nZ]
theorem aE5(a:List Gl):∀k (b:k<a.length),(nZ a)[k*2]?=some (.int .i32 a[k].1)/\(nZ a)[k*2+1]?=some (.int .i64 a[k].2):=by
 induction a with
 |nil=>intro k b;simp at b
 |cons x r ih=>
  intro k b;cases k with
  |zero=>exact ⟨rfl,rfl⟩
  |succ k=>
   have:=ih k (by simpa using b);rw [show nZ (x::r)=.int .i32 x.1::.int .i64 x.2::nZ r from rfl,show (k+1)*2=k*2+1+1 by omega,show k*2+1+1+1=k*2+1+1+1 from rfl];simpa using this
theorem aW5:(zx.info? 120).map (λa=>(a.zero,a.size,a.bytes))=some (some (.agg #[.int .i32 0,.int .i64 0]),2,16):=by kernel_rfl
end
section
open Go.Shelf Go.Proofs
def aL5:Go.Shelf.Ren:=⟨fun|99=>56|119=>124|137=>123|151=>90|152=>108|206=>85|217=>140|224=>125|225=>126|266=>145|n=>n,fun|0=>0|3=>3|4=>4|5=>5|9=>9|21=>21|46=>172|n=>n,fun|n=>n⟩
theorem aW6:Lays.n99 zx aL5:={
 mixed:=by kernel_rfl
 f99:=Tryz.func56.trans (congrArg some (by kernel_rfl))
 f206:=Tryz.func85.trans (congrArg some (by kernel_rfl))
 t3:=zi
 a3:=Tryz.isAgg3
 z3:=Tryz.sizeOf3
 v3:=Tryz.zeroValue3
 t4:=zh
 a4:=Tryz.isAgg4
 z4:=Tryz.sizeOf4
 v4:=Tryz.zeroValue4
 t9:=zg
 a9:=Tryz.isAgg9
 z9:=Tryz.sizeOf9
 v9:=Tryz.zeroValue9}
theorem aAv:Lays.n151 zx aL5:={
 mixed:=by kernel_rfl
 f119:=Tryz.func124.trans (congrArg some (by kernel_rfl))
 f137:=Tryz.func123.trans (congrArg some (by kernel_rfl))
 f151:=Tryz.func90.trans (congrArg some (by kernel_rfl))
 f152:=zt.trans (congrArg some (by kernel_rfl))
 f217:=Tryz.func140.trans (congrArg some (by kernel_rfl))
 f224:=Tryz.func125.trans (congrArg some (by kernel_rfl))
 f225:=Tryz.func126.trans (congrArg some (by kernel_rfl))
 f266:=Tryz.func145.trans (congrArg some (by kernel_rfl))
 t0:=Tryz.underlying0
 a0:=Tryz.isAgg0
 z0:=Tryz.sizeOf0
 v0:=Tryz.zeroValue0
 t3:=zi
 a3:=Tryz.isAgg3
 z3:=Tryz.sizeOf3
 v3:=Tryz.zeroValue3
 t4:=zh
 a4:=Tryz.isAgg4
 z4:=Tryz.sizeOf4
 v4:=Tryz.zeroValue4
 t5:=Tryz.underlying5
 a5:=Tryz.isAgg5
 z5:=Tryz.sizeOf5
 v5:=Tryz.zeroValue5
 t9:=zg
 a9:=Tryz.isAgg9
 z9:=Tryz.sizeOf9
 v9:=Tryz.zeroValue9
 t21:=Tryz.underlying21
 a21:=Tryz.isAgg21
 z21:=Tryz.sizeOf21
 v21:=Tryz.zeroValue21
 t46:=Tryz.underlying172
 a46:=Tryz.isAgg172
 z46:=Tryz.sizeOf172
 v46:=Tryz.zeroValue172}
end
section
open Go.RowKit Go.Shelf
def rR(a:Int):Bool:=decide (a=124) || decide (a=126) || decide (a=40) || decide (a=41) || decide (a=44) || decide (a=46)
abbrev eP:ByteArray:=⟨#[124,126,40,41,44,46]⟩
theorem aW7(a:Int)(d:0<=a)(g:a<128):decide (0<=Lib.indexByte eP.data.toList a.toNat.toUInt8)=rR a:=by
 obtain ⟨c,rfl⟩:=Int.eq_ofNat_of_zero_le d;have e:c<128:=by omega
 have f:∀b:Fin 128,decide (0<=Lib.indexByte eP.data.toList ((b.1:Int).toNat.toUInt8))=rR (b.1:Int):=by decide
 exact f ⟨c,e⟩
def aE6(a:Int):Prop:=a=-1\/a=-2\/Utf8.valid a=true
theorem aW8(a:Int)(w:World)(g:a<0):Calls zx 108 #[.string eP,.int .i32 a] w λc e=>c=.returned (.int .i64 (-1))/\aB w e:=by
 have i:¬(0:Int)<=a:=by omega
 have l:(a==65533)=false:=by rw [beq_eq_false_iff_ne];omega
 have j:decide (0<=a)=false:=by simp;omega
 have d:Lib.validRune a=false:=by simp [Lib.validRune];omega
 have b:=aA (λf=>Any.utf8_ValidRune {aAv with} a f);rw [d] at b;go_enter zt,zr;go_wp2_with (first
  |(go_at_call 124;refine (aD b _).mono ?_;rintro c m ⟨rfl,rfl⟩)
  |go_in)
 go_ret;exact ⟨rfl,Below.refl _ _⟩
theorem aW9(w:World):Calls zx 108 #[.string eP,.int .i32 65533] w λm r=>m=.returned (.int .i64 (-1))/\aB w r:=by
 go_enter zt,zr;go_wp2;go_loopw [] (λwr=>∃a:Nat,a<=6/\wr.heap[w.heap.size]?=some (.stringIter eP a)/\aB w wr) (λwr=>6-wr.iterPos w.heap.size);case atStart=>exact ⟨0,by omega,by have:=zd w eP 0;simpa using this,(Below.refl _ w).alloc (zy _) _⟩
 case round=>
  obtain ⟨a,t,c,e⟩:=hrel;have i:=aA e;have l:=aA c;by_cases d:a<eP.size
  ·have q:a<6:=d;have n:(eP[a]'d).toNat<128:=by
    have:∀f:Fin 6,(eP[f.1]'(by have:=f.2;show f.1<6;omega)).toNat<128:=by decide
    exact this ⟨a,q⟩
   have o:∀b,(Instr.next (.pointer (some ⟨w.heap.size,0,none⟩)) true b).run zx wr=_:=λb=>Lib.run_next_ascii_at wr w.heap.size eP a b c d n
   have g:=aA (Lib.iterAt_heap wr w.heap.size eP a (a+1) c);have j:=aA (Lib.below_iterAt e (k:=w.heap.size) (zy _) eP (a+1));generalize (eP[a]'d).toNat=cc at *;have s:((cc:Int)==65533)=false:=by rw [beq_eq_false_iff_ne];omega
   clear c e;go_wp2;go_roundw;case rel=>exact ⟨a+1,by omega,g.o,j.o⟩
   case measure=>simp only [zn,l.o,g.o];omega
  ·have o:∀b,(Instr.next (.pointer (some ⟨w.heap.size,0,none⟩)) true b).run zx wr=_:=λb=>Lib.run_next_end_at wr w.heap.size eP a b c d
   clear c e;go_wp2;go_ret;exact ⟨rfl,i.o⟩
theorem aWa(c:UInt8):∀a:List UInt8,(∀b∈a,b≠c)->Lib.indexByte a c=-1:=by
 intro a;induction a with
 |nil=>intro _;rfl
 |cons x r ih=>
  intro d;have e:=ih λb g=>d b (List.mem_cons_of_mem _ g)
  have f:(x==c)=false:=zU (d x (List.mem_cons_self ..));rw [Lib.indexByte,f,e];rfl
theorem aE7(c:Nat)(b:UInt8)(f:128<=b.toNat):Lib.indexByte (eP.extract c 6).data.toList b=-1:=by
 refine aWa b _ λd g e=>?_
 subst e;have a:=mem_extract g;have a:d∈[124,126,40,41,44,46]:=a;simp at a;rcases a with rfl|rfl|rfl|rfl|rfl|rfl<;>simp at f
theorem aWb(c:Int)(w:World)(x:Utf8.valid c=true)(A:128<=c)(B:c≠65533):Calls zx 108 #[.string eP,.int .i32 c] w λd i=>d=.returned (.int .i64 (-1))/\aB w i:=by
 have G:(0:Int)<=c:=by omega
 have H:¬c<128:=by omega
 have I:(c==65533)=false:=by rw [beq_eq_false_iff_ne];exact B
 have C:Lib.validRune c=true:=by rw [<-x,validRune_eq];rfl
 have s:=aA (λb=>Any.utf8_ValidRune {aAv with} c b);rw [C] at s;obtain ⟨E,F,l⟩:=encode_facts c x A;have j:=aA (λ(D:ByteArray) (z:Int) b=>Any.strings_IndexByte {aAv with} D z b);generalize hr:Utf8.encode c=rs at *;rcases (show rs.size=2\/rs.size=3\/rs.size=4 by omega) with hs|hs|hs
 ·have o:128<=(rs[1]'(by omega)).toNat:=by have:=l (by omega);simpa [hs] using this
  have a:1<rs.size:=by omega
  have u:(rs.size:Int)=2:=by omega
  have f:=aE7 2 (rs[1]'a) o;have g:((rs[1]'a).toNat:Int).toNat.toUInt8=(rs[1]'a):=by simp
  have t:(((eP[1]'(by decide)).toNat:Int) != ((rs[1]'a).toNat:Int))=true:=by have:(eP[1]'(by decide)).toNat=126:=rfl;rw [this];simp;omega
  have y:IntKind.i64.wrap 2=2:=by decide
  have m:aM (∀b,Calls zx 123 #[.string (eP.extract 2 6),.int .u8 ((rs[1]'a).toNat:Int)] b λd i=>d=.returned (.int .i64 (-1))/\i=b):=aA λb=>by
   have:=j.o (eP.extract 2 6) ((rs[1]'a).toNat:Int) b;rw [g,f] at this;exact this
  clear g f l j;go_enter zt,zr;go_wp2_with (first
   |(go_at_call 124;refine (aD s _).mono ?_;rintro d r ⟨rfl,rfl⟩)
   |go_in)
  go_step3;go_wp2;go_loopw [9] (λq wr=>q=.int .i64 1/\wr=r) (λ_ _=>0);case atStart=>exact ⟨rfl,rfl⟩
  case round=>
   obtain ⟨rfl,rfl⟩:=hrel;go_wp2;go_step3;go_wp2;go_quiet (fail);go_wp2;have e:aB wr (wr.drewN nq):=aR ⟨_,rfl⟩;have n:=aA e;clear e;generalize wr.drewN nq=wq at *;go_quiet ((go_at_call 123;exact zq (aD m _)));go_wp2;simp +zetaDelta only [zk,Exit.then,ze];go_ret;exact ⟨rfl,bD n.o (aR ⟨_,rfl⟩)⟩
 ·have o:128<=(rs[2]'(by omega)).toNat:=by have:=l (by omega);simpa [hs] using this
  have a:2<rs.size:=by omega
  have u:(rs.size:Int)=3:=by omega
  have f:=aE7 3 (rs[2]'a) o;have g:((rs[2]'a).toNat:Int).toNat.toUInt8=(rs[2]'a):=by simp
  have t:(((eP[2]'(by decide)).toNat:Int) != ((rs[2]'a).toNat:Int))=true:=by have:(eP[2]'(by decide)).toNat=40:=rfl;rw [this];simp;omega
  have y:IntKind.i64.wrap 3=3:=by decide
  have m:aM (∀b,Calls zx 123 #[.string (eP.extract 3 6),.int .u8 ((rs[2]'a).toNat:Int)] b λd i=>d=.returned (.int .i64 (-1))/\i=b):=aA λb=>by
   have:=j.o (eP.extract 3 6) ((rs[2]'a).toNat:Int) b;rw [g,f] at this;exact this
  clear g f l j;go_enter zt,zr;go_wp2_with (first
   |(go_at_call 124;refine (aD s _).mono ?_;rintro d r ⟨rfl,rfl⟩)
   |go_in)
  go_step3;go_wp2;go_loopw [9] (λq wr=>q=.int .i64 2/\wr=r) (λ_ _=>0);case atStart=>exact ⟨rfl,rfl⟩
  case round=>
   obtain ⟨rfl,rfl⟩:=hrel;go_wp2;go_step3;go_wp2;go_quiet (fail);go_wp2;have e:aB wr (wr.drewN nq):=aR ⟨_,rfl⟩;have n:=aA e;clear e;generalize wr.drewN nq=wq at *;go_quiet ((go_at_call 123;exact zq (aD m _)));go_wp2;simp +zetaDelta only [zk,Exit.then,ze];go_ret;exact ⟨rfl,bD n.o (aR ⟨_,rfl⟩)⟩
 ·have o:128<=(rs[3]'(by omega)).toNat:=by have:=l (by omega);simpa [hs] using this
  have a:3<rs.size:=by omega
  have u:(rs.size:Int)=4:=by omega
  have f:=aE7 4 (rs[3]'a) o;have g:((rs[3]'a).toNat:Int).toNat.toUInt8=(rs[3]'a):=by simp
  have t:(((eP[3]'(by decide)).toNat:Int) != ((rs[3]'a).toNat:Int))=true:=by have:(eP[3]'(by decide)).toNat=41:=rfl;rw [this];simp;omega
  have y:IntKind.i64.wrap 4=4:=by decide
  have m:aM (∀b,Calls zx 123 #[.string (eP.extract 4 6),.int .u8 ((rs[3]'a).toNat:Int)] b λd i=>d=.returned (.int .i64 (-1))/\i=b):=aA λb=>by
   have:=j.o (eP.extract 4 6) ((rs[3]'a).toNat:Int) b;rw [g,f] at this;exact this
  clear g f l j;go_enter zt,zr;go_wp2_with (first
   |(go_at_call 124;refine (aD s _).mono ?_;rintro d r ⟨rfl,rfl⟩)
   |go_in)
  go_step3;go_wp2;go_loopw [9] (λq wr=>q=.int .i64 3/\wr=r) (λ_ _=>0);case atStart=>exact ⟨rfl,rfl⟩
  case round=>
   obtain ⟨rfl,rfl⟩:=hrel;go_wp2;go_step3;go_wp2;go_quiet (fail);go_wp2;have e:aB wr (wr.drewN nq):=aR ⟨_,rfl⟩;have n:=aA e;clear e;generalize wr.drewN nq=wq at *;go_quiet ((go_at_call 123;exact zq (aD m _)));go_wp2;simp +zetaDelta only [zk,Exit.then,ze];go_ret;exact ⟨rfl,bD n.o (aR ⟨_,rfl⟩)⟩
theorem aL6(a:Int)(w:World)(h:aE6 a):Calls zx 63 #[.int .i32 a] w λb c=>b=.returned (.bool (rR a))/\aB w c:=by
 have g:Calls zx 90 #[.string eP,.int .i32 a] w λb c=>b=.returned (.bool (rR a))/\aB w c:=by
  by_cases d:0<=a/\a<128
  ·refine (Any.strings_ContainsRune_ascii aAv eP a w d.1 d.2).mono ?_;rintro b c ⟨rfl,rfl⟩;exact ⟨by rw [aW7 a d.1 d.2],Below.refl _ _⟩
  ·have j:rR a=false:=by
    unfold rR;simp only [Bool.or_eq_false_iff,decide_eq_false_iff_not];omega
   have i:Calls zx 108 #[.string eP,.int .i32 a] w λb c=>b=.returned (.int .i64 (-1))/\aB w c:=by
    by_cases l:a<0
    ·exact aW8 a w l
    ·by_cases f:a=65533
     ·subst f;exact aW9 w
     ·refine aWb a w ?_ (by omega) f;rcases h with h|h|h
      ·omega
      ·omega
      ·exact h
   rw [j];go_enter Tryz.func90,Tryz.ntmps90;go_wp2_with (go_at_call 108;refine i.mono ?_;rintro b m ⟨rfl,e⟩);go_ret;exact ⟨rfl,e⟩
 go_enter Tryz.func63,Tryz.ntmps63;go_wp2_with (go_at_call 90;refine g.mono ?_;rintro b m ⟨rfl,e⟩);go_ret;exact ⟨rfl,e⟩
theorem aWc(a:ByteArray)(p:Nat):aE6 (lW a p):=by
 unfold lW;split
 ·exact Or.inr (Or.inl rfl)
 ·right;right;rw [validRune_eq];unfold validRune;rw [decide_eq_true_eq,Lib.decode_N];unfold Lib.decodeN;repeat' split
  all_goals (simp only;omega)
theorem aAw(c:Int)(d:Int):∀b∈[Value.int .i32 c,Value.int .i64 d],b.oneCell'=true:=by intro b a;simp at a;rcases a with rfl|rfl<;>rfl
theorem aL7{b:Nat}{c:TypeId}{g:Nat}{e:Nat}{i:List Value}(n:w.ownsRow b c g v e i){k y:Nat}{f:ByteArray}(s:w.heap[k]?=some (.stringIter f y))(z:Nat):(w.iterAt k f z).ownsRow b c g v e i:=by
 obtain ⟨d,⟨rfl,o⟩|⟨m,j,l,rfl,q,a,r,t,x,u⟩⟩:=n
 ·exact ⟨d,Or.inl ⟨rfl,o⟩⟩
 ·refine ⟨d,Or.inr ⟨m,j,l,rfl,q,?_,r,t,x,u⟩⟩;rw [Lib.iterAt_other _ _ _ _ _ (by rintro rfl;rw [s] at a;cases a)];exact a
theorem aWd{c:Nat}{f:TypeId}{i:Nat}{b:Nat}{j:List Value}(g:w.ownsRow c f i v (b+1) j):∃a d,v=.slice (some ⟨a,0,none⟩) (b+1) d:=by
 obtain ⟨_,⟨rfl,m⟩|⟨a,e,l,rfl,_⟩⟩:=g
 ·omega
 ·exact ⟨a,e,rfl⟩
structure yP(w:World)(s:ByteArray)(it:Nat)(v:Value)(pos:Nat)(G:List Gl)(wr:World):Prop where
 le:pos<=s.size
 iter:wr.heap[it]?=some (.stringIter s pos)
 row:wr.ownsRow w.heap.size 120 2 v G.length (nZ G)
 low:aB w wr
 high:w.heap.size<=it
 few:G.length<=pos
 eq:G++bY s pos=bY s 0
theorem yP.next{b:ByteArray}{d:Nat}{a:Nat}{f:List Gl}{wr:World}(c:yP w b d v a f wr)(m:a<b.size){v':Value}{w1:World}{X:Obj}(r:w1.ownsRow w.heap.size 120 2 v' (f.length+1) (nZ f++[.int .i32 (lW b a),.int .i64 a]))(j:((wr.iterAt d b (a+(zz b a).2)).alloc X).grownBy w1 v.ownBlock):yP w b d v' (a+(zz b a).2) (f++[(lW b a,a)]) w1:=by
 have x:=(wN b a).1;have g:=Lib.iterAt_heap wr d b a (a+(zz b a).2) c.iter;have q:=(zp.1 g).1;have n:=aL7 c.row c.iter (a+(zz b a).2);have i:=Lib.below_iterAt c.low c.high b (a+(zz b a).2);refine ⟨aL3 b a m,?_,by rw [aL4,zv];exact r,?_,c.high,by have:=c.few;simp;omega,?_⟩
 ·rw [j.block d (by simp;omega) ?_]
  ·have o:=(Below.refl _ (wr.iterAt d b (a+(zz b a).2))).alloc (zy _) X;rw [o.block d q];exact g
  ·intro e;obtain ⟨_,⟨rfl,_⟩|⟨u,s,t,rfl,_,l,_⟩⟩:=n
   ·simp [zo] at e
   ·simp [zo] at e;subst e;rw [g] at l;cases l
 ·exact (i.alloc i.size X).grown j (by have:=i.size;simp;omega) (λk e=>(cO n k e).1)
 ·rw [List.append_assoc,<-c.eq,tF m];rfl
theorem aWe(a:ByteArray)(w:World)(c5:a.size<=3000):Calls zx 38 #[.string a] w λl a6=>∃U T,l=.returned (.slice (some ⟨U,0,none⟩) (bY a 0).length T)/\a6.ownsRow w.heap.size 120 2 (.slice (some ⟨U,0,none⟩) (bY a 0).length T) (bY a 0).length (nZ (bY a 0))/\aB w a6:=by
 obtain ⟨x,o,q,r,s⟩:=info_parts aW5;go_enter Tryz.func38,Tryz.ntmps38;go_wp2_with (first
  |(at_make;refine wpList_make_own _ rfl _ _ 59 rfl w.heap.size 120 x (.agg #[.int .i32 0,.int .i64 0]) 2 zw o q r .i64 .i64 _ (a.size+1) rfl rfl (by simp) (by rw [s];omega) (by unfold maxLen;omega) (zy _) ?_;intro f a0 X;have R:=aA a0;have E:aM (aB w f):=aA ((Below.refl _ w).grown X (zy _) (λk l=>by cases l));clear a0 X)
  |go_in)
 have a2:=E.o.size;have P:aM (yP w a f.heap.size (.slice (some ⟨w.heap.size,0,none⟩) 0 (a.size+1)) 0 [] (f.iter a 0)):=aA ⟨Nat.zero_le _,by have:=zd f a 0;simpa using this,R.o.alloc _,E.o.alloc a2 _,a2,zy _,rfl⟩;clear R E;generalize f.heap.size=it at *;go_loopw [3] (λv wr=>∃(b:Nat) (z:List Gl),yP w a it v b z wr) (λ_ wr=>a.size-wr.iterPos it);case atStart=>exact ⟨0,[],P.o⟩
 case round=>
  clear P;obtain ⟨b,z,d⟩:=hrel;have Q:=aA d;have m:=d.iter;have c0:=d.few;have c1:=d.le;have c2:=d.low.size;by_cases D:b<a.size
  ·have Z:∀n,(Instr.next (.pointer (some ⟨it,0,none⟩)) true n).run zx wr=_:=λn=>Lib.run_next_any_at wr it a b n m D
   have Y:=Lib.iterAt_heap wr it a b (b+(zz a b).2) m;have G:=aA m;have a8:=aA Y;have B:=aA (aL7 d.row m (b+(zz a b).2));have a3:(wr.iterAt it a (b+(zz a b).2)).heap.size=wr.heap.size:=Lib.iterAt_size _ _ _ _;have A:=aA (λ(b5:Value) (f:World) (b0:Obj) ho hg=>Q.o.next D (v':=b5) (w1:=f) (X:=b0) ho hg);obtain ⟨b6,b7,rfl⟩:=aZ d.row;have c4:(0:Int)<=(b:Int):=by omega
   have c3:(b:Int)<=(a.size:Int):=by omega
   have b3:=(wN a b).1;obtain ⟨j,t⟩ : ∃j,(zz a b).2=j:=⟨_,rfl⟩;obtain ⟨i,C⟩ : ∃i,(zz a b).1=i:=⟨_,rfl⟩;have L:=aW4 a b;have F:aM (lW a b=if i=65533/\j=1 then -2 else (i:Int)):=aA (by unfold lW;rw [C,t]);rw [t,C] at Z;rw [t] at Y a8 B a3 A b3;rw [t,C] at L;generalize lW a b=gc at *;clear m d Q t C;have c6:w.heap.size<=(wr.iterAt it a (b+j)).heap.size:=by omega
   clear a3;generalize hW:wr.iterAt it a (b+j)=W at *;by_cases V:i=65533
   ·subst V;have a1:Lib.hasPrefix (a.extract b a.size).data.toList [239,191,189] = !decide (j=1):=by
     have:=L rfl;rw [<-this];congr 1
     exact Lib.extract_to_end a b
    have y:=aA (λb8=>Any.strings_HasPrefix aW6 (a.extract b a.size) ⟨#[239,191,189]⟩ b8);rw [show (⟨#[239,191,189]⟩ : ByteArray).data.toList=[239,191,189] from rfl,a1] at y;clear a1 L;by_cases J:j=1
    ·subst J;have u:gc=-2:=by rw [F.o,aI ⟨rfl,rfl⟩]
     subst u;go_wp2_with (first
      |(go_at_call 56;refine (aD y _).mono ?_;rintro l f ⟨rfl,rfl⟩)
      |(at_builtin;refine wpList_append_own _ rfl (.tmp 25) (.tmp 29) 59 rfl w.heap.size 120 x (.agg #[.int .i32 0,.int .i64 0]) 2 16 zw o q r s rfl (by decide) _ _ _ rfl (B.o.alloc _) ⟨_,0,none⟩ 1 1 [.int .i32 (-2),.int .i64 b] rfl rfl (lA f _ _ _ _ rfl) (aAw _ _) (by unfold maxLen;omega) (by omega) (by simp;omega) ?_;intro M N c e _;have g:=aA (A.o _ _ _ c e);obtain ⟨a4,a5,rfl⟩:=aZ c;clear c e)
      |go_in)
     go_roundw;case rel=>exact ⟨_,_,g.o⟩
     case measure=>simp only [zn,G.o,g.o.iter];omega
    ·have u:gc=((65533:Nat):Int):=by rw [F.o,aH (λI=>J I.2)]
     subst u;rw [gB J] at y;go_wp2_with (first
      |(go_at_call 56;refine (aD y _).mono ?_;rintro l f ⟨rfl,rfl⟩)
      |(at_builtin;refine wpList_append_own _ rfl (.tmp 25) (.tmp 29) 59 rfl w.heap.size 120 x (.agg #[.int .i32 0,.int .i64 0]) 2 16 zw o q r s rfl (by decide) _ _ _ rfl (B.o.alloc _) ⟨_,0,none⟩ 1 1 [.int .i32 65533,.int .i64 b] rfl rfl (lA f _ _ _ _ rfl) (aAw _ _) (by unfold maxLen;omega) (by omega) (by simp;omega) ?_;intro M N c e _;have g:=aA (A.o _ _ _ c e);obtain ⟨a4,a5,rfl⟩:=aZ c;clear c e)
      |go_in)
     go_roundw;case rel=>exact ⟨_,_,g.o⟩
     case measure=>simp only [zn,G.o,g.o.iter];omega
   ·have b9:((i:Int)==65533)=false:=by rw [beq_eq_false_iff_ne];omega
    have u:gc=(i:Int):=by rw [F.o,aH (λI=>V I.1)]
    subst u;go_wp2_with (first
     |(at_builtin;refine wpList_append_own _ rfl (.tmp 25) (.tmp 29) 59 rfl w.heap.size 120 x (.agg #[.int .i32 0,.int .i64 0]) 2 16 zw o q r s rfl (by decide) _ _ _ rfl (B.o.alloc _) ⟨_,0,none⟩ 1 1 [.int .i32 i,.int .i64 b] rfl rfl (lA W _ _ _ _ rfl) (aAw _ _) (by unfold maxLen;omega) (by omega) (by simp;omega) ?_;intro M N c e _;have g:=aA (A.o _ _ _ c e);obtain ⟨a4,a5,rfl⟩:=aZ c;clear c e)
     |go_in)
    go_roundw;case rel=>exact ⟨_,_,g.o⟩
    case measure=>simp only [zn,G.o,g.o.iter];omega
  ·have Z:∀n,(Instr.next (.pointer (some ⟨it,0,none⟩)) true n).run zx wr=_:=λn=>Lib.run_next_end_at wr it a b n m D
   obtain ⟨b6,b7,rfl⟩:=aZ d.row;have S:=aA d.row;have H:=aA d.low;have O:aM (bY a 0=z++[(-1,a.size)]):=aA (by rw [<-d.eq,aE4 D]);clear d m;go_wp2_with (first
    |(at_builtin;refine wpList_append_own _ rfl (.tmp 31) (.tmp 35) 59 rfl w.heap.size 120 x (.agg #[.int .i32 0,.int .i64 0]) 2 16 zw o q r s rfl (by decide) _ _ _ rfl (S.o.alloc _) ⟨_,0,none⟩ 1 1 [.int .i32 (-1),.int .i64 a.size] rfl rfl (lA wr _ _ _ _ rfl) (aAw _ _) (by unfold maxLen;omega) (by omega) (by simp;omega) ?_;intro M N c e _;have a9:=aA c;have a7:=aA e;obtain ⟨b2,b1,rfl⟩:=aWd c;clear c e)
    |go_in)
   go_ret;have b4:(bY a 0).length=z.length+1:=by rw [O.o];simp
   rw [b4,O.o,aL4];exact ⟨b2,b1,rfl,a9.o,(H.o.alloc H.o.size _).grown a7.o (by have:=H.o.size;simp;omega) (λk l=>(cO S.o k l).1)⟩
end
section
open Go.RowKit
theorem aAx{s:ByteArray}(a:p<s.size)(b:aE s p=37):p<iB s p:=by rw [aE3 a (by omega)];have:=(aL2 s (s.size-(p+1)) (p+1)).1;unfold iB;omega
theorem aE8{s:ByteArray}(a:p<=s.size):iB s p<=s.size:=(aL2 s _ p).2 a
theorem aWf(i:ByteArray):∀c g p d b,fE i c g p=some (d,b)->p<b/\b<=i.size/\eS d=true:=by
 intro c;induction c with
 |zero=>intro g p d b a;simp [fE] at a
 |succ c ih=>
  intro g p d b a;simp only [fE] at a;split at a
  ·rename_i m;split at a
   ·split at a
    ·rename_i j;simp at a;obtain ⟨rfl,rfl⟩:=a;exact ⟨by omega,by omega,j⟩
    ·simp at a
   ·split at a
    ·split at a
     ·obtain ⟨l,e,f⟩:=ih _ _ _ _ a;exact ⟨by omega,e,f⟩
     ·simp at a
    ·split at a
     ·simp at a
     ·obtain ⟨l,e,f⟩:=ih _ _ _ _ a;exact ⟨by omega,e,f⟩
  ·simp at a
theorem aWg{b:ByteArray}{c:ByteArray}{a:Nat}(d:oR b p=some (c,a)):p+1<a/\a<=b.size/\eS c=true:=aWf b _ _ _ _ _ d
theorem aWh{a:ByteArray}(h:p<a.size)(b:(eK (aE a p) || dO (aE a p))=true):p<eB a p:=by rw [yO h (by unfold fD;simp at b ⊢;rcases b with h|h<;>simp [h])];have:=aKz a (p+1);omega
def aL8:Option Nat->Int
 |none=>-1
 |some p=>p
theorem aWi{a:ByteArray}(b:(eK (aE a k) || dO (aE a k))=true):dQ a k=if eB a k-k > 20 then .bad k else .tok ⟨if dO (aE a k) then 118 else 110,a.extract k (eB a k),k⟩ (eB a k):=by unfold dQ;rw [aI b]
theorem aWj{a:ByteArray}(c:(eK (aE a k) || dO (aE a k))=false)(b:aE a k=39):dQ a k=match oR a k with|some (n,e)=>.tok ⟨110,n,k⟩ e|none=>.bad k:=by unfold dQ;refine (aH (by rw [c];decide)).trans ((aI b).trans ?_);cases oR a k<;>rfl
theorem aWk{a:ByteArray}(d:(eK (aE a k) || dO (aE a k))=false)(c:aE a k≠39)(b:aE a k=36):dQ a k=if k+6<=a.size/\a.extract k (k+6)=⟨#[36,102,97,108,115,101]⟩ then .tok ⟨102,⟨#[]⟩,k⟩ (k+6) else .bad k:=by
 unfold dQ;rw [aH (by rw [d];decide),aH c,aI b]
theorem aWl{a:ByteArray}(d:(eK (aE a k) || dO (aE a k))=false)(c:aE a k≠39)(b:aE a k≠36):dQ a k=if mQ (aE a k) then .tok ⟨aE a k,⟨#[]⟩,k⟩ (k+1) else .bad k:=by
 unfold dQ;rw [aH (by rw [d];decide),aH c,aH b]
def aT(a:ByteArray)(p:Nat):Int:=if p<a.size then lW a p else -1
def iC(a:ByteArray)(p:Nat):Nat:=(zz a p).2
theorem mR(a:ByteArray)(p:Nat)(c:p<a.size)(b:aE a p<128):aT a p=aE a p/\iC a p=1:=by unfold aT iC lW;rw [aI c,Lib.decode_N,<-lZ];unfold Lib.decodeN;rw [aI b];simp only;rw [aH (by omega)];refine ⟨?_,?_⟩<;>first|rfl|trivial
theorem yQ(a:ByteArray)(p:Nat)(b:p<a.size)(c:128<=aE a p):aT a p=-2\/128<=aT a p:=by
 unfold aT lW;rw [aI b,Lib.decode_N,<-lZ];have d:=tJ a p;unfold Lib.decodeN;simp only [aH (show ¬aE a p<128 by omega)];repeat' split
 all_goals first|exact Or.inl rfl|(right;simp only at *;omega)
theorem eX(a:ByteArray)(p:Nat)(c:p<a.size)(b:Nat)(f:b<128):aT a p=(b:Int)↔aE a p=b:=by
 by_cases d:aE a p<128
 ·rw [(mR a p c d).1];omega
 ·rcases yQ a p c (by omega) with e|e
  ·rw [e];omega
  ·omega
theorem oS(a:ByteArray)(p:Nat)(b:¬p<a.size):aT a p=-1:=aH b
theorem aAy(a:ByteArray)(p:Nat)(b:p<a.size):aT a p≠-1:=by
 by_cases c:aE a p<128
 ·rw [(mR a p b c).1];omega
 ·rcases yQ a p b (by omega) with e|e
  ·rw [e];omega
  ·omega
theorem yR(a:ByteArray)(p:Nat):1<=iC a p:=(wN a p).1
theorem yS(a:ByteArray)(p:Nat)(b:p<a.size):p+iC a p<=a.size:=aL3 a p b
theorem aE9(a:ByteArray)(p:Nat):aE6 (aT a p):=by
 unfold aT;split
 ·exact aWc a p
 ·exact Or.inl rfl
theorem aWm(a:ByteArray)(p b:Nat)(f:p<a.size)(d:0<b)(e:b<iC a p):128<=aE a (p+b):=by
 have c:=aBe a p f;unfold iC at e;unfold rU at c;by_cases g:(zz a p).1=65533/\(zz a p).2=1
 ·omega
 ·rw [aH g] at c;exact aM9 a p b (by omega) d (by omega)
theorem aEa(a:ByteArray)(p:Nat)(d:p<=a.size):∃c,bY a p=(aT a p,p)::c:=by
 by_cases b:p<a.size
 ·exact ⟨_,by rw [tF b];unfold aT;rw [aI b]⟩
 ·have:p=a.size:=by omega
  subst this;exact ⟨[],by rw [aE4 b];unfold aT;rw [aH b]⟩
def bQ(w:World)(b:Nat)(left:Value)(k a:Int)(f:ByteArray)(c e d:Value):Prop:=w.heap[b]?=some (.cells #[left,.int .i32 k,.int .i64 a,.string f,c,e,d] 65)
section
variable {w:World}{pb:Nat}{left:Value}{k a:Int}{wd:ByteArray}{vC vP vM:Value}
theorem bQ.c0(b:bQ w pb left k a wd vC vP vM):w.cell? ⟨pb,0,none⟩=some left:=by unfold bQ at b;simp [zu,b]
theorem bQ.c1(b:bQ w pb left k a wd vC vP vM):w.cell? ⟨pb,1,none⟩=some (.int .i32 k):=by unfold bQ at b;simp [zu,b]
theorem bQ.c2(b:bQ w pb left k a wd vC vP vM):w.cell? ⟨pb,2,none⟩=some (.int .i64 a):=by unfold bQ at b;simp [zu,b]
theorem bQ.c3(b:bQ w pb left k a wd vC vP vM):w.cell? ⟨pb,3,none⟩=some (.string wd):=by unfold bQ at b;simp [zu,b]
theorem bQ.c4(b:bQ w pb left k a wd vC vP vM):w.cell? ⟨pb,4,none⟩=some vC:=by unfold bQ at b;simp [zu,b]
theorem bQ.c5(b:bQ w pb left k a wd vC vP vM):w.cell? ⟨pb,5,none⟩=some vP:=by unfold bQ at b;simp [zu,b]
theorem bQ.c6(b:bQ w pb left k a wd vC vP vM):w.cell? ⟨pb,6,none⟩=some vM:=by unfold bQ at b;simp [zu,b]
theorem bQ.soft(b:bQ w pb left k a wd vC vP vM)(c:Nat):w.frozen? ⟨pb,c,none⟩=false:=by unfold bQ at b;simp [World.frozen?,b]
theorem bQ.lt(b:bQ w pb left k a wd vC vP vM):pb<w.heap.size:=(zp.1 b).1
theorem bQ.below(b:bQ w pb left k a wd vC vP vM){w':World}{B:Nat}(c:Below B w w')(d:w.heap.size<=B):bQ w' pb left k a wd vC vP vM:=by have:=b.lt;unfold bQ;rw [c.block pb (by omega)];exact b
theorem bQ.set0(b:bQ w pb left k a wd vC vP vM)(v:Value):bQ (w.setCell ⟨pb,0,none⟩ v) pb v k a wd vC vP vM:=heap_setCell_same w pb 0 _ _ _ b
theorem bQ.row(e:bQ w pb left k a wd vC vP vM){B:Nat}{b:TypeId}{i:Nat}{v:Value}{n:Nat}{l:List Value}(f:w.ownsRow B b i v n l)(m:b≠65)(o:Nat)(j:Value):(w.setCell ⟨pb,o,none⟩ j).ownsRow B b i v n l:=by
 refine ownsRow_setCell_other f ?_ j;intro d;obtain ⟨_,⟨rfl,_⟩|⟨g,q,r,rfl,s,c,_⟩⟩:=f
 ·simp [zo] at d
 ·simp [zo] at d;subst d;unfold bQ at e;rw [e] at c;simp at c;exact m c.2.symm
end
structure bN(B:Nat)(w:World)(pb:Nat)(s:ByteArray)(p g j m c:Nat)(k a:Int)(wd:ByteArray)(vC vP vM:Value):Prop where
 box:bQ w pb (.slice (some ⟨g,j*2,none⟩) (m+1) (c+1)) k a wd vC vP vM
 high:B<=pb
 row:w.ownsRow B 120 2 (.slice (some ⟨g,0,none⟩) (j+m+1) (j+c+1)) (j+m+1) (nZ (bY s 0))
 len:(bY s 0).length=j+m+1
 drop:(bY s 0).drop j=bY s p
 le:p<=s.size
section
variable {B:Nat}{w w':World}{pb:Nat}{s:ByteArray}{p g j m c:Nat}{k a:Int}{wd:ByteArray}{vC vP vM:Value}
theorem bN.below(b:bN B w pb s p g j m c k a wd vC vP vM)(d:aB w w'):bN B w' pb s p g j m c k a wd vC vP vM:=
 ⟨b.box.below d (zy _),b.high,bK b.row d (zy _),b.len,b.drop,b.le⟩
theorem bN.at0(b:bN B w pb s p g j m c k a wd vC vP vM):w.cell? ⟨g,j*2,none⟩=some (.int .i32 (aT s p))/\w.cell? ⟨g,j*2+1,none⟩=some (.int .i64 p):=by
 obtain ⟨o,n⟩:=aEa s p b.le;have l:j<(bY s 0).length:=by have:=b.len;omega
 have i:(bY s 0)[j]=(aT s p,p):=by
  have d:((bY s 0).drop j)[0]?=some (aT s p,p):=by rw [b.drop,n];rfl
  rw [List.getElem?_drop,List.getElem?_eq_getElem (by omega)] at d;simpa using d
 obtain ⟨e,f⟩:=aE5 (bY s 0) j l;rw [i] at e f;exact ⟨by rw [b.row.cellAt _ (by omega),e],by rw [b.row.cellAt _ (by omega),f]⟩
theorem bN.more(d:bN B w pb s p g j m c k a wd vC vP vM)(l:p<s.size):∃n f,m=n+1/\c=f+1:=by
 have x:=d.len;have i:=congrArg List.length d.drop;rw [List.length_drop,tF l,zj] at i;have t:=(aAu s _ (p+(zz s p).2) (zy _)).1;have e:=d.row.2;obtain ⟨_,e⟩:=d.row;rcases e with ⟨b,_⟩|⟨r,o,q,b,_,_,u,_⟩
 ·simp at b
 ·simp at b;obtain ⟨_,rfl⟩:=b;exact ⟨m-1,c-1,by omega,by omega⟩
theorem bN.step(b:bN B w pb s p g j (m+1) (c+1) k a wd vC vP vM)(e:p<s.size):bN B (w.setCell ⟨pb,0,none⟩ (.slice (some ⟨g,j*2+2,none⟩) (m+1) (c+1))) pb s (p+iC s p) g (j+1) m c k a wd vC vP vM:=by
 rw [show j*2+2=(j+1)*2 by omega];refine ⟨b.box.set0 _,b.high,?_,by have:=b.len;omega,?_,yS s p e⟩
 ·have:=b.box.row b.row (by decide) 0 (.slice (some ⟨g,(j+1)*2,none⟩) (m+1) (c+1));rw [show j+1+m+1=j+(m+1)+1 by omega,show j+1+c+1=j+(c+1)+1 by omega];exact this
 ·have d:=b.drop;rw [tF e] at d;have:(bY s 0).drop (j+1)=((bY s 0).drop j).drop 1:=by rw [List.drop_drop]
  rw [this,d];rfl
end
theorem aEb{c:World}(b:aB w c){a:Addr}(l:a.block<w.heap.size)(e:Value):Below (w.setCell a e).heap.size (w.setCell a e) (c.setCell a e):=by
 refine ⟨b.os,b.tape,b.output,by have:=b.size;simpa [zl] using this,λk i=>?_⟩;have j:k<w.heap.size:=by simpa [zl] using i
 have f:=b.block k j;by_cases d:k=a.block
 ·subst d;have m:a.block<c.heap.size:=Nat.lt_of_lt_of_le l b.size;have g:c.heap[a.block]?=w.heap[a.block]?:=f;simp only [zl];rw [zm,zm];simp [g]
 ·rw [Below.heap_setCell _ _ _ _ d,Below.heap_setCell _ _ _ _ d,f]
theorem aWn{a:ByteArray}(c:p<a.size)(e:aT a p≠10):iB a p=iB a (p+iC a p):=by
 have g:aE a p≠10:=λd=>e ((eX a p c 10 (by omega)).2 d)
 have i:∀b,1<=b->b<=iC a p->iB a p=iB a (p+b):=by
  intro b j;induction b with
  |zero=>omega
  |succ b ih=>
   intro l;by_cases f:b=0
   ·subst f;exact aE3 c g
   ·rw [ih (by omega) (by omega)];have m:=yS a p c;exact aE3 (by omega) (by have:=aWm a p b c (by omega) (by omega);omega)
 exact i _ (yR a p) (zy _)
abbrev Pl:=ByteArray×Bool×Int×Int
def aAz(a b:Pl):Prop:=a.1=b.1/\(a.2.1≠b.2.1\/a.2.2.1≠b.2.2.1)
def oT(b:List Pl)(a:Nat)(c:a<b.length):Prop:=5<b[a].2.2.1\/∃k,∃d:k<a,aAz (b[k]'(by omega)) b[a]
def wO(b:List Pl)(e:Int):Prop:=(e=-1/\∀a c,¬oT b a c)\/∃a c,oT b a c/\(∀d f,d<a->¬oT b d f)/\e=b[a].2.2.2
def uP:Tk:=⟨63,⟨#[]⟩,0⟩
def eE(a:List Tk×Option Nat):List Tk:=a.1++(match a.2 with|some p=>[⟨63,⟨#[]⟩,p⟩]|none=>[])
def aJ(a:List Tk)(b:Nat):Tk:=a.getD b uP
def pS:List ByteArray->ByteArray->Int
 |[],_=>-1
 |y::r,x=>if y=x then (r.length:Int) else pS r x
def jQ(a:List ByteArray)(b:ByteArray):Int:=pS a.reverse b
theorem aWo(a:ByteArray):jQ [] a=-1:=rfl
theorem aL9(a:List ByteArray)(c b:ByteArray):jQ (a++[c]) b=if c=b then (a.length:Int) else jQ a b:=by simp [jQ,pS]
theorem aWp(a:List ByteArray)(c:ByteArray) : -1<=jQ a c/\jQ a c<a.length:=by
 unfold jQ;have b:a.length=a.reverse.length:=by simp
 rw [b];generalize a.reverse=m;clear b;induction m with
 |nil=>simp [pS]
 |cons y r ih=>
  simp only [pS];split
  ·simp;omega
  ·simp;omega
structure bC where
 i:Nat
 vars:List ByteArray
 pz:List Pl
def kP(a:List ByteArray)(b:ByteArray):List ByteArray:=if jQ a b<0 then a++[b] else a
def jZ(a:List ByteArray)(b:ByteArray):Int:=if jQ a b<0 then a.length else jQ a b
def pT(a:List Pl)(k:Nat)(b:Nat):List Pl:=a.modify k λp=>(p.1,p.2.1,(b:Int),p.2.2.2)
def dR(a:List Nd)(k:Nat)(b:Nat):List Nd:=a.modify k λp=>(p.1,(b:Int))
mutual
def cJ(a:List Tk):Nat->Bool->bC->List Nd->Except Nat (bC×List Nd)
 |0,_,_,_=>.error 0
 |f+1,atom,st,l=>
  if (aJ a st.i).kind=118/\atom=false then .ok (⟨st.i+1,kP st.vars (aJ a st.i).txt,st.pz⟩,l++[(⟨#[]⟩,jZ st.vars (aJ a st.i).txt)])
  else if (aJ a st.i).kind≠110 then .error (aJ a st.i).pos
  else if (aJ a (st.i+1)).kind=40 then
   match dS a f ⟨st.i+1,st.vars,st.pz++[((aJ a st.i).txt,atom,0,((aJ a st.i).pos:Int))]⟩ (l++[((aJ a st.i).txt,0)]) 0 with
   | .error p=>.error p
   | .ok (st',l',n)=>.ok (⟨st'.i,st'.vars,pT st'.pz st.pz.length n⟩,dR l' l.length n)
  else .ok (⟨st.i+1,st.vars,st.pz++[((aJ a st.i).txt,atom,0,((aJ a st.i).pos:Int))]⟩,l++[((aJ a st.i).txt,0)])
def dS(a:List Tk):Nat->bC->List Nd->Nat->Except Nat (bC×List Nd×Nat)
 |0,_,_,_=>.error 0
 |f+1,st,l,n=>
  match cJ a f false ⟨st.i+1,st.vars,st.pz⟩ l with
  | .error p=>.error p
  | .ok (st',l')=>
   if (aJ a st'.i).kind=44 then dS a f st' l' (n+1)
   else if (aJ a st'.i).kind=41 then .ok (⟨st'.i+1,st'.vars,st'.pz⟩,l',n+1)
   else .error (aJ a st'.i).pos
end
def fS(b:List Tk):Nat->bC->List Lt->Except Nat (bC×List Lt)
 |0,_,_=>.error 0
 |f+1,st,c=>
  match cJ b (b.length+1) true ⟨if (aJ b st.i).kind=126 then st.i+1 else st.i,st.vars,st.pz⟩ [] with
  | .error p=>.error p
  | .ok (st',a)=>
   if (aJ b st'.i).kind=124 then fS b f ⟨st'.i+1,st'.vars,st'.pz⟩ (c++[(decide ((aJ b st.i).kind=126),a)])
   else .ok (st',c++[(decide ((aJ b st.i).kind=126),a)])
def lJ(b:List Tk)(a:bC):Except Nat (bC×List Lt):=
 if (aJ b a.i).kind=102 then .ok (⟨a.i+1,[],a.pz⟩,[]) else fS b (b.length+1) ⟨a.i,[],a.pz⟩ []
def kQ(a:List Tk)(b:bC):Except Nat (bC×List Lt):=
 match lJ a b with
 | .error p=>.error p
 | .ok (st',c)=>if (aJ a st'.i).kind=46 then .ok (⟨st'.i+1,st'.vars,st'.pz⟩,c) else .error (aJ a st'.i).pos
def iD(a:List Tk):Nat->bC->List (Nat×List Lt)->Except Nat (bC×List (Nat×List Lt))
 |0,_,_=>.error 0
 |f+1,st,cs=>
  if (aJ a st.i).kind=101 then .ok (st,cs)
  else match kQ a st with
   | .error p=>.error p
   | .ok (st',c)=>iD a f st' (cs++[((aJ a st.i).pos,c)])
def uQ(a:ByteArray):Except Nat (bC×List (Nat×List Lt)):=iD (eE (cD a (a.size+1) 0)) ((eE (cD a (a.size+1) 0)).length+1) ⟨0,[],[]⟩ []
theorem wR(n:List Tk):∀f,(∀j b d c e,cJ n f j b d=.ok (c,e)->b.i<c.i/\d.length<e.length/\e.length<=d.length+(c.i-b.i)/\b.pz.length<=c.pz.length/\c.pz.length<=b.pz.length+(c.i-b.i)/\b.vars.length<=c.vars.length/\c.vars.length<=b.vars.length+(c.i-b.i))/\
  (∀b d g c e i,dS n f b d g=.ok (c,e,i)->b.i+1<c.i/\d.length<=e.length/\e.length+1<=d.length+(c.i-b.i)/\b.pz.length<=c.pz.length/\c.pz.length+1<=b.pz.length+(c.i-b.i)/\b.vars.length<=c.vars.length/\c.vars.length+1<=b.vars.length+(c.i-b.i)/\g<i/\i<=g+(c.i-b.i)):=by
 intro f;induction f with
 |zero=>exact ⟨λj b d c e a=>by simp [cJ] at a,λb d g c e i a=>by simp [dS] at a⟩
 |succ f ih=>
  obtain ⟨q,o⟩:=ih;constructor
  ·intro j b d c e a;rw [cJ] at a;split at a
   ·simp only [Except.ok.injEq,Prod.mk.injEq] at a;obtain ⟨rfl,rfl⟩:=a;simp only [zv,zs,kP];split<;>simp<;>omega
   ·split at a
    ·simp at a
    ·split at a
     ·split at a
      ·simp at a
      ·rename_i s r t l;have m:=o _ _ _ _ _ _ l;simp only [Except.ok.injEq,Prod.mk.injEq] at a;obtain ⟨rfl,rfl⟩:=a;simp only [zv,zs,pT,dR,List.length_modify] at m ⊢;omega
     ·simp only [Except.ok.injEq,Prod.mk.injEq] at a;obtain ⟨rfl,rfl⟩:=a;simp only [zv,zs];omega
  ·intro b d g c e i a;rw [dS] at a;split at a
   ·simp at a
   ·rename_i s r l;have m:=q _ _ _ _ _ l;simp only at m;split at a
    ·have u:=o _ _ _ _ _ _ a;omega
    ·split at a
     ·simp only [Except.ok.injEq,Prod.mk.injEq] at a;obtain ⟨rfl,rfl,rfl⟩:=a;simp only;omega
     ·simp at a
end
