import Derived.Test.YtbpiopdphigodaaGreatDoorSSpecP
import Derived.Shelf.Strings.Runes
import Derived.Shelf.Strings.Prefix
import Derived.Lib.OthersKept
import Derived.Laws.Runes
import Derived.Shelf.Small.Utf8
import Derived.Shelf.Small.Strs
import Derived.Deep.RegionWith
import Derived.WalkMore
import Derived.OwnWalk
import Derived.Lib.IndexBytes
import Derived.Deep.LoopGhost
import Derived.Laws.Cover4
import Derived.Deep.RegionHeld3
open Array renaming getElem?_eq_some_iff→zr,getElem?_modify→zn
open List renaming getElem?_eq_getElem→zo,getElem?_drop→zj,length_cons→zh,length_drop→zd
open Nat renaming le_refl→zx
namespace Go.Proofs.YtbpiopdphigodaaGreatDoor
open Calls renaming quiet_of_same→zs
open Exit renaming inBlock→zi,noGoto→zb
open _root_.Go.Proofs.Tryz renaming prog→zy,underlying48→zw,func109→zu,ntmps109→zt,underlying3→zg,underlying4→zf,underlying9→ze
open Utf8 renaming decode→zz,encode→zm,valid→z1
open Value renaming ownBlock→zq,int→z2
open World renaming cell?→zv,iterPos→zp,setCell→zk,iter_heap→za
set_option maxHeartbeats 3000000
set_option maxRecDepth 100000
variable{v:Value}{w:World}
section
open Go.RowKit
abbrev Gl:=Int×Nat
def lB(b:ByteArray)(a:Nat):Int:=if (zz b a).1=65533/\(zz b a).2=1 then -2 else ((zz b a).1:Int)
theorem tW(b:ByteArray)(a:Nat):1<=(zz b a).2/\(zz b a).2<=4:=by
 rw [Lib.decode_N];unfold Lib.decodeN;repeat' split
 all_goals simp
theorem aFi(b:ByteArray)(a:Nat)(c:a<b.size):a+(zz b a).2<=b.size:=by
 rw [Lib.decode_N,<-dR];unfold Lib.decodeN;repeat' split
 all_goals (simp only;omega)
def sU(a:ByteArray):Nat->Nat->List Gl
 |0,_=>[(-1,a.size)]
 |f+1,p=>if p<a.size then (lB a p,p)::sU a f (p+(zz a p).2) else [(-1,a.size)]
theorem aOz(c:ByteArray):∀b a,c.size-a<=b->sU c b a=sU c (c.size-a) a:=by
 intro b;induction b using Nat.strongRecOn with
 |_ b ih=>
  intro a j;by_cases f:a<c.size
  ·obtain ⟨d,rfl⟩ : ∃d,b=d+1:=⟨b-1,by omega⟩;obtain ⟨e,i⟩ : ∃e,c.size-a=e+1:=⟨c.size-a-1,by omega⟩;rw [i];simp only [sU];rw [aG f,aG f];have k:=(tW c a).1;rw [ih d (by omega) _ (by omega)];by_cases l:e<d+1
   ·rw [ih e (by omega) _ (by omega)]
   ·omega
  ·have g:c.size-a=0:=by omega
   rw [g];cases b with
   |zero=>rfl
   |succ b=>simp only [sU];rw [aF f]
def bT(b:ByteArray)(a:Nat):List Gl:=sU b (b.size-a) a
theorem rK{b:ByteArray}{a:Nat}(d:a<b.size):bT b a=(lB b a,a)::bT b (a+(zz b a).2):=by unfold bT;obtain ⟨c,e⟩ : ∃c,b.size-a=c+1:=⟨b.size-a-1,by omega⟩;rw [e];simp only [sU];rw [aG d,aOz b c _ (by have:=(tW b a).1;omega)]
theorem aB6{a:ByteArray}{b:Nat}(c:¬b<a.size):bT a b=[(-1,a.size)]:=by unfold bT;rw [show a.size-b=0 by omega];rfl
theorem yB(c:ByteArray):∀b a,c.size-a<=b->1<=(bT c a).length/\(bT c a).length<=b+1:=by
 intro b;induction b using Nat.strongRecOn with
 |_ b ih=>
  intro a e;by_cases d:a<c.size
  ·rw [rK d];have f:=(tW c a).1;have:=ih (b-1) (by omega) (a+(zz c a).2) (by omega);simp only [zh];omega
  ·rw [aB6 d];simp
theorem aP0(a:List UInt8)(b:Nat)(c d e:UInt8) : [c,d,e].isPrefixOf (a.drop b)=true↔a[b]?=some c/\a[b+1]?=some d/\a[b+2]?=some e:=by
 have f:(a.drop b)[0]?=a[b]?:=by simp
 have g:(a.drop b)[1]?=a[b+1]?:=by simp
 have i:(a.drop b)[2]?=a[b+2]?:=by simp
 rw [<-f,<-g,<-i];generalize a.drop b=m;match m with
 |[]=>simp
 |[x]=>simp
 |[x,y]=>simp
 |x::y::z::r=>simp;constructor<;>(rintro ⟨rfl,rfl,rfl⟩;exact ⟨rfl,rfl,rfl⟩)
theorem aP1(b:ByteArray)(a:Nat)(c:(zz b a).1=65533):Lib.hasPrefix (b.data.toList.drop a) [239,191,189] = !decide ((zz b a).2=1):=by
 have f:=aP0 b.data.toList a 239 191 189;have m:(b.data.toList[a]?=some 239/\b.data.toList[a+1]?=some 191/\b.data.toList[a+2]?=some 189)↔aE b a=239/\aE b (a+1)=191/\aE b (a+2)=189:=by
  have g:∀d (v:UInt8),v.toNat≠0->(b.data.toList[d]?=some v↔aE b d=v.toNat):=by
   intro d v l;rw [lH];cases hq:b.data.toList[d]? with
   |none=>
    simp only [List.getD,hq,Option.getD_none];constructor
    ·intro c;cases c
    ·intro c;exact absurd c.symm l
   |some x=>
    simp only [List.getD,hq,Option.getD_some,Option.some.injEq];exact ⟨λc=>by rw [c],λc=>UInt8.toNat_inj.1 c⟩
  rw [g a 239 (by decide),g (a+1) 191 (by decide),g (a+2) 189 (by decide)];exact Iff.rfl
 rw [m] at f;unfold Lib.hasPrefix;have i:=Lib.decode_N b a;rw [<-lH,<-lH,<-lH,<-lH,<-dR] at i;have n:=rW b a;have o:=rW b (a+1);have p:=rW b (a+2);have k:aE b (a+2)≠0->2<b.size-a:=by
  intro e;by_cases j:a+2<b.size
  ·omega
  ·unfold aE at e;rw [dif_neg j] at e;exact absurd rfl e
 generalize aE b a=x0 at *;generalize aE b (a+1)=x1 at *;generalize aE b (a+2)=x2 at *;generalize aE b (a+3)=x3 at *;rw [i] at c ⊢;unfold Lib.decodeN at c ⊢;cases hx:List.isPrefixOf [239,191,189] (b.data.toList.drop a)
 ·have q:¬(x0=239/\x1=191/\x2=189):=λc=>by rw [f.2 c] at hx;cases hx
  revert c;repeat' split
  all_goals first|(intro c;simp only at c;exfalso;omega)|(intro c;rfl)
 ·obtain ⟨rfl,rfl,rfl⟩:=f.1 hx;have:=k (by decide);revert c;repeat' split
  all_goals first|(intro c;rfl)|(intro c;exfalso;omega)
def mK(b:List Gl):List Value:=b.flatMap λa=>[.int .i32 a.1,.int .i64 a.2]
theorem aFj(b:List Gl)(a:Gl):mK (b++[a])=mK b++[.int .i32 a.1,.int .i64 a.2]:=by simp [mK]
theorem aB7(b:List Gl):∀a (c:a<b.length),(mK b)[a*2]?=some (.int .i32 b[a].1)/\(mK b)[a*2+1]?=some (.int .i64 b[a].2):=by
 induction b with
 |nil=>intro a c;simp at c
 |cons x r ih=>
  intro a c;cases a with
  |zero=>exact ⟨rfl,rfl⟩
  |succ a=>
   have:=ih a (by simpa using c);rw [show mK (x::r)=.int .i32 x.1::.int .i64 x.2::mK r from rfl,show (a+1)*2=a*2+1+1 by omega,show a*2+1+1+1=a*2+1+1+1 from rfl];simpa using this
theorem aP2:(zy.info? 109).map (λa=>(a.zero,a.size,a.bytes))=some (some (.agg #[.int .i32 0,.int .i64 0]),2,16):=by kernel_rfl
end
section
open Go.Shelf Go.Proofs
def aFk:Go.Shelf.Ren:=⟨fun|99=>49|119=>129|137=>128|151=>86|152=>109|206=>82|217=>152|224=>130|225=>131|266=>167|n=>n,fun|0=>0|3=>3|4=>4|5=>5|9=>9|21=>21|46=>180|n=>n,fun|n=>n⟩
theorem aP3:Lays.n99 zy aFk:={
 mixed:=by kernel_rfl
 f99:=Tryz.func49.trans (congrArg some (by kernel_rfl))
 f206:=Tryz.func82.trans (congrArg some (by kernel_rfl))
 t3:=zg
 a3:=Tryz.isAgg3
 z3:=Tryz.sizeOf3
 v3:=Tryz.zeroValue3
 t4:=zf
 a4:=Tryz.isAgg4
 z4:=Tryz.sizeOf4
 v4:=Tryz.zeroValue4
 t9:=ze
 a9:=Tryz.isAgg9
 z9:=Tryz.sizeOf9
 v9:=Tryz.zeroValue9}
theorem yC:Lays.n151 zy aFk:={
 mixed:=by kernel_rfl
 f119:=Tryz.func129.trans (congrArg some (by kernel_rfl))
 f137:=Tryz.func128.trans (congrArg some (by kernel_rfl))
 f151:=Tryz.func86.trans (congrArg some (by kernel_rfl))
 f152:=zu.trans (congrArg some (by kernel_rfl))
 f217:=Tryz.func152.trans (congrArg some (by kernel_rfl))
 f224:=Tryz.func130.trans (congrArg some (by kernel_rfl))
 f225:=Tryz.func131.trans (congrArg some (by kernel_rfl))
 f266:=Tryz.func167.trans (congrArg some (by kernel_rfl))
 t0:=Tryz.underlying0
 a0:=Tryz.isAgg0
 z0:=Tryz.sizeOf0
 v0:=Tryz.zeroValue0
 t3:=zg
 a3:=Tryz.isAgg3
 z3:=Tryz.sizeOf3
 v3:=Tryz.zeroValue3
 t4:=zf
 a4:=Tryz.isAgg4
 z4:=Tryz.sizeOf4
 v4:=Tryz.zeroValue4
 t5:=Tryz.underlying5
 a5:=Tryz.isAgg5
 z5:=Tryz.sizeOf5
 v5:=Tryz.zeroValue5
 t9:=ze
 a9:=Tryz.isAgg9
 z9:=Tryz.sizeOf9
 v9:=Tryz.zeroValue9
 t21:=Tryz.underlying21
 a21:=Tryz.isAgg21
 z21:=Tryz.sizeOf21
 v21:=Tryz.zeroValue21
 t46:=Tryz.underlying180
 a46:=Tryz.isAgg180
 z46:=Tryz.sizeOf180
 v46:=Tryz.zeroValue180}
end
section
open Go.RowKit Go.Shelf
def qD(a:Int):Bool:=decide (a=124) || decide (a=126) || decide (a=40) || decide (a=41) || decide (a=44) || decide (a=46)
abbrev eK:ByteArray:=⟨#[124,126,40,41,44,46]⟩
theorem aP4(a:Int)(d:0<=a)(g:a<128):decide (0<=Lib.indexByte eK.data.toList a.toNat.toUInt8)=qD a:=by
 obtain ⟨c,rfl⟩:=Int.eq_ofNat_of_zero_le d;have e:c<128:=by omega
 have f:∀b:Fin 128,decide (0<=Lib.indexByte eK.data.toList ((b.1:Int).toNat.toUInt8))=qD (b.1:Int):=by decide
 exact f ⟨c,e⟩
def aB8(a:Int):Prop:=a=-1\/a=-2\/z1 a=true
theorem aP5(a:Int)(w:World)(g:a<0):Calls zy 109 #[.string eK,.int .i32 a] w λc e=>c=.returned (.int .i64 (-1))/\aB w e:=by
 have i:¬(0:Int)<=a:=by omega
 have k:(a==65533)=false:=by rw [beq_eq_false_iff_ne];omega
 have j:decide (0<=a)=false:=by simp;omega
 have d:Lib.validRune a=false:=by simp [Lib.validRune];omega
 have b:=aA (λf=>Any.utf8_ValidRune {yC with} a f);rw [d] at b;go_enter zu,zt;go_wp2_with (first
  |(go_at_call 129;refine (aC b _).mono ?_;rintro c l ⟨rfl,rfl⟩)
  |go_in)
 go_ret;exact ⟨rfl,Below.refl _ _⟩
theorem aP6(w:World):Calls zy 109 #[.string eK,.int .i32 65533] w λm q=>m=.returned (.int .i64 (-1))/\aB w q:=by
 go_enter zu,zt;go_wp2;go_loopw [] (λwr=>∃a:Nat,a<=6/\wr.heap[w.heap.size]?=some (.stringIter eK a)/\aB w wr) (λwr=>6-wr.iterPos w.heap.size);case atStart=>exact ⟨0,by omega,by have:=za w eK 0;simpa using this,(Below.refl _ w).alloc (zx _) _⟩
 case round=>
  obtain ⟨a,s,c,e⟩:=hrel;have i:=aA e;have l:=aA c;by_cases d:a<eK.size
  ·have p:a<6:=d;have n:(eK[a]'d).toNat<128:=by
    have:∀f:Fin 6,(eK[f.1]'(by have:=f.2;show f.1<6;omega)).toNat<128:=by decide
    exact this ⟨a,p⟩
   have o:∀b,(Instr.next (.pointer (some ⟨w.heap.size,0,none⟩)) true b).run zy wr=_:=λb=>Lib.run_next_ascii_at wr w.heap.size eK a b c d n
   have g:=aA (Lib.iterAt_heap wr w.heap.size eK a (a+1) c);have j:=aA (Lib.below_iterAt e (k:=w.heap.size) (zx _) eK (a+1));generalize (eK[a]'d).toNat=cc at *;have r:((cc:Int)==65533)=false:=by rw [beq_eq_false_iff_ne];omega
   clear c e;go_wp2;go_roundw;case rel=>exact ⟨a+1,by omega,g.o,j.o⟩
   case measure=>simp only [zp,l.o,g.o];omega
  ·have o:∀b,(Instr.next (.pointer (some ⟨w.heap.size,0,none⟩)) true b).run zy wr=_:=λb=>Lib.run_next_end_at wr w.heap.size eK a b c d
   clear c e;go_wp2;go_ret;exact ⟨rfl,i.o⟩
theorem aP7(c:UInt8):∀a:List UInt8,(∀b∈a,b≠c)->Lib.indexByte a c=-1:=by
 intro a;induction a with
 |nil=>intro _;rfl
 |cons x r ih=>
  intro d;have e:=ih λb g=>d b (List.mem_cons_of_mem _ g)
  have f:(x==c)=false:=nbQ (d x (List.mem_cons_self ..));rw [Lib.indexByte,f,e];rfl
theorem aB9(c:Nat)(b:UInt8)(f:128<=b.toNat):Lib.indexByte (eK.extract c 6).data.toList b=-1:=by
 refine aP7 b _ λd g e=>?_
 subst e;have a:=mem_extract g;have a:d∈[124,126,40,41,44,46]:=a;simp at a;rcases a with rfl|rfl|rfl|rfl|rfl|rfl<;>simp at f
theorem aP8(c:Int)(w:World)(t:z1 c=true)(y:128<=c)(z:c≠65533):Calls zy 109 #[.string eK,.int .i32 c] w λd i=>d=.returned (.int .i64 (-1))/\aB w i:=by
 have E:(0:Int)<=c:=by omega
 have F:¬c<128:=by omega
 have G:(c==65533)=false:=by rw [beq_eq_false_iff_ne];exact z
 have A:Lib.validRune c=true:=by rw [<-t,validRune_eq];rfl
 have q:=aA (λb=>Any.utf8_ValidRune {yC with} c b);rw [A] at q;obtain ⟨C,D,k⟩:=encode_facts c t y;have j:=aA (λ(B:ByteArray) (x:Int) b=>Any.strings_IndexByte {yC with} B x b);generalize hr:zm c=rs at *;rcases (show rs.size=2\/rs.size=3\/rs.size=4 by omega) with hs|hs|hs
 ·have n:128<=(rs[1]'(by omega)).toNat:=by have:=k (by omega);simpa [hs] using this
  have a:1<rs.size:=by omega
  have s:(rs.size:Int)=2:=by omega
  have f:=aB9 2 (rs[1]'a) n;have g:((rs[1]'a).toNat:Int).toNat.toUInt8=(rs[1]'a):=by simp
  have r:(((eK[1]'(by decide)).toNat:Int) != ((rs[1]'a).toNat:Int))=true:=by have:(eK[1]'(by decide)).toNat=126:=rfl;rw [this];simp;omega
  have u:IntKind.i64.wrap 2=2:=by decide
  have l:aI (∀b,Calls zy 128 #[.string (eK.extract 2 6),.int .u8 ((rs[1]'a).toNat:Int)] b λd i=>d=.returned (.int .i64 (-1))/\i=b):=aA λb=>by
   have:=j.o (eK.extract 2 6) ((rs[1]'a).toNat:Int) b;rw [g,f] at this;exact this
  clear g f k j;go_enter zu,zt;go_wp2_with (first
   |(go_at_call 129;refine (aC q _).mono ?_;rintro d p ⟨rfl,rfl⟩)
   |go_in)
  go_step3;go_wp2;go_loopw [9] (λo wr=>o=.int .i64 1/\wr=p) (λ_ _=>0);case atStart=>exact ⟨rfl,rfl⟩
  case round=>
   obtain ⟨rfl,rfl⟩:=hrel;go_wp2;go_step3;go_wp2;go_quiet (fail);go_wp2;have e:aB wr (wr.drewN nq):=aQ ⟨_,rfl⟩;have m:=aA e;clear e;generalize wr.drewN nq=wq at *;go_quiet ((go_at_call 128;exact zs (aC l _)));go_wp2;simp +zetaDelta only [zi,Exit.then,zb];go_ret;exact ⟨rfl,aZ m.o (aQ ⟨_,rfl⟩)⟩
 ·have n:128<=(rs[2]'(by omega)).toNat:=by have:=k (by omega);simpa [hs] using this
  have a:2<rs.size:=by omega
  have s:(rs.size:Int)=3:=by omega
  have f:=aB9 3 (rs[2]'a) n;have g:((rs[2]'a).toNat:Int).toNat.toUInt8=(rs[2]'a):=by simp
  have r:(((eK[2]'(by decide)).toNat:Int) != ((rs[2]'a).toNat:Int))=true:=by have:(eK[2]'(by decide)).toNat=40:=rfl;rw [this];simp;omega
  have u:IntKind.i64.wrap 3=3:=by decide
  have l:aI (∀b,Calls zy 128 #[.string (eK.extract 3 6),.int .u8 ((rs[2]'a).toNat:Int)] b λd i=>d=.returned (.int .i64 (-1))/\i=b):=aA λb=>by
   have:=j.o (eK.extract 3 6) ((rs[2]'a).toNat:Int) b;rw [g,f] at this;exact this
  clear g f k j;go_enter zu,zt;go_wp2_with (first
   |(go_at_call 129;refine (aC q _).mono ?_;rintro d p ⟨rfl,rfl⟩)
   |go_in)
  go_step3;go_wp2;go_loopw [9] (λo wr=>o=.int .i64 2/\wr=p) (λ_ _=>0);case atStart=>exact ⟨rfl,rfl⟩
  case round=>
   obtain ⟨rfl,rfl⟩:=hrel;go_wp2;go_step3;go_wp2;go_quiet (fail);go_wp2;have e:aB wr (wr.drewN nq):=aQ ⟨_,rfl⟩;have m:=aA e;clear e;generalize wr.drewN nq=wq at *;go_quiet ((go_at_call 128;exact zs (aC l _)));go_wp2;simp +zetaDelta only [zi,Exit.then,zb];go_ret;exact ⟨rfl,aZ m.o (aQ ⟨_,rfl⟩)⟩
 ·have n:128<=(rs[3]'(by omega)).toNat:=by have:=k (by omega);simpa [hs] using this
  have a:3<rs.size:=by omega
  have s:(rs.size:Int)=4:=by omega
  have f:=aB9 4 (rs[3]'a) n;have g:((rs[3]'a).toNat:Int).toNat.toUInt8=(rs[3]'a):=by simp
  have r:(((eK[3]'(by decide)).toNat:Int) != ((rs[3]'a).toNat:Int))=true:=by have:(eK[3]'(by decide)).toNat=41:=rfl;rw [this];simp;omega
  have u:IntKind.i64.wrap 4=4:=by decide
  have l:aI (∀b,Calls zy 128 #[.string (eK.extract 4 6),.int .u8 ((rs[3]'a).toNat:Int)] b λd i=>d=.returned (.int .i64 (-1))/\i=b):=aA λb=>by
   have:=j.o (eK.extract 4 6) ((rs[3]'a).toNat:Int) b;rw [g,f] at this;exact this
  clear g f k j;go_enter zu,zt;go_wp2_with (first
   |(go_at_call 129;refine (aC q _).mono ?_;rintro d p ⟨rfl,rfl⟩)
   |go_in)
  go_step3;go_wp2;go_loopw [9] (λo wr=>o=.int .i64 3/\wr=p) (λ_ _=>0);case atStart=>exact ⟨rfl,rfl⟩
  case round=>
   obtain ⟨rfl,rfl⟩:=hrel;go_wp2;go_step3;go_wp2;go_quiet (fail);go_wp2;have e:aB wr (wr.drewN nq):=aQ ⟨_,rfl⟩;have m:=aA e;clear e;generalize wr.drewN nq=wq at *;go_quiet ((go_at_call 128;exact zs (aC l _)));go_wp2;simp +zetaDelta only [zi,Exit.then,zb];go_ret;exact ⟨rfl,aZ m.o (aQ ⟨_,rfl⟩)⟩
theorem aFl(a:Int)(w:World)(h:aB8 a):Calls zy 56 #[.int .i32 a] w λb c=>b=.returned (.bool (qD a))/\aB w c:=by
 have g:Calls zy 86 #[.string eK,.int .i32 a] w λb c=>b=.returned (.bool (qD a))/\aB w c:=by
  by_cases d:0<=a/\a<128
  ·refine (Any.strings_ContainsRune_ascii yC eK a w d.1 d.2).mono ?_;rintro b c ⟨rfl,rfl⟩;exact ⟨by rw [aP4 a d.1 d.2],Below.refl _ _⟩
  ·have j:qD a=false:=by
    unfold qD;simp only [Bool.or_eq_false_iff,decide_eq_false_iff_not];omega
   have i:Calls zy 109 #[.string eK,.int .i32 a] w λb c=>b=.returned (.int .i64 (-1))/\aB w c:=by
    by_cases k:a<0
    ·exact aP5 a w k
    ·by_cases f:a=65533
     ·subst f;exact aP6 w
     ·refine aP8 a w ?_ (by omega) f;rcases h with h|h|h
      ·omega
      ·omega
      ·exact h
   rw [j];go_enter Tryz.func86,Tryz.ntmps86;go_wp2_with (go_at_call 109;refine i.mono ?_;rintro b l ⟨rfl,e⟩);go_ret;exact ⟨rfl,e⟩
 go_enter Tryz.func56,Tryz.ntmps56;go_wp2_with (go_at_call 86;refine g.mono ?_;rintro b l ⟨rfl,e⟩);go_ret;exact ⟨rfl,e⟩
theorem aP9(b:ByteArray)(a:Nat):aB8 (lB b a):=by
 unfold lB;split
 ·exact Or.inr (Or.inl rfl)
 ·right;right;rw [validRune_eq];unfold validRune;rw [decide_eq_true_eq,Lib.decode_N];unfold Lib.decodeN;repeat' split
  all_goals (simp only;omega)
theorem yD(c:Int)(d:Int):∀b∈[z2 .i32 c,z2 .i64 d],b.oneCell'=true:=by intro b a;simp at a;rcases a with rfl|rfl<;>rfl
theorem aFm{b:Nat}{c:TypeId}{i:Nat}{f:Nat}{j:List Value}(n:w.ownsRow b c i v f j){e x:Nat}{g:ByteArray}(r:w.heap[e]?=some (.stringIter g x))(y:Nat):(w.iterAt e g y).ownsRow b c i v f j:=by
 obtain ⟨d,⟨rfl,o⟩|⟨m,k,l,rfl,p,a,q,s,u,t⟩⟩:=n
 ·exact ⟨d,Or.inl ⟨rfl,o⟩⟩
 ·refine ⟨d,Or.inr ⟨m,k,l,rfl,p,?_,q,s,u,t⟩⟩;rw [Lib.iterAt_other _ _ _ _ _ (by rintro rfl;rw [r] at a;cases a)];exact a
theorem aPa{c:Nat}{f:TypeId}{i:Nat}{b:Nat}{j:List Value}(g:w.ownsRow c f i v (b+1) j):∃a d,v=.slice (some ⟨a,0,none⟩) (b+1) d:=by
 obtain ⟨_,⟨rfl,l⟩|⟨a,e,k,rfl,_⟩⟩:=g
 ·omega
 ·exact ⟨a,e,rfl⟩
structure vI(w:World)(s:ByteArray)(it:Nat)(v:Value)(pos:Nat)(G:List Gl)(wr:World):Prop where
 le:pos<=s.size
 iter:wr.heap[it]?=some (.stringIter s pos)
 row:wr.ownsRow w.heap.size 109 2 v G.length (mK G)
 low:aB w wr
 high:w.heap.size<=it
 few:G.length<=pos
 eq:G++bT s pos=bT s 0
theorem vI.next{b:ByteArray}{d:Nat}{a:Nat}{f:List Gl}{wr:World}(c:vI w b d v a f wr)(m:a<b.size){v':Value}{w1:World}{X:Obj}(q:w1.ownsRow w.heap.size 109 2 v' (f.length+1) (mK f++[.int .i32 (lB b a),.int .i64 a]))(j:((wr.iterAt d b (a+(zz b a).2)).alloc X).grownBy w1 v.ownBlock):vI w b d v' (a+(zz b a).2) (f++[(lB b a,a)]) w1:=by
 have u:=(tW b a).1;have g:=Lib.iterAt_heap wr d b a (a+(zz b a).2) c.iter;have p:=(zr.1 g).1;have n:=aFm c.row c.iter (a+(zz b a).2);have i:=Lib.below_iterAt c.low c.high b (a+(zz b a).2);refine ⟨aFi b a m,?_,by rw [aFj,List.length_append];exact q,?_,c.high,by have:=c.few;simp;omega,?_⟩
 ·rw [j.block d (by simp;omega) ?_]
  ·have o:=(Below.refl _ (wr.iterAt d b (a+(zz b a).2))).alloc (zx _) X;rw [o.block d p];exact g
  ·intro e;obtain ⟨_,⟨rfl,_⟩|⟨t,r,s,rfl,_,l,_⟩⟩:=n
   ·simp [zq] at e
   ·simp [zq] at e;subst e;rw [g] at l;cases l
 ·exact (i.alloc i.size X).grown j (by have:=i.size;simp;omega) (λk e=>(cL n k e).1)
 ·rw [List.append_assoc,<-c.eq,rK m];rfl
theorem aPb(a:ByteArray)(w:World)(c4:a.size<=3000):Calls zy 29 #[.string a] w λk a5=>∃S R,k=.returned (.slice (some ⟨S,0,none⟩) (bT a 0).length R)/\a5.ownsRow w.heap.size 109 2 (.slice (some ⟨S,0,none⟩) (bT a 0).length R) (bT a 0).length (mK (bT a 0))/\aB w a5:=by
 obtain ⟨t,n,o,p,q⟩:=info_parts aP2;go_enter Tryz.func29,Tryz.ntmps29;go_wp2_with (first
  |(at_make;refine wpList_make_own _ rfl _ _ 48 rfl w.heap.size 109 t (.agg #[.int .i32 0,.int .i64 0]) 2 zw n o p .i64 .i64 _ (a.size+1) rfl rfl (by simp) (by rw [q];omega) (by unfold maxLen;omega) (zx _) ?_;intro f Y U;have P:=aA Y;have C:aI (aB w f):=aA ((Below.refl _ w).grown U (zx _) (λa2 k=>by cases k));clear Y U)
  |go_in)
 have a0:=C.o.size;have N:aI (vI w a f.heap.size (.slice (some ⟨w.heap.size,0,none⟩) 0 (a.size+1)) 0 [] (f.iter a 0)):=aA ⟨Nat.zero_le _,by have:=za f a 0;simpa using this,P.o.alloc _,C.o.alloc a0 _,a0,zx _,rfl⟩;clear P C;generalize f.heap.size=it at *;go_loopw [3] (λv wr=>∃(b:Nat) (x:List Gl),vI w a it v b x wr) (λ_ wr=>a.size-wr.iterPos it);case atStart=>exact ⟨0,[],N.o⟩
 case round=>
  clear N;obtain ⟨b,x,d⟩:=hrel;have O:=aA d;have l:=d.iter;have b9:=d.few;have c0:=d.le;have c1:=d.low.size;by_cases B:b<a.size
  ·have X:∀m,(Instr.next (.pointer (some ⟨it,0,none⟩)) true m).run zy wr=_:=λm=>Lib.run_next_any_at wr it a b m l B
   have V:=Lib.iterAt_heap wr it a b (b+(zz a b).2) l;have E:=aA l;have a7:=aA V;have z:=aA (aFm d.row l (b+(zz a b).2));have a1:(wr.iterAt it a (b+(zz a b).2)).heap.size=wr.heap.size:=Lib.iterAt_size _ _ _ _;have y:=aA (λ(b4:Value) (f:World) (a9:Obj) ho hg=>O.o.next B (v':=b4) (w1:=f) (X:=a9) ho hg);obtain ⟨b5,b6,rfl⟩:=aY d.row;have c3:(0:Int)<=(b:Int):=by omega
   have c2:(b:Int)<=(a.size:Int):=by omega
   have b2:=(tW a b).1;obtain ⟨j,r⟩ : ∃j,(zz a b).2=j:=⟨_,rfl⟩;obtain ⟨i,A⟩ : ∃i,(zz a b).1=i:=⟨_,rfl⟩;have I:=aP1 a b;have D:aI (lB a b=if i=65533/\j=1 then -2 else (i:Int)):=aA (by unfold lB;rw [A,r]);rw [r,A] at X;rw [r] at V a7 z a1 y b2;rw [r,A] at I;generalize lB a b=gc at *;clear l d O r A;have c5:w.heap.size<=(wr.iterAt it a (b+j)).heap.size:=by omega
   clear a1;generalize hW:wr.iterAt it a (b+j)=W at *;by_cases T:i=65533
   ·subst T;have Z:Lib.hasPrefix (a.extract b a.size).data.toList [239,191,189] = !decide (j=1):=by
     have:=I rfl;rw [<-this];congr 1
     exact Lib.extract_to_end a b
    have u:=aA (λb7=>Any.strings_HasPrefix aP3 (a.extract b a.size) ⟨#[239,191,189]⟩ b7);rw [show (⟨#[239,191,189]⟩ : ByteArray).data.toList=[239,191,189] from rfl,Z] at u;clear Z I;by_cases H:j=1
    ·subst H;have s:gc=-2:=by rw [D.o,aG ⟨rfl,rfl⟩]
     subst s;go_wp2_with (first
      |(go_at_call 49;refine (aC u _).mono ?_;rintro k f ⟨rfl,rfl⟩)
      |(at_builtin;refine wpList_append_own _ rfl (.tmp 25) (.tmp 29) 48 rfl w.heap.size 109 t (.agg #[.int .i32 0,.int .i64 0]) 2 16 zw n o p q rfl (by decide) _ _ _ rfl (z.o.alloc _) ⟨_,0,none⟩ 1 1 [.int .i32 (-2),.int .i64 b] rfl rfl (kH f _ _ _ _ rfl) (yD _ _) (by unfold maxLen;omega) (by omega) (by simp;omega) ?_;intro J L c e _;have g:=aA (y.o _ _ _ c e);obtain ⟨a3,a4,rfl⟩:=aY c;clear c e)
      |go_in)
     go_roundw;case rel=>exact ⟨_,_,g.o⟩
     case measure=>simp only [zp,E.o,g.o.iter];omega
    ·have s:gc=((65533:Nat):Int):=by rw [D.o,aF (λG=>H G.2)]
     subst s;rw [gH H] at u;go_wp2_with (first
      |(go_at_call 49;refine (aC u _).mono ?_;rintro k f ⟨rfl,rfl⟩)
      |(at_builtin;refine wpList_append_own _ rfl (.tmp 25) (.tmp 29) 48 rfl w.heap.size 109 t (.agg #[.int .i32 0,.int .i64 0]) 2 16 zw n o p q rfl (by decide) _ _ _ rfl (z.o.alloc _) ⟨_,0,none⟩ 1 1 [.int .i32 65533,.int .i64 b] rfl rfl (kH f _ _ _ _ rfl) (yD _ _) (by unfold maxLen;omega) (by omega) (by simp;omega) ?_;intro J L c e _;have g:=aA (y.o _ _ _ c e);obtain ⟨a3,a4,rfl⟩:=aY c;clear c e)
      |go_in)
     go_roundw;case rel=>exact ⟨_,_,g.o⟩
     case measure=>simp only [zp,E.o,g.o.iter];omega
   ·have b8:((i:Int)==65533)=false:=by rw [beq_eq_false_iff_ne];omega
    have s:gc=(i:Int):=by rw [D.o,aF (λG=>T G.1)]
    subst s;go_wp2_with (first
     |(at_builtin;refine wpList_append_own _ rfl (.tmp 25) (.tmp 29) 48 rfl w.heap.size 109 t (.agg #[.int .i32 0,.int .i64 0]) 2 16 zw n o p q rfl (by decide) _ _ _ rfl (z.o.alloc _) ⟨_,0,none⟩ 1 1 [.int .i32 i,.int .i64 b] rfl rfl (kH W _ _ _ _ rfl) (yD _ _) (by unfold maxLen;omega) (by omega) (by simp;omega) ?_;intro J L c e _;have g:=aA (y.o _ _ _ c e);obtain ⟨a3,a4,rfl⟩:=aY c;clear c e)
     |go_in)
    go_roundw;case rel=>exact ⟨_,_,g.o⟩
    case measure=>simp only [zp,E.o,g.o.iter];omega
  ·have X:∀m,(Instr.next (.pointer (some ⟨it,0,none⟩)) true m).run zy wr=_:=λm=>Lib.run_next_end_at wr it a b m l B
   obtain ⟨b5,b6,rfl⟩:=aY d.row;have Q:=aA d.row;have F:=aA d.low;have M:aI (bT a 0=x++[(-1,a.size)]):=aA (by rw [<-d.eq,aB6 B]);clear d l;go_wp2_with (first
    |(at_builtin;refine wpList_append_own _ rfl (.tmp 31) (.tmp 35) 48 rfl w.heap.size 109 t (.agg #[.int .i32 0,.int .i64 0]) 2 16 zw n o p q rfl (by decide) _ _ _ rfl (Q.o.alloc _) ⟨_,0,none⟩ 1 1 [.int .i32 (-1),.int .i64 a.size] rfl rfl (kH wr _ _ _ _ rfl) (yD _ _) (by unfold maxLen;omega) (by omega) (by simp;omega) ?_;intro J L c e _;have a8:=aA c;have a6:=aA e;obtain ⟨b1,b0,rfl⟩:=aPa c;clear c e)
    |go_in)
   go_ret;have b3:(bT a 0).length=x.length+1:=by rw [M.o];simp
   rw [b3,M.o,aFj];exact ⟨b1,b0,rfl,a8.o,(F.o.alloc F.o.size _).grown a6.o (by have:=F.o.size;simp;omega) (λa2 k=>(cL Q.o a2 k).1)⟩
end
section
open Go.RowKit
def aR(b:ByteArray)(a:Nat):Int:=if a<b.size then lB b a else -1
def gK(b:ByteArray)(a:Nat):Nat:=(zz b a).2
theorem lS(b:ByteArray)(a:Nat)(d:a<b.size)(c:aE b a<128):aR b a=aE b a/\gK b a=1:=by unfold aR gK lB;rw [aG d,Lib.decode_N,<-lH];unfold Lib.decodeN;rw [aG c];simp only;rw [aF (by omega)];refine ⟨?_,?_⟩<;>first|rfl|trivial
theorem vJ(b:ByteArray)(a:Nat)(c:a<b.size)(d:128<=aE b a):aR b a=-2\/128<=aR b a:=by
 unfold aR lB;rw [aG c,Lib.decode_N,<-lH];have e:=rW b a;unfold Lib.decodeN;simp only [aF (show ¬aE b a<128 by omega)];repeat' split
 all_goals first|exact Or.inl rfl|(right;simp only at *;omega)
theorem eV(b:ByteArray)(a:Nat)(d:a<b.size)(c:Nat)(g:c<128):aR b a=(c:Int)↔aE b a=c:=by
 by_cases f:aE b a<128
 ·rw [(lS b a d f).1];omega
 ·rcases vJ b a d (by omega) with e|e
  ·rw [e];omega
  ·omega
theorem nD(b:ByteArray)(a:Nat)(c:¬a<b.size):aR b a=-1:=aF c
theorem yE(b:ByteArray)(a:Nat)(c:a<b.size):aR b a≠-1:=by
 by_cases d:aE b a<128
 ·rw [(lS b a c d).1];omega
 ·rcases vJ b a c (by omega) with e|e
  ·rw [e];omega
  ·omega
theorem vK(b:ByteArray)(a:Nat):1<=gK b a:=(tW b a).1
theorem vL(b:ByteArray)(a:Nat)(c:a<b.size):a+gK b a<=b.size:=aFi b a c
theorem aBa(b:ByteArray)(a:Nat):aB8 (aR b a):=by
 unfold aR;split
 ·exact aP9 b a
 ·exact Or.inl rfl
theorem aPc(b:ByteArray)(a c:Nat)(g:a<b.size)(e:0<c)(f:c<gK b a):128<=aE b (a+c):=by
 have d:=uS b a g;unfold gK at f;unfold oT at d;by_cases i:(zz b a).1=65533/\(zz b a).2=1
 ·omega
 ·rw [aF i] at d;exact aCr b a c (by omega) e (by omega)
theorem aBb(b:ByteArray)(a:Nat)(e:a<=b.size):∃d,bT b a=(aR b a,a)::d:=by
 by_cases c:a<b.size
 ·exact ⟨_,by rw [rK c];unfold aR;rw [aG c]⟩
 ·have:a=b.size:=by omega
  subst this;exact ⟨[],by rw [aB6 c];unfold aR;rw [aF c]⟩
def bM(w:World)(c:Nat)(left:Value)(b a:Int)(g:ByteArray)(d f e:Value):Prop:=w.heap[c]?=some (.cells #[left,.int .i32 b,.int .i64 a,.string g,d,f,e] 54)
section
variable {w:World}{pb:Nat}{left:Value}{k a:Int}{wd:ByteArray}{vC vP vM:Value}
theorem bM.c0(b:bM w pb left k a wd vC vP vM):w.cell? ⟨pb,0,none⟩=some left:=by unfold bM at b;simp [zv,b]
theorem bM.c1(b:bM w pb left k a wd vC vP vM):w.cell? ⟨pb,1,none⟩=some (.int .i32 k):=by unfold bM at b;simp [zv,b]
theorem bM.c2(b:bM w pb left k a wd vC vP vM):w.cell? ⟨pb,2,none⟩=some (.int .i64 a):=by unfold bM at b;simp [zv,b]
theorem bM.c3(b:bM w pb left k a wd vC vP vM):w.cell? ⟨pb,3,none⟩=some (.string wd):=by unfold bM at b;simp [zv,b]
theorem bM.c4(b:bM w pb left k a wd vC vP vM):w.cell? ⟨pb,4,none⟩=some vC:=by unfold bM at b;simp [zv,b]
theorem bM.c5(b:bM w pb left k a wd vC vP vM):w.cell? ⟨pb,5,none⟩=some vP:=by unfold bM at b;simp [zv,b]
theorem bM.c6(b:bM w pb left k a wd vC vP vM):w.cell? ⟨pb,6,none⟩=some vM:=by unfold bM at b;simp [zv,b]
theorem bM.soft(b:bM w pb left k a wd vC vP vM)(c:Nat):w.frozen? ⟨pb,c,none⟩=false:=by unfold bM at b;simp [World.frozen?,b]
theorem bM.lt(b:bM w pb left k a wd vC vP vM):pb<w.heap.size:=(zr.1 b).1
theorem bM.below(b:bM w pb left k a wd vC vP vM){w':World}{B:Nat}(c:Below B w w')(d:w.heap.size<=B):bM w' pb left k a wd vC vP vM:=by have:=b.lt;unfold bM;rw [c.block pb (by omega)];exact b
theorem bM.set0(b:bM w pb left k a wd vC vP vM)(v:Value):bM (w.setCell ⟨pb,0,none⟩ v) pb v k a wd vC vP vM:=heap_setCell_same w pb 0 _ _ _ b
theorem bM.row(e:bM w pb left k a wd vC vP vM){B:Nat}{b:TypeId}{i:Nat}{v:Value}{n:Nat}{l:List Value}(f:w.ownsRow B b i v n l)(m:b≠54)(o:Nat)(j:Value):(w.setCell ⟨pb,o,none⟩ j).ownsRow B b i v n l:=by
 refine ownsRow_setCell_other f ?_ j;intro d;obtain ⟨_,⟨rfl,_⟩|⟨g,p,q,rfl,r,c,_⟩⟩:=f
 ·simp [zq] at d
 ·simp [zq] at d;subst d;unfold bM at e;rw [e] at c;simp at c;exact m c.2.symm
end
structure bJ(B:Nat)(w:World)(pb:Nat)(s:ByteArray)(p g j m c:Nat)(k a:Int)(wd:ByteArray)(vC vP vM:Value):Prop where
 box:bM w pb (.slice (some ⟨g,j*2,none⟩) (m+1) (c+1)) k a wd vC vP vM
 high:B<=pb
 row:w.ownsRow B 109 2 (.slice (some ⟨g,0,none⟩) (j+m+1) (j+c+1)) (j+m+1) (mK (bT s 0))
 len:(bT s 0).length=j+m+1
 drop:(bT s 0).drop j=bT s p
 le:p<=s.size
section
variable {B:Nat}{w w':World}{pb:Nat}{s:ByteArray}{p g j m c:Nat}{k a:Int}{wd:ByteArray}{vC vP vM:Value}
theorem bJ.below(b:bJ B w pb s p g j m c k a wd vC vP vM)(d:aB w w'):bJ B w' pb s p g j m c k a wd vC vP vM:=
 ⟨b.box.below d (zx _),b.high,bF b.row d (zx _),b.len,b.drop,b.le⟩
theorem bJ.at0(b:bJ B w pb s p g j m c k a wd vC vP vM):w.cell? ⟨g,j*2,none⟩=some (.int .i32 (aR s p))/\w.cell? ⟨g,j*2+1,none⟩=some (.int .i64 p):=by
 obtain ⟨o,n⟩:=aBb s p b.le;have l:j<(bT s 0).length:=by have:=b.len;omega
 have i:(bT s 0)[j]=(aR s p,p):=by
  have d:((bT s 0).drop j)[0]?=some (aR s p,p):=by rw [b.drop,n];rfl
  rw [zj,zo (by omega)] at d;simpa using d
 obtain ⟨e,f⟩:=aB7 (bT s 0) j l;rw [i] at e f;exact ⟨by rw [b.row.cellAt _ (by omega),e],by rw [b.row.cellAt _ (by omega),f]⟩
theorem bJ.more(d:bJ B w pb s p g j m c k a wd vC vP vM)(l:p<s.size):∃n f,m=n+1/\c=f+1:=by
 have x:=d.len;have i:=congrArg List.length d.drop;rw [zd,rK l,zh] at i;have t:=(yB s _ (p+(zz s p).2) (zx _)).1;have e:=d.row.2;obtain ⟨_,e⟩:=d.row;rcases e with ⟨b,_⟩|⟨r,o,q,b,_,_,u,_⟩
 ·simp at b
 ·simp at b;obtain ⟨_,rfl⟩:=b;exact ⟨m-1,c-1,by omega,by omega⟩
theorem bJ.step(b:bJ B w pb s p g j (m+1) (c+1) k a wd vC vP vM)(e:p<s.size):bJ B (w.setCell ⟨pb,0,none⟩ (.slice (some ⟨g,j*2+2,none⟩) (m+1) (c+1))) pb s (p+gK s p) g (j+1) m c k a wd vC vP vM:=by
 rw [show j*2+2=(j+1)*2 by omega];refine ⟨b.box.set0 _,b.high,?_,by have:=b.len;omega,?_,vL s p e⟩
 ·have:=b.box.row b.row (by decide) 0 (.slice (some ⟨g,(j+1)*2,none⟩) (m+1) (c+1));rw [show j+1+m+1=j+(m+1)+1 by omega,show j+1+c+1=j+(c+1)+1 by omega];exact this
 ·have d:=b.drop;rw [rK e] at d;have:(bT s 0).drop (j+1)=((bT s 0).drop j).drop 1:=by rw [List.drop_drop]
  rw [this,d];rfl
end
theorem aBc{c:World}(b:aB w c){a:Addr}(l:a.block<w.heap.size)(f:Value):Below (w.setCell a f).heap.size (w.setCell a f) (c.setCell a f):=by
 refine ⟨b.os,b.tape,b.output,by have:=b.size;simpa [zk] using this,λe j=>?_⟩;have k:e<w.heap.size:=by simpa [zk] using j
 have g:=b.block e k;by_cases d:e=a.block
 ·subst d;have m:a.block<c.heap.size:=Nat.lt_of_lt_of_le l b.size;have i:c.heap[a.block]?=w.heap[a.block]?:=g;simp only [zk];rw [zn,zn];simp [i]
 ·rw [Below.heap_setCell _ _ _ _ d,Below.heap_setCell _ _ _ _ d,g]
theorem aPd{b:ByteArray}{a:Nat}(d:a<b.size)(f:aR b a≠10):gN b a=gN b (a+gK b a):=by
 have i:aE b a≠10:=λe=>f ((eV b a d 10 (by omega)).2 e)
 have j:∀c,1<=c->c<=gK b a->gN b a=gN b (a+c):=by
  intro c k;induction c with
  |zero=>omega
  |succ c ih=>
   intro l;by_cases g:c=0
   ·subst g;exact aCl d i
   ·rw [ih (by omega) (by omega)];have m:=vL b a d;exact aCl (by omega) (by have:=aPc b a c d (by omega) (by omega);omega)
 exact j _ (vK b a) (zx _)
def fJ(b a:Int)(c:ByteArray):Value:=.agg #[.int .i32 b,.int .i64 a,.string c]
section
variable {B:Nat}{pb:Nat}{s:ByteArray}{p g j m c:Nat}{k a:Int}{wd:ByteArray}{vC vP vM:Value}
theorem tX(d:bJ B w pb s p g j m c k a wd vC vP vM):Calls zy 57 #[.pointer (some ⟨pb,0,none⟩)] w λf i=>f=.returned (fJ (-2) p ⟨#[]⟩)/\aB w i:=by
 have e:=d.box.c0;have l:∀b,(w.alloc b).cell? ⟨pb,0,none⟩=some (.slice (some ⟨g,j*2,none⟩) (m+1) (c+1)):=λb=>aD ((Below.refl _ w).alloc (zx _) b) e
 have n:∀b,(w.alloc b).cell? ⟨g,j*2+1,none⟩=some (.int .i64 p):=λb=>aD ((Below.refl _ w).alloc (zx _) b) d.at0.2
 clear d e;go_enter Tryz.func57,Tryz.ntmps57;go_wp2;go_returns;exact ⟨rfl,(Below.refl _ w).alloc (zx _) _⟩
theorem aPe(o:bJ B w pb s p g j m c k a wd vC vP vM):Calls zy 84 #[.pointer (some ⟨pb,0,none⟩)] w λG A=>G=.returned (.tuple #[])/\w.grownBy A (some pb)/\∃f n i,bJ B A pb s (gN s p) g f n i k a wd vC vP vM:=by
 have Q:=o.le;go_enter Tryz.func84,Tryz.ntmps84;go_wp2;go_loopg [] (s.size-p) (λM wr=>∃b f n i,bJ B wr pb s b g f n i k a wd vC vP vM/\gN s p=gN s b/\M=s.size-b/\w.grownBy wr (some pb));case atStart=>exact ⟨p,j,m,c,o,rfl,rfl,World.grownBy.refl _ _⟩
 case round=>
  obtain ⟨b,f,n,i,d,l,T,r⟩:=hrel;have N:=d.box.c0;have O:=d.box.soft 0;have z:=d.at0.1;have y:=aA d;have C:=aA l;have t:=aA r;have R:=d.le;by_cases q:aR s b=10
  ·have e:b<s.size:=Classical.byContradiction λH=>by rw [nD s b H] at q;omega
   have u:aI (gN s p=b):=aA (by rw [l];exact aId λx=>x.2 ((eV s b e 10 (by omega)).1 q));rw [q] at z;clear d l r o;go_wp2;go_returns;exact ⟨rfl,t.o,f,n,i,by rw [u.o];exact y.o⟩
  ·by_cases e:b<s.size
   ·have J:=yE s b e;obtain ⟨L,F,rfl,rfl⟩:=d.more e;have E:=aA (d.step e);have D:=aA (aPd e q);have U:=vK s b;have V:=vL s b e;generalize aR s b=cc at *;have P:(cc != 10)=true:=by simpa using q
    have S:(cc != -1)=true:=by simpa using J
    clear d l r o;go_wp2;go_roundg (s.size-(b+gK s b));case measure=>omega
    case rel=>exact ⟨b+gK s b,f+1,L,F,E.o,by rw [C.o,D.o],rfl,qK t.o _⟩
   ·have I:=nD s b e;rw [I] at z;have u:aI (gN s p=b):=aA (by rw [l];exact aId λx=>e x.1);clear d l r o;go_wp2;go_returns;exact ⟨rfl,t.o,f,n,i,by rw [u.o];exact y.o⟩
theorem aPf(b:Int)(w:World):Calls zy 83 #[.int .i32 b] w λf i=>f=.returned (.bool (decide (b=32) || decide (b=9) || decide (b=10)))/\i=w:=by
 go_enter Tryz.func83,Tryz.ntmps83;by_cases d:b=32
 ·subst d;go_wp2;go_ret;exact ⟨rfl,rfl⟩
 ·have l:(b==32)=false:=by simpa using d
  by_cases e:b=9
  ·subst e;go_wp2;go_ret;exact ⟨rfl,rfl⟩
  ·have n:(b==9)=false:=by simpa using e
   go_wp2;go_ret;exact ⟨cX (by simp [d,e];rfl),rfl⟩
def lT(s:ByteArray):Nat->Nat->Nat
 |0,p=>p
 |f+1,p=>if p<s.size then if lG (aE s p) then lT s f (p+1) else if aE s p=37 then lT s f (gN s p) else p else p
theorem aPg(s:ByteArray):∀b p,s.size<p+b->p<=s.size->qJ s b p=(if lT s b p<s.size then dH s (lT s b p) else .stop s.size)/\lT s b p<=s.size/\(lT s b p<s.size->lG (aE s (lT s b p))=false/\aE s (lT s b p)≠37):=by
 intro b;induction b with
 |zero=>intro p n i;omega
 |succ b ih=>
  intro p n i;rw [qJ,lT];by_cases d:p<s.size
  ·rw [aG d,aG d];by_cases f:lG (aE s p)=true
   ·rw [aG f,aG f];exact ih (p+1) (by omega) (by omega)
   ·rw [aF f,aF f];by_cases e:aE s p=37
    ·rw [aG e,aG e];have:=yZ d e;exact ih _ (by omega) (aCm i)
    ·rw [aF e,aF e,aG d];exact ⟨rfl,i,λ_=>⟨by simpa using f,e⟩⟩
  ·rw [aF d,aF d,aF d];have:p=s.size:=by omega
   exact ⟨by rw [this],i,λl=>absurd l d⟩
theorem aPh(D:Nat)(x:bJ B w pb s p g j m c k a wd vC vP vM)(V:s.size<p+D):Calls zy 50 #[.pointer (some ⟨pb,0,none⟩)] w λl Q=>l=.returned (.tuple #[])/\w.grownBy Q (some pb)/\∃o u r,bJ B Q pb s (lT s D p) g o u r k a wd vC vP vM:=by
 go_enter Tryz.func50,Tryz.ntmps50;go_wp2;go_loopg [] D (λq wr=>∃b o u r,bJ B wr pb s b g o u r k a wd vC vP vM/\lT s D p=lT s q b/\s.size<b+q/\w.grownBy wr (some pb));case atStart=>exact ⟨p,j,m,c,x,rfl,V,World.grownBy.refl _ _⟩
 case round=>
  obtain ⟨b,o,u,r,e,d,a7,A⟩:=hrel;have a6:=e.le;obtain ⟨q,rfl⟩ : ∃q,gk=q+1:=⟨gk-1,by omega⟩;have a3:=e.box.c0;have a4:=e.box.soft 0;have N:=e.at0.1;have G:=aA e;have C:=aA A;have i:=aA (λa2=>aPf (aR s b) a2);rw [lT] at d;by_cases f:b<s.size
  ·rw [aG f] at d;have E:(decide (aR s b=32) || decide (aR s b=9) || decide (aR s b=10))=lG (aE s b):=by
    unfold lG;have I:=eV s b f 32 (by omega);have J:=eV s b f 9 (by omega);have L:=eV s b f 10 (by omega);have I:(aR s b=32)=(aE s b=32):=propext I;have J:(aR s b=9)=(aE s b=9):=propext J;have L:(aR s b=10)=(aE s b=10):=propext L;simp only [I,J,L]
   rw [E] at i;have y:=eV s b f 37 (by omega);by_cases t:lG (aE s b)=true
   ·rw [aG t] at d;rw [t] at i;obtain ⟨a1,U,rfl,rfl⟩:=e.more f;have X:aE s b<128:=by unfold lG at t;simp at t;omega
    have M:=aA (e.step f);rw [(lS s b f X).2] at M;have n:=aA d;clear e d A x E y;go_wp2_with (go_at_call 83;refine (aC i _).mono ?_;rintro l F ⟨rfl,rfl⟩);go_roundg q;case measure=>omega
    case rel=>exact ⟨b+1,o+1,a1,U,M.o,n.o,by omega,qK C.o _⟩
   ·rw [aF t] at d;have W:lG (aE s b)=false:=by simpa using t
    rw [W] at i;by_cases z:aE s b=37
    ·rw [aG z] at d;have H:=y.2 z;rw [H] at N;have a5:=yZ f z;have n:=aA d;clear e d A x E y;go_wp2_with (first
      |(go_at_call 83;rw [H] at i;refine (aC i _).mono ?_;rintro l F ⟨rfl,rfl⟩)
      |(go_at_call 84;refine (aPe G.o).mono ?_;rintro l F ⟨rfl,P,Z,a0,T,O⟩;have R:=aA P;have S:=aA O;clear P O))
     go_roundg q;case measure=>omega
     case rel=>exact ⟨gN s b,Z,a0,T,S.o,n.o,by omega,C.o.trans R.o⟩
    ·rw [aF z] at d;have Y:aR s b≠37:=λl=>z (y.1 l)
     have n:=aA d;generalize aR s b=cc at *;have H:(cc==37)=false:=by simpa using Y
     clear e d A x E y;go_wp2_with (go_at_call 83;refine (aC i _).mono ?_;rintro l F ⟨rfl,rfl⟩);go_returns;exact ⟨rfl,C.o,o,u,r,by rw [n.o];exact G.o⟩
  ·rw [aF f] at d;have n:=aA d;rw [nD s b f] at N i;clear e d A x;go_wp2_with (go_at_call 83;refine (aC i _).mono ?_;rintro l F ⟨rfl,rfl⟩);go_returns;exact ⟨rfl,C.o,o,u,r,by rw [n.o];exact G.o⟩
end
theorem aFn:(zy.info? 21).map (λa=>(a.zero,a.size,a.bytes))=some (some (.int .i32 0),1,4):=by kernel_rfl
theorem aBd(c:Int):∀b∈[z2 .i32 c],b.oneCell'=true:=by intro b a;simp at a;subst a;rfl
theorem aPi(a:Nat)(b:a<128):zm (a:Int)=⟨#[UInt8.ofNat a]⟩:=by
 have c:z1 (a:Int)=true:=by rw [validRune_eq];unfold validRune;simp;omega
 unfold zm;simp [c,b]
theorem yF(a:List Int)(b:Int):runesBytes (a++[b])=runesBytes a++zm b:=by unfold runesBytes;rw [List.foldl_append];rfl
theorem aPj(b:ByteArray)(c a:Nat)(g:c<=a)(f:a<b.size):b.extract c (a+1)=b.extract c a++⟨#[UInt8.ofNat (aE b a)]⟩:=by
 have d:b.extract a (a+1)=⟨#[UInt8.ofNat (aE b a)]⟩:=by
  rw [kZ b a f];apply ByteArray.ext;rw [ByteArray.data_extract];apply Array.ext
  ·simp;have:a<b.data.size:=f;omega
  ·intro i d e;simp at e;subst e;simp;rfl
 rw [<-d];apply ByteArray.ext;simp only [ByteArray.data_append,ByteArray.data_extract];rw [Array.extract_append_extract];congr 1
 ·omega
 ·omega
def nE(d:ByteArray)(b c:Nat):List Int:=(List.range c).map λa=>(aE d (b+a):Int)
theorem aFo(c:ByteArray)(a b:Nat):nE c a (b+1)=nE c a b++[(aE c (a+b):Int)]:=by simp [nE,List.range_succ]
theorem aPk(c:ByteArray)(a:Nat):∀b,a+b<=c.size->(∀d,d<b->aE c (a+d)<128)->runesBytes (nE c a b)=c.extract a (a+b):=by
 intro b;induction b with
 |zero=>
  intro _ _;have:c.extract a (a+0)=ByteArray.empty:=by
   apply ByteArray.ext;rw [ByteArray.data_extract];apply Array.ext
   ·simp;omega
   ·intro d f e;simp at e
  rw [this];rfl
 |succ b ih=>
  intro f e;rw [aFo,yF,ih (by omega) (λd g=>e d (by omega)),aPi _ (e b (by omega)),<-aPj c a (a+b) (by omega) (by omega)];rfl
theorem aBe(a:Nat)(b:cO (a:Int)=true):a<128:=by simp only [cO,dO,dP,pJ,Bool.or_eq_true,Bool.and_eq_true,decide_eq_true_eq,beq_iff_eq] at b;omega
theorem aPl(b:ByteArray)(a:Nat):cO (aR b a)=(decide (a<b.size) && cO (aE b a)):=by
 by_cases c:a<b.size
 ·by_cases d:aE b a<128
  ·rw [(lS b a c d).1];simp [c]
  ·have f:cO (aE b a:Int)=false:=by
    cases hi:cO (aE b a:Int)
    ·rfl
    ·exact absurd (aBe _ hi) d
   rw [f];rcases vJ b a c (by omega) with e|e
   ·rw [e];simp;decide
   ·have:cO (aR b a)=false:=by
     simp only [cO,dO,dP,pJ,Bool.or_eq_false_iff,Bool.and_eq_false_iff,decide_eq_false_iff_not,beq_eq_false_iff_ne];omega
    rw [this];simp
 ·rw [nD b a c];simp [c];decide
section
variable {B:Nat}{pb:Nat}{s:ByteArray}{p g j m c:Nat}{k a:Int}{wd:ByteArray}{vC vP vM:Value}
theorem bJ.letters(e:bJ B w pb s p g j m c k a wd vC vP vM):∀b,p+b<=s.size->(∀d,d<b->aE s (p+d)<128)->(bT s 0).drop (j+b)=bT s (p+b)/\b<=m:=by
 intro b;induction b with
 |zero=>intro _ _;exact ⟨e.drop,Nat.zero_le _⟩
 |succ b ih=>
  intro q f;obtain ⟨o,u⟩:=ih (by omega) (λd t=>f d (by omega));have l:=(lS s (p+b) (by omega) (f b (by omega))).2;unfold gK at l;have i:(bT s 0).drop (j+(b+1))=bT s (p+(b+1)):=by
   have n:(bT s 0).drop (j+(b+1))=((bT s 0).drop (j+b)).drop 1:=by rw [List.drop_drop];rfl
   rw [n,o,rK (by omega),l];rfl
  refine ⟨i,?_⟩;have:=congrArg List.length i;rw [zd,e.len] at this;have r:=(yB s _ (p+(b+1)) (zx _)).1;omega
theorem bJ.cells(e:bJ B w pb s p g j m c k a wd vC vP vM)(b d:Nat)(n:(bT s 0).drop (j+b)=bT s d)(r:d<=s.size)(x:b<=m):w.cell? ⟨g,j*2+b*2,none⟩=some (.int .i32 (aR s d))/\w.cell? ⟨g,j*2+b*2+1,none⟩=some (.int .i64 d):=by
 obtain ⟨y,t⟩:=aBb s d r;have u:=e.len;have q:j+b<(bT s 0).length:=by omega
 have o:(bT s 0)[j+b]=(aR s d,d):=by
  have l:((bT s 0).drop (j+b))[0]?=some (aR s d,d):=by rw [n,t];rfl
  rw [zj,zo (by omega)] at l;simpa using l
 obtain ⟨f,i⟩:=aB7 (bT s 0) (j+b) q;rw [o] at f i;rw [show (j+b)*2=j*2+b*2 by omega] at f i;exact ⟨by rw [e.row.cellAt _ (by omega),f],by rw [e.row.cellAt _ (by omega),i]⟩
theorem bJ.jump(b i e d:Nat)(f:bJ B w pb s p g j (e+b) (d+b) k a wd vC vP vM)(l:(bT s 0).drop (j+b)=bT s i)(n:i<=s.size):bJ B (w.setCell ⟨pb,0,none⟩ (.slice (some ⟨g,j*2+b*2,none⟩) (e+1) (d+1))) pb s i g (j+b) e d k a wd vC vP vM:=by rw [show j*2+b*2=(j+b)*2 by omega];refine ⟨f.box.set0 _,f.high,?_,by have:=f.len;omega,l,n⟩;have:=f.box.row f.row (by decide) 0 (.slice (some ⟨g,(j+b)*2,none⟩) (e+1) (d+1));rw [show j+b+e+1=j+(e+b)+1 by omega,show j+b+d+1=j+(d+b)+1 by omega];exact this
theorem bJ.mc(d:bJ B w pb s p g j m c k a wd vC vP vM):m<=c:=by
 obtain ⟨_,e⟩:=d.row;rcases e with ⟨b,_⟩|⟨l,f,i,b,_,_,n,_⟩
 ·simp at b
 ·simp at b;obtain ⟨_,rfl⟩:=b;omega
end
end
