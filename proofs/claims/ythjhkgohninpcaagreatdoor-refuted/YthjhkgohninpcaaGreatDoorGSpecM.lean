import Derived.Shelf.Strings.Runes
import Derived.Shelf.Strings.Prefix
import Derived.Test.YthjhkgohninpcaaGreatDoorProg
import Derived.Lib.OthersKept
import Derived.Laws.Runes
import Derived.Shelf.Small.Utf8
import Derived.Shelf.Small.Strs
import Derived.Deep.RegionWith
import Derived.WalkMore
import Derived.Test.YthjhkgohninpcaaGreatDoorRefs1M
import Derived.OwnWalk
import Derived.Lib.IndexBytes
import Derived.Test.YthjhkgohninpcaaGreatDoorSParM
import Derived.Deep.LoopGhost
open Array renaming getElem?_eq_some_iff→zr,getElem?_modify→zn
open Bool renaming eq_iff_iff→zo
open Nat renaming le_refl→zx
namespace Go.Proofs.YthjhkgohninpcaaGreatDoor
open Calls renaming quiet_of_same→zs
open Exit renaming inBlock→zl,noGoto→zf
open _root_.Go.Proofs.Tryz renaming prog→zy,underlying64→zw,func146→zu,ntmps146→zt,underlying3→zj,underlying4→zi,underlying9→zh
open Utf8 renaming decode→zz
open Value renaming ownBlock→zq
open World renaming cell?→zv,iterPos→zp,setCell→zm,iter_heap→ze
set_option maxHeartbeats 3000000
set_option maxRecDepth 100000
variable{v:Value}{w:World}
section
open Go.RowKit
abbrev Gl:=Int×Nat
def lV(b:ByteArray)(a:Nat):Int:=if (zz b a).1=65533/\(zz b a).2=1 then -2 else ((zz b a).1:Int)
theorem wL(b:ByteArray)(a:Nat):1<=(zz b a).2/\(zz b a).2<=4:=by
 rw [Lib.decode_N];unfold Lib.decodeN;repeat' split
 all_goals simp
theorem aHj(b:ByteArray)(a:Nat)(c:a<b.size):a+(zz b a).2<=b.size:=by
 rw [Lib.decode_N,<-mP];unfold Lib.decodeN;repeat' split
 all_goals (simp only;omega)
def uM(a:ByteArray):Nat->Nat->List Gl
 |0,_=>[(-1,a.size)]
 |f+1,p=>if p<a.size then (lV a p,p)::uM a f (p+(zz a p).2) else [(-1,a.size)]
theorem aQq(c:ByteArray):∀b a,c.size-a<=b->uM c b a=uM c (c.size-a) a:=by
 intro b;induction b using Nat.strongRecOn with
 |_ b ih=>
  intro a j;by_cases f:a<c.size
  ·obtain ⟨d,rfl⟩ : ∃d,b=d+1:=⟨b-1,by omega⟩;obtain ⟨e,i⟩ : ∃e,c.size-a=e+1:=⟨c.size-a-1,by omega⟩;rw [i];simp only [uM];rw [aJ f,aJ f];have k:=(wL c a).1;rw [ih d (by omega) _ (by omega)];by_cases l:e<d+1
   ·rw [ih e (by omega) _ (by omega)]
   ·omega
  ·have g:c.size-a=0:=by omega
   rw [g];cases b with
   |zero=>rfl
   |succ b=>simp only [uM];rw [aI f]
def cK(b:ByteArray)(a:Nat):List Gl:=uM b (b.size-a) a
theorem tJ{b:ByteArray}{a:Nat}(d:a<b.size):cK b a=(lV b a,a)::cK b (a+(zz b a).2):=by unfold cK;obtain ⟨c,e⟩ : ∃c,b.size-a=c+1:=⟨b.size-a-1,by omega⟩;rw [e];simp only [uM];rw [aJ d,aQq b c _ (by have:=(wL b a).1;omega)]
theorem aD1{a:ByteArray}{b:Nat}(c:¬b<a.size):cK a b=[(-1,a.size)]:=by unfold cK;rw [show a.size-b=0 by omega];rfl
theorem aAc(c:ByteArray):∀b a,c.size-a<=b->1<=(cK c a).length/\(cK c a).length<=b+1:=by
 intro b;induction b using Nat.strongRecOn with
 |_ b ih=>
  intro a e;by_cases d:a<c.size
  ·rw [tJ d];have f:=(wL c a).1;have:=ih (b-1) (by omega) (a+(zz c a).2) (by omega);simp only [List.length_cons];omega
  ·rw [aD1 d];simp
theorem aQr(a:List UInt8)(b:Nat)(c d e:UInt8) : [c,d,e].isPrefixOf (a.drop b)=true↔a[b]?=some c/\a[b+1]?=some d/\a[b+2]?=some e:=by
 have f:(a.drop b)[0]?=a[b]?:=by simp
 have g:(a.drop b)[1]?=a[b+1]?:=by simp
 have i:(a.drop b)[2]?=a[b+2]?:=by simp
 rw [<-f,<-g,<-i];generalize a.drop b=m;match m with
 |[]=>simp
 |[x]=>simp
 |[x,y]=>simp
 |x::y::z::r=>simp;constructor<;>(rintro ⟨rfl,rfl,rfl⟩;exact ⟨rfl,rfl,rfl⟩)
theorem aQs(b:ByteArray)(a:Nat)(c:(zz b a).1=65533):Lib.hasPrefix (b.data.toList.drop a) [239,191,189] = !decide ((zz b a).2=1):=by
 have f:=aQr b.data.toList a 239 191 189;have m:(b.data.toList[a]?=some 239/\b.data.toList[a+1]?=some 191/\b.data.toList[a+2]?=some 189)↔aE b a=239/\aE b (a+1)=191/\aE b (a+2)=189:=by
  have g:∀d (v:UInt8),v.toNat≠0->(b.data.toList[d]?=some v↔aE b d=v.toNat):=by
   intro d v l;rw [mD];cases hq:b.data.toList[d]? with
   |none=>
    simp only [List.getD,hq,Option.getD_none];constructor
    ·intro c;cases c
    ·intro c;exact absurd c.symm l
   |some x=>
    simp only [List.getD,hq,Option.getD_some,Option.some.injEq];exact ⟨λc=>by rw [c],λc=>UInt8.toNat_inj.1 c⟩
  rw [g a 239 (by decide),g (a+1) 191 (by decide),g (a+2) 189 (by decide)];exact Iff.rfl
 rw [m] at f;unfold Lib.hasPrefix;have i:=Lib.decode_N b a;rw [<-mD,<-mD,<-mD,<-mD,<-mP] at i;have n:=tT b a;have o:=tT b (a+1);have p:=tT b (a+2);have k:aE b (a+2)≠0->2<b.size-a:=by
  intro e;by_cases j:a+2<b.size
  ·omega
  ·unfold aE at e;rw [dif_neg j] at e;exact absurd rfl e
 generalize aE b a=x0 at *;generalize aE b (a+1)=x1 at *;generalize aE b (a+2)=x2 at *;generalize aE b (a+3)=x3 at *;rw [i] at c ⊢;unfold Lib.decodeN at c ⊢;cases hx:List.isPrefixOf [239,191,189] (b.data.toList.drop a)
 ·have q:¬(x0=239/\x1=191/\x2=189):=λc=>by rw [f.2 c] at hx;cases hx
  revert c;repeat' split
  all_goals first|(intro c;simp only at c;exfalso;omega)|(intro c;rfl)
 ·obtain ⟨rfl,rfl,rfl⟩:=f.1 hx;have:=k (by decide);revert c;repeat' split
  all_goals first|(intro c;rfl)|(intro c;exfalso;omega)
def nH(b:List Gl):List Value:=b.flatMap λa=>[.int .i32 a.1,.int .i64 a.2]
theorem aHk(b:List Gl)(a:Gl):nH (b++[a])=nH b++[.int .i32 a.1,.int .i64 a.2]:=by simp [nH]
theorem aD2(b:List Gl):∀a (c:a<b.length),(nH b)[a*2]?=some (.int .i32 b[a].1)/\(nH b)[a*2+1]?=some (.int .i64 b[a].2):=by
 induction b with
 |nil=>intro a c;simp at c
 |cons x r ih=>
  intro a c;cases a with
  |zero=>exact ⟨rfl,rfl⟩
  |succ a=>
   have:=ih a (by simpa using c);rw [show nH (x::r)=.int .i32 x.1::.int .i64 x.2::nH r from rfl,show (a+1)*2=a*2+1+1 by omega,show a*2+1+1+1=a*2+1+1+1 from rfl];simpa using this
theorem aQt:(zy.info? 149).map (λa=>(a.zero,a.size,a.bytes))=some (some (.agg #[.int .i32 0,.int .i64 0]),2,16):=by kernel_rfl
end
section
open Go.Shelf Go.Proofs
def aHl:Go.Shelf.Ren:=⟨fun|99=>81|119=>160|137=>159|151=>126|152=>146|206=>121|217=>175|224=>161|225=>162|266=>180|n=>n,fun|0=>0|3=>3|4=>4|5=>5|9=>9|21=>21|46=>211|n=>n,fun|n=>n⟩
theorem aQu:Lays.n99 zy aHl:={
 mixed:=by kernel_rfl
 f99:=Tryz.func81.trans (congrArg some (by kernel_rfl))
 f206:=Tryz.func121.trans (congrArg some (by kernel_rfl))
 t3:=zj
 a3:=Tryz.isAgg3
 z3:=Tryz.sizeOf3
 v3:=Tryz.zeroValue3
 t4:=zi
 a4:=Tryz.isAgg4
 z4:=Tryz.sizeOf4
 v4:=Tryz.zeroValue4
 t9:=zh
 a9:=Tryz.isAgg9
 z9:=Tryz.sizeOf9
 v9:=Tryz.zeroValue9}
theorem aAd:Lays.n151 zy aHl:={
 mixed:=by kernel_rfl
 f119:=Tryz.func160.trans (congrArg some (by kernel_rfl))
 f137:=Tryz.func159.trans (congrArg some (by kernel_rfl))
 f151:=Tryz.func126.trans (congrArg some (by kernel_rfl))
 f152:=zu.trans (congrArg some (by kernel_rfl))
 f217:=Tryz.func175.trans (congrArg some (by kernel_rfl))
 f224:=Tryz.func161.trans (congrArg some (by kernel_rfl))
 f225:=Tryz.func162.trans (congrArg some (by kernel_rfl))
 f266:=Tryz.func180.trans (congrArg some (by kernel_rfl))
 t0:=Tryz.underlying0
 a0:=Tryz.isAgg0
 z0:=Tryz.sizeOf0
 v0:=Tryz.zeroValue0
 t3:=zj
 a3:=Tryz.isAgg3
 z3:=Tryz.sizeOf3
 v3:=Tryz.zeroValue3
 t4:=zi
 a4:=Tryz.isAgg4
 z4:=Tryz.sizeOf4
 v4:=Tryz.zeroValue4
 t5:=Tryz.underlying5
 a5:=Tryz.isAgg5
 z5:=Tryz.sizeOf5
 v5:=Tryz.zeroValue5
 t9:=zh
 a9:=Tryz.isAgg9
 z9:=Tryz.sizeOf9
 v9:=Tryz.zeroValue9
 t21:=Tryz.underlying21
 a21:=Tryz.isAgg21
 z21:=Tryz.sizeOf21
 v21:=Tryz.zeroValue21
 t46:=Tryz.underlying211
 a46:=Tryz.isAgg211
 z46:=Tryz.sizeOf211
 v46:=Tryz.zeroValue211}
end
section
open Go.RowKit Go.Shelf
def rV(a:Int):Bool:=decide (a=124) || decide (a=126) || decide (a=40) || decide (a=41) || decide (a=44) || decide (a=46)
abbrev fC:ByteArray:=⟨#[124,126,40,41,44,46]⟩
theorem aQv(a:Int)(d:0<=a)(g:a<128):decide (0<=Lib.indexByte fC.data.toList a.toNat.toUInt8)=rV a:=by
 obtain ⟨c,rfl⟩:=Int.eq_ofNat_of_zero_le d;have e:c<128:=by omega
 have f:∀b:Fin 128,decide (0<=Lib.indexByte fC.data.toList ((b.1:Int).toNat.toUInt8))=rV (b.1:Int):=by decide
 exact f ⟨c,e⟩
def aD3(a:Int):Prop:=a=-1\/a=-2\/Utf8.valid a=true
theorem aQw(a:Int)(w:World)(g:a<0):Calls zy 146 #[.string fC,.int .i32 a] w λc e=>c=.returned (.int .i64 (-1))/\aC w e:=by
 have i:¬(0:Int)<=a:=by omega
 have k:(a==65533)=false:=by rw [beq_eq_false_iff_ne];omega
 have j:decide (0<=a)=false:=by simp;omega
 have d:Lib.validRune a=false:=by simp [Lib.validRune];omega
 have b:=aA (λf=>Any.utf8_ValidRune {aAd with} a f);rw [d] at b;go_enter zu,zt;go_wp2_with (first
  |(go_at_call 160;refine (aB b _).mono ?_;rintro c l ⟨rfl,rfl⟩)
  |go_in)
 go_ret;exact ⟨rfl,Below.refl _ _⟩
theorem aQx(w:World):Calls zy 146 #[.string fC,.int .i32 65533] w λm q=>m=.returned (.int .i64 (-1))/\aC w q:=by
 go_enter zu,zt;go_wp2;go_loopw [] (λwr=>∃a:Nat,a<=6/\wr.heap[w.heap.size]?=some (.stringIter fC a)/\aC w wr) (λwr=>6-wr.iterPos w.heap.size);case atStart=>exact ⟨0,by omega,by have:=ze w fC 0;simpa using this,(Below.refl _ w).alloc (zx _) _⟩
 case round=>
  obtain ⟨a,s,c,e⟩:=hrel;have i:=aA e;have l:=aA c;by_cases d:a<fC.size
  ·have p:a<6:=d;have n:(fC[a]'d).toNat<128:=by
    have:∀f:Fin 6,(fC[f.1]'(by have:=f.2;show f.1<6;omega)).toNat<128:=by decide
    exact this ⟨a,p⟩
   have o:∀b,(Instr.next (.pointer (some ⟨w.heap.size,0,none⟩)) true b).run zy wr=_:=λb=>Lib.run_next_ascii_at wr w.heap.size fC a b c d n
   have g:=aA (Lib.iterAt_heap wr w.heap.size fC a (a+1) c);have j:=aA (Lib.below_iterAt e (k:=w.heap.size) (zx _) fC (a+1));generalize (fC[a]'d).toNat=cc at *;have r:((cc:Int)==65533)=false:=by rw [beq_eq_false_iff_ne];omega
   clear c e;go_wp2;go_roundw;case rel=>exact ⟨a+1,by omega,g.o,j.o⟩
   case measure=>simp only [zp,l.o,g.o];omega
  ·have o:∀b,(Instr.next (.pointer (some ⟨w.heap.size,0,none⟩)) true b).run zy wr=_:=λb=>Lib.run_next_end_at wr w.heap.size fC a b c d
   clear c e;go_wp2;go_ret;exact ⟨rfl,i.o⟩
theorem aQy(c:UInt8):∀a:List UInt8,(∀b∈a,b≠c)->Lib.indexByte a c=-1:=by
 intro a;induction a with
 |nil=>intro _;rfl
 |cons x r ih=>
  intro d;have e:=ih λb g=>d b (List.mem_cons_of_mem _ g)
  have f:(x==c)=false:=kT (d x (List.mem_cons_self ..));rw [Lib.indexByte,f,e];rfl
theorem aD4(c:Nat)(b:UInt8)(f:128<=b.toNat):Lib.indexByte (fC.extract c 6).data.toList b=-1:=by
 refine aQy b _ λd g e=>?_
 subst e;have a:=mem_extract g;have a:d∈[124,126,40,41,44,46]:=a;simp at a;rcases a with rfl|rfl|rfl|rfl|rfl|rfl<;>simp at f
theorem aQz(c:Int)(w:World)(t:Utf8.valid c=true)(y:128<=c)(z:c≠65533):Calls zy 146 #[.string fC,.int .i32 c] w λd i=>d=.returned (.int .i64 (-1))/\aC w i:=by
 have E:(0:Int)<=c:=by omega
 have F:¬c<128:=by omega
 have G:(c==65533)=false:=by rw [beq_eq_false_iff_ne];exact z
 have A:Lib.validRune c=true:=by rw [<-t,validRune_eq];rfl
 have q:=aA (λb=>Any.utf8_ValidRune {aAd with} c b);rw [A] at q;obtain ⟨C,D,k⟩:=encode_facts c t y;have j:=aA (λ(B:ByteArray) (x:Int) b=>Any.strings_IndexByte {aAd with} B x b);generalize hr:Utf8.encode c=rs at *;rcases (show rs.size=2\/rs.size=3\/rs.size=4 by omega) with hs|hs|hs
 ·have n:128<=(rs[1]'(by omega)).toNat:=by have:=k (by omega);simpa [hs] using this
  have a:1<rs.size:=by omega
  have s:(rs.size:Int)=2:=by omega
  have f:=aD4 2 (rs[1]'a) n;have g:((rs[1]'a).toNat:Int).toNat.toUInt8=(rs[1]'a):=by simp
  have r:(((fC[1]'(by decide)).toNat:Int) != ((rs[1]'a).toNat:Int))=true:=by have:(fC[1]'(by decide)).toNat=126:=rfl;rw [this];simp;omega
  have u:IntKind.i64.wrap 2=2:=by decide
  have l:aG (∀b,Calls zy 159 #[.string (fC.extract 2 6),.int .u8 ((rs[1]'a).toNat:Int)] b λd i=>d=.returned (.int .i64 (-1))/\i=b):=aA λb=>by
   have:=j.o (fC.extract 2 6) ((rs[1]'a).toNat:Int) b;rw [g,f] at this;exact this
  clear g f k j;go_enter zu,zt;go_wp2_with (first
   |(go_at_call 160;refine (aB q _).mono ?_;rintro d p ⟨rfl,rfl⟩)
   |go_in)
  go_step3;go_wp2;go_loopw [9] (λo wr=>o=.int .i64 1/\wr=p) (λ_ _=>0);case atStart=>exact ⟨rfl,rfl⟩
  case round=>
   obtain ⟨rfl,rfl⟩:=hrel;go_wp2;go_step3;go_wp2;go_quiet (fail);go_wp2;have e:aC wr (wr.drewN nq):=aL ⟨_,rfl⟩;have m:=aA e;clear e;generalize wr.drewN nq=wq at *;go_quiet ((go_at_call 159;exact zs (aB l _)));go_wp2;simp +zetaDelta only [zl,Exit.then,zf];go_ret;exact ⟨rfl,aV m.o (aL ⟨_,rfl⟩)⟩
 ·have n:128<=(rs[2]'(by omega)).toNat:=by have:=k (by omega);simpa [hs] using this
  have a:2<rs.size:=by omega
  have s:(rs.size:Int)=3:=by omega
  have f:=aD4 3 (rs[2]'a) n;have g:((rs[2]'a).toNat:Int).toNat.toUInt8=(rs[2]'a):=by simp
  have r:(((fC[2]'(by decide)).toNat:Int) != ((rs[2]'a).toNat:Int))=true:=by have:(fC[2]'(by decide)).toNat=40:=rfl;rw [this];simp;omega
  have u:IntKind.i64.wrap 3=3:=by decide
  have l:aG (∀b,Calls zy 159 #[.string (fC.extract 3 6),.int .u8 ((rs[2]'a).toNat:Int)] b λd i=>d=.returned (.int .i64 (-1))/\i=b):=aA λb=>by
   have:=j.o (fC.extract 3 6) ((rs[2]'a).toNat:Int) b;rw [g,f] at this;exact this
  clear g f k j;go_enter zu,zt;go_wp2_with (first
   |(go_at_call 160;refine (aB q _).mono ?_;rintro d p ⟨rfl,rfl⟩)
   |go_in)
  go_step3;go_wp2;go_loopw [9] (λo wr=>o=.int .i64 2/\wr=p) (λ_ _=>0);case atStart=>exact ⟨rfl,rfl⟩
  case round=>
   obtain ⟨rfl,rfl⟩:=hrel;go_wp2;go_step3;go_wp2;go_quiet (fail);go_wp2;have e:aC wr (wr.drewN nq):=aL ⟨_,rfl⟩;have m:=aA e;clear e;generalize wr.drewN nq=wq at *;go_quiet ((go_at_call 159;exact zs (aB l _)));go_wp2;simp +zetaDelta only [zl,Exit.then,zf];go_ret;exact ⟨rfl,aV m.o (aL ⟨_,rfl⟩)⟩
 ·have n:128<=(rs[3]'(by omega)).toNat:=by have:=k (by omega);simpa [hs] using this
  have a:3<rs.size:=by omega
  have s:(rs.size:Int)=4:=by omega
  have f:=aD4 4 (rs[3]'a) n;have g:((rs[3]'a).toNat:Int).toNat.toUInt8=(rs[3]'a):=by simp
  have r:(((fC[3]'(by decide)).toNat:Int) != ((rs[3]'a).toNat:Int))=true:=by have:(fC[3]'(by decide)).toNat=41:=rfl;rw [this];simp;omega
  have u:IntKind.i64.wrap 4=4:=by decide
  have l:aG (∀b,Calls zy 159 #[.string (fC.extract 4 6),.int .u8 ((rs[3]'a).toNat:Int)] b λd i=>d=.returned (.int .i64 (-1))/\i=b):=aA λb=>by
   have:=j.o (fC.extract 4 6) ((rs[3]'a).toNat:Int) b;rw [g,f] at this;exact this
  clear g f k j;go_enter zu,zt;go_wp2_with (first
   |(go_at_call 160;refine (aB q _).mono ?_;rintro d p ⟨rfl,rfl⟩)
   |go_in)
  go_step3;go_wp2;go_loopw [9] (λo wr=>o=.int .i64 3/\wr=p) (λ_ _=>0);case atStart=>exact ⟨rfl,rfl⟩
  case round=>
   obtain ⟨rfl,rfl⟩:=hrel;go_wp2;go_step3;go_wp2;go_quiet (fail);go_wp2;have e:aC wr (wr.drewN nq):=aL ⟨_,rfl⟩;have m:=aA e;clear e;generalize wr.drewN nq=wq at *;go_quiet ((go_at_call 159;exact zs (aB l _)));go_wp2;simp +zetaDelta only [zl,Exit.then,zf];go_ret;exact ⟨rfl,aV m.o (aL ⟨_,rfl⟩)⟩
theorem aHm(a:Int)(w:World)(h:aD3 a):Calls zy 88 #[.int .i32 a] w λb c=>b=.returned (.bool (rV a))/\aC w c:=by
 have g:Calls zy 126 #[.string fC,.int .i32 a] w λb c=>b=.returned (.bool (rV a))/\aC w c:=by
  by_cases d:0<=a/\a<128
  ·refine (Any.strings_ContainsRune_ascii aAd fC a w d.1 d.2).mono ?_;rintro b c ⟨rfl,rfl⟩;exact ⟨by rw [aQv a d.1 d.2],Below.refl _ _⟩
  ·have j:rV a=false:=by
    unfold rV;simp only [Bool.or_eq_false_iff,decide_eq_false_iff_not];omega
   have i:Calls zy 146 #[.string fC,.int .i32 a] w λb c=>b=.returned (.int .i64 (-1))/\aC w c:=by
    by_cases k:a<0
    ·exact aQw a w k
    ·by_cases f:a=65533
     ·subst f;exact aQx w
     ·refine aQz a w ?_ (by omega) f;rcases h with h|h|h
      ·omega
      ·omega
      ·exact h
   rw [j];go_enter Tryz.func126,Tryz.ntmps126;go_wp2_with (go_at_call 146;refine i.mono ?_;rintro b l ⟨rfl,e⟩);go_ret;exact ⟨rfl,e⟩
 go_enter Tryz.func88,Tryz.ntmps88;go_wp2_with (go_at_call 126;refine g.mono ?_;rintro b l ⟨rfl,e⟩);go_ret;exact ⟨rfl,e⟩
theorem aR0(b:ByteArray)(a:Nat):aD3 (lV b a):=by
 unfold lV;split
 ·exact Or.inr (Or.inl rfl)
 ·right;right;rw [validRune_eq];unfold validRune;rw [decide_eq_true_eq,Lib.decode_N];unfold Lib.decodeN;repeat' split
  all_goals (simp only;omega)
theorem aAe(c:Int)(d:Int):∀b∈[Value.int .i32 c,Value.int .i64 d],b.oneCell'=true:=by intro b a;simp at a;rcases a with rfl|rfl<;>rfl
theorem aHn{b:Nat}{c:TypeId}{i:Nat}{f:Nat}{j:List Value}(n:w.ownsRow b c i v f j){e x:Nat}{g:ByteArray}(r:w.heap[e]?=some (.stringIter g x))(y:Nat):(w.iterAt e g y).ownsRow b c i v f j:=by
 obtain ⟨d,⟨rfl,o⟩|⟨m,k,l,rfl,p,a,q,s,u,t⟩⟩:=n
 ·exact ⟨d,Or.inl ⟨rfl,o⟩⟩
 ·refine ⟨d,Or.inr ⟨m,k,l,rfl,p,?_,q,s,u,t⟩⟩;rw [Lib.iterAt_other _ _ _ _ _ (by rintro rfl;rw [r] at a;cases a)];exact a
theorem aR1{c:Nat}{f:TypeId}{i:Nat}{b:Nat}{j:List Value}(g:w.ownsRow c f i v (b+1) j):∃a d,v=.slice (some ⟨a,0,none⟩) (b+1) d:=by
 obtain ⟨_,⟨rfl,l⟩|⟨a,e,k,rfl,_⟩⟩:=g
 ·omega
 ·exact ⟨a,e,rfl⟩
structure yF(w:World)(s:ByteArray)(it:Nat)(v:Value)(pos:Nat)(G:List Gl)(wr:World):Prop where
 le:pos<=s.size
 iter:wr.heap[it]?=some (.stringIter s pos)
 row:wr.ownsRow w.heap.size 149 2 v G.length (nH G)
 low:aC w wr
 high:w.heap.size<=it
 few:G.length<=pos
 eq:G++cK s pos=cK s 0
theorem yF.next{b:ByteArray}{d:Nat}{a:Nat}{f:List Gl}{wr:World}(c:yF w b d v a f wr)(m:a<b.size){v':Value}{w1:World}{X:Obj}(q:w1.ownsRow w.heap.size 149 2 v' (f.length+1) (nH f++[.int .i32 (lV b a),.int .i64 a]))(j:((wr.iterAt d b (a+(zz b a).2)).alloc X).grownBy w1 v.ownBlock):yF w b d v' (a+(zz b a).2) (f++[(lV b a,a)]) w1:=by
 have u:=(wL b a).1;have g:=Lib.iterAt_heap wr d b a (a+(zz b a).2) c.iter;have p:=(zr.1 g).1;have n:=aHn c.row c.iter (a+(zz b a).2);have i:=Lib.below_iterAt c.low c.high b (a+(zz b a).2);refine ⟨aHj b a m,?_,by rw [aHk,List.length_append];exact q,?_,c.high,by have:=c.few;simp;omega,?_⟩
 ·rw [j.block d (by simp;omega) ?_]
  ·have o:=(Below.refl _ (wr.iterAt d b (a+(zz b a).2))).alloc (zx _) X;rw [o.block d p];exact g
  ·intro e;obtain ⟨_,⟨rfl,_⟩|⟨t,r,s,rfl,_,l,_⟩⟩:=n
   ·simp [zq] at e
   ·simp [zq] at e;subst e;rw [g] at l;cases l
 ·exact (i.alloc i.size X).grown j (by have:=i.size;simp;omega) (λk e=>(bL n k e).1)
 ·rw [List.append_assoc,<-c.eq,tJ m];rfl
theorem aR2(a:ByteArray)(w:World)(c4:a.size<=3000):Calls zy 49 #[.string a] w λk a5=>∃S R,k=.returned (.slice (some ⟨S,0,none⟩) (cK a 0).length R)/\a5.ownsRow w.heap.size 149 2 (.slice (some ⟨S,0,none⟩) (cK a 0).length R) (cK a 0).length (nH (cK a 0))/\aC w a5:=by
 obtain ⟨t,n,o,p,q⟩:=info_parts aQt;go_enter Tryz.func49,Tryz.ntmps49;go_wp2_with (first
  |(at_make;refine wpList_make_own _ rfl _ _ 64 rfl w.heap.size 149 t (.agg #[.int .i32 0,.int .i64 0]) 2 zw n o p .i64 .i64 _ (a.size+1) rfl rfl (by simp) (by rw [q];omega) (by unfold maxLen;omega) (zx _) ?_;intro f Y U;have P:=aA Y;have C:aG (aC w f):=aA ((Below.refl _ w).grown U (zx _) (λa2 k=>by cases k));clear Y U)
  |go_in)
 have a0:=C.o.size;have N:aG (yF w a f.heap.size (.slice (some ⟨w.heap.size,0,none⟩) 0 (a.size+1)) 0 [] (f.iter a 0)):=aA ⟨Nat.zero_le _,by have:=ze f a 0;simpa using this,P.o.alloc _,C.o.alloc a0 _,a0,zx _,rfl⟩;clear P C;generalize f.heap.size=it at *;go_loopw [3] (λv wr=>∃(b:Nat) (x:List Gl),yF w a it v b x wr) (λ_ wr=>a.size-wr.iterPos it);case atStart=>exact ⟨0,[],N.o⟩
 case round=>
  clear N;obtain ⟨b,x,d⟩:=hrel;have O:=aA d;have l:=d.iter;have b9:=d.few;have c0:=d.le;have c1:=d.low.size;by_cases B:b<a.size
  ·have X:∀m,(Instr.next (.pointer (some ⟨it,0,none⟩)) true m).run zy wr=_:=λm=>Lib.run_next_any_at wr it a b m l B
   have V:=Lib.iterAt_heap wr it a b (b+(zz a b).2) l;have E:=aA l;have a7:=aA V;have z:=aA (aHn d.row l (b+(zz a b).2));have a1:(wr.iterAt it a (b+(zz a b).2)).heap.size=wr.heap.size:=Lib.iterAt_size _ _ _ _;have y:=aA (λ(b4:Value) (f:World) (a9:Obj) ho hg=>O.o.next B (v':=b4) (w1:=f) (X:=a9) ho hg);obtain ⟨b5,b6,rfl⟩:=aW d.row;have c3:(0:Int)<=(b:Int):=by omega
   have c2:(b:Int)<=(a.size:Int):=by omega
   have b2:=(wL a b).1;obtain ⟨j,r⟩ : ∃j,(zz a b).2=j:=⟨_,rfl⟩;obtain ⟨i,A⟩ : ∃i,(zz a b).1=i:=⟨_,rfl⟩;have I:=aQs a b;have D:aG (lV a b=if i=65533/\j=1 then -2 else (i:Int)):=aA (by unfold lV;rw [A,r]);rw [r,A] at X;rw [r] at V a7 z a1 y b2;rw [r,A] at I;generalize lV a b=gc at *;clear l d O r A;have c5:w.heap.size<=(wr.iterAt it a (b+j)).heap.size:=by omega
   clear a1;generalize hW:wr.iterAt it a (b+j)=W at *;by_cases T:i=65533
   ·subst T;have Z:Lib.hasPrefix (a.extract b a.size).data.toList [239,191,189] = !decide (j=1):=by
     have:=I rfl;rw [<-this];congr 1
     exact Lib.extract_to_end a b
    have u:=aA (λb7=>Any.strings_HasPrefix aQu (a.extract b a.size) ⟨#[239,191,189]⟩ b7);rw [show (⟨#[239,191,189]⟩ : ByteArray).data.toList=[239,191,189] from rfl,Z] at u;clear Z I;by_cases H:j=1
    ·subst H;have s:gc=-2:=by rw [D.o,aJ ⟨rfl,rfl⟩]
     subst s;go_wp2_with (first
      |(go_at_call 81;refine (aB u _).mono ?_;rintro k f ⟨rfl,rfl⟩)
      |(at_builtin;refine wpList_append_own _ rfl (.tmp 25) (.tmp 29) 64 rfl w.heap.size 149 t (.agg #[.int .i32 0,.int .i64 0]) 2 16 zw n o p q rfl (by decide) _ _ _ rfl (z.o.alloc _) ⟨_,0,none⟩ 1 1 [.int .i32 (-2),.int .i64 b] rfl rfl (fS f _ _ _ _ rfl) (aAe _ _) (by unfold maxLen;omega) (by omega) (by simp;omega) ?_;intro J L c e _;have g:=aA (y.o _ _ _ c e);obtain ⟨a3,a4,rfl⟩:=aW c;clear c e)
      |go_in)
     go_roundw;case rel=>exact ⟨_,_,g.o⟩
     case measure=>simp only [zp,E.o,g.o.iter];omega
    ·have s:gc=((65533:Nat):Int):=by rw [D.o,aI (λG=>H G.2)]
     subst s;rw [dE H] at u;go_wp2_with (first
      |(go_at_call 81;refine (aB u _).mono ?_;rintro k f ⟨rfl,rfl⟩)
      |(at_builtin;refine wpList_append_own _ rfl (.tmp 25) (.tmp 29) 64 rfl w.heap.size 149 t (.agg #[.int .i32 0,.int .i64 0]) 2 16 zw n o p q rfl (by decide) _ _ _ rfl (z.o.alloc _) ⟨_,0,none⟩ 1 1 [.int .i32 65533,.int .i64 b] rfl rfl (fS f _ _ _ _ rfl) (aAe _ _) (by unfold maxLen;omega) (by omega) (by simp;omega) ?_;intro J L c e _;have g:=aA (y.o _ _ _ c e);obtain ⟨a3,a4,rfl⟩:=aW c;clear c e)
      |go_in)
     go_roundw;case rel=>exact ⟨_,_,g.o⟩
     case measure=>simp only [zp,E.o,g.o.iter];omega
   ·have b8:((i:Int)==65533)=false:=by rw [beq_eq_false_iff_ne];omega
    have s:gc=(i:Int):=by rw [D.o,aI (λG=>T G.1)]
    subst s;go_wp2_with (first
     |(at_builtin;refine wpList_append_own _ rfl (.tmp 25) (.tmp 29) 64 rfl w.heap.size 149 t (.agg #[.int .i32 0,.int .i64 0]) 2 16 zw n o p q rfl (by decide) _ _ _ rfl (z.o.alloc _) ⟨_,0,none⟩ 1 1 [.int .i32 i,.int .i64 b] rfl rfl (fS W _ _ _ _ rfl) (aAe _ _) (by unfold maxLen;omega) (by omega) (by simp;omega) ?_;intro J L c e _;have g:=aA (y.o _ _ _ c e);obtain ⟨a3,a4,rfl⟩:=aW c;clear c e)
     |go_in)
    go_roundw;case rel=>exact ⟨_,_,g.o⟩
    case measure=>simp only [zp,E.o,g.o.iter];omega
  ·have X:∀m,(Instr.next (.pointer (some ⟨it,0,none⟩)) true m).run zy wr=_:=λm=>Lib.run_next_end_at wr it a b m l B
   obtain ⟨b5,b6,rfl⟩:=aW d.row;have Q:=aA d.row;have F:=aA d.low;have M:aG (cK a 0=x++[(-1,a.size)]):=aA (by rw [<-d.eq,aD1 B]);clear d l;go_wp2_with (first
    |(at_builtin;refine wpList_append_own _ rfl (.tmp 31) (.tmp 35) 64 rfl w.heap.size 149 t (.agg #[.int .i32 0,.int .i64 0]) 2 16 zw n o p q rfl (by decide) _ _ _ rfl (Q.o.alloc _) ⟨_,0,none⟩ 1 1 [.int .i32 (-1),.int .i64 a.size] rfl rfl (fS wr _ _ _ _ rfl) (aAe _ _) (by unfold maxLen;omega) (by omega) (by simp;omega) ?_;intro J L c e _;have a8:=aA c;have a6:=aA e;obtain ⟨b1,b0,rfl⟩:=aR1 c;clear c e)
    |go_in)
   go_ret;have b3:(cK a 0).length=x.length+1:=by rw [M.o];simp
   rw [b3,M.o,aHk];exact ⟨b1,b0,rfl,a8.o,(F.o.alloc F.o.size _).grown a6.o (by have:=F.o.size;simp;omega) (λa2 k=>(bL Q.o a2 k).1)⟩
end
section
open Go.RowKit
def aX(b:ByteArray)(a:Nat):Int:=if a<b.size then lV b a else -1
def iP(b:ByteArray)(a:Nat):Nat:=(zz b a).2
theorem mM(b:ByteArray)(a:Nat)(d:a<b.size)(c:aE b a<128):aX b a=aE b a/\iP b a=1:=by unfold aX iP lV;rw [aJ d,Lib.decode_N,<-mD];unfold Lib.decodeN;rw [aJ c];simp only;rw [aI (by omega)];refine ⟨?_,?_⟩<;>first|rfl|trivial
theorem yG(b:ByteArray)(a:Nat)(c:a<b.size)(d:128<=aE b a):aX b a=-2\/128<=aX b a:=by
 unfold aX lV;rw [aJ c,Lib.decode_N,<-mD];have e:=tT b a;unfold Lib.decodeN;simp only [aI (show ¬aE b a<128 by omega)];repeat' split
 all_goals first|exact Or.inl rfl|(right;simp only at *;omega)
theorem fM(b:ByteArray)(a:Nat)(d:a<b.size)(c:Nat)(g:c<128):aX b a=(c:Int)↔aE b a=c:=by
 by_cases f:aE b a<128
 ·rw [(mM b a d f).1];omega
 ·rcases yG b a d (by omega) with e|e
  ·rw [e];omega
  ·omega
theorem oR(b:ByteArray)(a:Nat)(c:¬a<b.size):aX b a=-1:=aI c
theorem aAf(b:ByteArray)(a:Nat)(c:a<b.size):aX b a≠-1:=by
 by_cases d:aE b a<128
 ·rw [(mM b a c d).1];omega
 ·rcases yG b a c (by omega) with e|e
  ·rw [e];omega
  ·omega
theorem yH(b:ByteArray)(a:Nat):1<=iP b a:=(wL b a).1
theorem yI(b:ByteArray)(a:Nat)(c:a<b.size):a+iP b a<=b.size:=aHj b a c
theorem aD5(b:ByteArray)(a:Nat):aD3 (aX b a):=by
 unfold aX;split
 ·exact aR0 b a
 ·exact Or.inl rfl
theorem aR3(b:ByteArray)(a c:Nat)(g:a<b.size)(e:0<c)(f:c<iP b a):128<=aE b (a+c):=by
 have d:=aB8 b a g;unfold iP at f;unfold sH at d;by_cases i:(zz b a).1=65533/\(zz b a).2=1
 ·omega
 ·rw [aI i] at d;exact aJl b a c (by omega) e (by omega)
theorem aD6(b:ByteArray)(a:Nat)(e:a<=b.size):∃d,cK b a=(aX b a,a)::d:=by
 by_cases c:a<b.size
 ·exact ⟨_,by rw [tJ c];unfold aX;rw [aJ c]⟩
 ·have:a=b.size:=by omega
  subst this;exact ⟨[],by rw [aD1 c];unfold aX;rw [aI c]⟩
def bV(w:World)(c:Nat)(left:Value)(b a:Int)(g:ByteArray)(d f e:Value):Prop:=w.heap[c]?=some (.cells #[left,.int .i32 b,.int .i64 a,.string g,d,f,e] 70)
section
variable {w:World}{pb:Nat}{left:Value}{k a:Int}{wd:ByteArray}{vC vP vM:Value}
theorem bV.c0(b:bV w pb left k a wd vC vP vM):w.cell? ⟨pb,0,none⟩=some left:=by unfold bV at b;simp [zv,b]
theorem bV.c1(b:bV w pb left k a wd vC vP vM):w.cell? ⟨pb,1,none⟩=some (.int .i32 k):=by unfold bV at b;simp [zv,b]
theorem bV.c2(b:bV w pb left k a wd vC vP vM):w.cell? ⟨pb,2,none⟩=some (.int .i64 a):=by unfold bV at b;simp [zv,b]
theorem bV.c3(b:bV w pb left k a wd vC vP vM):w.cell? ⟨pb,3,none⟩=some (.string wd):=by unfold bV at b;simp [zv,b]
theorem bV.c4(b:bV w pb left k a wd vC vP vM):w.cell? ⟨pb,4,none⟩=some vC:=by unfold bV at b;simp [zv,b]
theorem bV.c5(b:bV w pb left k a wd vC vP vM):w.cell? ⟨pb,5,none⟩=some vP:=by unfold bV at b;simp [zv,b]
theorem bV.c6(b:bV w pb left k a wd vC vP vM):w.cell? ⟨pb,6,none⟩=some vM:=by unfold bV at b;simp [zv,b]
theorem bV.soft(b:bV w pb left k a wd vC vP vM)(c:Nat):w.frozen? ⟨pb,c,none⟩=false:=by unfold bV at b;simp [World.frozen?,b]
theorem bV.lt(b:bV w pb left k a wd vC vP vM):pb<w.heap.size:=(zr.1 b).1
theorem bV.below(b:bV w pb left k a wd vC vP vM){w':World}{B:Nat}(c:Below B w w')(d:w.heap.size<=B):bV w' pb left k a wd vC vP vM:=by have:=b.lt;unfold bV;rw [c.block pb (by omega)];exact b
theorem bV.set0(b:bV w pb left k a wd vC vP vM)(v:Value):bV (w.setCell ⟨pb,0,none⟩ v) pb v k a wd vC vP vM:=heap_setCell_same w pb 0 _ _ _ b
theorem bV.row(e:bV w pb left k a wd vC vP vM){B:Nat}{b:TypeId}{j:Nat}{v:Value}{i:Nat}{m:List Value}(f:w.ownsRow B b j v i m)(n:b≠70)(o:Nat)(l:Value):(w.setCell ⟨pb,o,none⟩ l).ownsRow B b j v i m:=by
 refine ownsRow_setCell_other f ?_ l;intro d;obtain ⟨_,⟨rfl,_⟩|⟨g,cap,p,rfl,q,c,_⟩⟩:=f
 ·simp [zq] at d
 ·simp [zq] at d;subst d;unfold bV at e;rw [e] at c;simp at c;exact n c.2.symm
end
structure bQ(B:Nat)(w:World)(pb:Nat)(s:ByteArray)(p g j m c:Nat)(k a:Int)(wd:ByteArray)(vC vP vM:Value):Prop where
 box:bV w pb (.slice (some ⟨g,j*2,none⟩) (m+1) (c+1)) k a wd vC vP vM
 high:B<=pb
 row:w.ownsRow B 149 2 (.slice (some ⟨g,0,none⟩) (j+m+1) (j+c+1)) (j+m+1) (nH (cK s 0))
 len:(cK s 0).length=j+m+1
 drop:(cK s 0).drop j=cK s p
 le:p<=s.size
section
variable {B:Nat}{w w':World}{pb:Nat}{s:ByteArray}{p g j m c:Nat}{k a:Int}{wd:ByteArray}{vC vP vM:Value}
theorem bQ.below(b:bQ B w pb s p g j m c k a wd vC vP vM)(d:aC w w'):bQ B w' pb s p g j m c k a wd vC vP vM:=
 ⟨b.box.below d (zx _),b.high,bB b.row d (zx _),b.len,b.drop,b.le⟩
theorem bQ.at0(b:bQ B w pb s p g j m c k a wd vC vP vM):w.cell? ⟨g,j*2,none⟩=some (.int .i32 (aX s p))/\w.cell? ⟨g,j*2+1,none⟩=some (.int .i64 p):=by
 obtain ⟨o,n⟩:=aD6 s p b.le;have l:j<(cK s 0).length:=by have:=b.len;omega
 have i:(cK s 0)[j]=(aX s p,p):=by
  have d:((cK s 0).drop j)[0]?=some (aX s p,p):=by rw [b.drop,n];rfl
  rw [List.getElem?_drop,List.getElem?_eq_getElem (by omega)] at d;simpa using d
 obtain ⟨e,f⟩:=aD2 (cK s 0) j l;rw [i] at e f;exact ⟨by rw [b.row.cellAt _ (by omega),e],by rw [b.row.cellAt _ (by omega),f]⟩
theorem bQ.more(d:bQ B w pb s p g j m c k a wd vC vP vM)(l:p<s.size):∃n f,m=n+1/\c=f+1:=by
 have x:=d.len;have i:=congrArg List.length d.drop;rw [List.length_drop,tJ l,List.length_cons] at i;have t:=(aAc s _ (p+(zz s p).2) (zx _)).1;have e:=d.row.2;obtain ⟨_,e⟩:=d.row;rcases e with ⟨b,_⟩|⟨r,o,q,b,_,_,u,_⟩
 ·simp at b
 ·simp at b;obtain ⟨_,rfl⟩:=b;exact ⟨m-1,c-1,by omega,by omega⟩
theorem bQ.step(b:bQ B w pb s p g j (m+1) (c+1) k a wd vC vP vM)(e:p<s.size):bQ B (w.setCell ⟨pb,0,none⟩ (.slice (some ⟨g,j*2+2,none⟩) (m+1) (c+1))) pb s (p+iP s p) g (j+1) m c k a wd vC vP vM:=by
 rw [show j*2+2=(j+1)*2 by omega];refine ⟨b.box.set0 _,b.high,?_,by have:=b.len;omega,?_,yI s p e⟩
 ·have:=b.box.row b.row (by decide) 0 (.slice (some ⟨g,(j+1)*2,none⟩) (m+1) (c+1));rw [show j+1+m+1=j+(m+1)+1 by omega,show j+1+c+1=j+(c+1)+1 by omega];exact this
 ·have d:=b.drop;rw [tJ e] at d;have:(cK s 0).drop (j+1)=((cK s 0).drop j).drop 1:=by rw [List.drop_drop]
  rw [this,d];rfl
end
theorem aD7{c:World}(b:aC w c){a:Addr}(l:a.block<w.heap.size)(f:Value):Below (w.setCell a f).heap.size (w.setCell a f) (c.setCell a f):=by
 refine ⟨b.os,b.tape,b.output,by have:=b.size;simpa [zm] using this,λe j=>?_⟩;have k:e<w.heap.size:=by simpa [zm] using j
 have g:=b.block e k;by_cases d:e=a.block
 ·subst d;have m:a.block<c.heap.size:=Nat.lt_of_lt_of_le l b.size;have i:c.heap[a.block]?=w.heap[a.block]?:=g;simp only [zm];rw [zn,zn];simp [i]
 ·rw [Below.heap_setCell _ _ _ _ d,Below.heap_setCell _ _ _ _ d,g]
theorem aR4{b:ByteArray}{a:Nat}(d:a<b.size)(f:aX b a≠10):gK b a=gK b (a+iP b a):=by
 have i:aE b a≠10:=λe=>f ((fM b a d 10 (by omega)).2 e)
 have j:∀c,1<=c->c<=iP b a->gK b a=gK b (a+c):=by
  intro c k;induction c with
  |zero=>omega
  |succ c ih=>
   intro l;by_cases g:c=0
   ·subst g;exact aBa d i
   ·rw [ih (by omega) (by omega)];have m:=yI b a d;exact aBa (by omega) (by have:=aR3 b a c d (by omega) (by omega);omega)
 exact j _ (yH b a) (zx _)
def gF(b a:Int)(c:ByteArray):Value:=.agg #[.int .i32 b,.int .i64 a,.string c]
section
variable {B:Nat}{pb:Nat}{s:ByteArray}{p g j m c:Nat}{k a:Int}{wd:ByteArray}{vC vP vM:Value}
theorem wM(d:bQ B w pb s p g j m c k a wd vC vP vM):Calls zy 89 #[.pointer (some ⟨pb,0,none⟩)] w λf i=>f=.returned (gF (-2) p ⟨#[]⟩)/\aC w i:=by
 have e:=d.box.c0;have l:∀b,(w.alloc b).cell? ⟨pb,0,none⟩=some (.slice (some ⟨g,j*2,none⟩) (m+1) (c+1)):=λb=>aD ((Below.refl _ w).alloc (zx _) b) e
 have n:∀b,(w.alloc b).cell? ⟨g,j*2+1,none⟩=some (.int .i64 p):=λb=>aD ((Below.refl _ w).alloc (zx _) b) d.at0.2
 clear d e;go_enter Tryz.func89,Tryz.ntmps89;go_wp2;go_returns;exact ⟨rfl,(Below.refl _ w).alloc (zx _) _⟩
theorem aR5(o:bQ B w pb s p g j m c k a wd vC vP vM):Calls zy 123 #[.pointer (some ⟨pb,0,none⟩)] w λG A=>G=.returned (.tuple #[])/\w.grownBy A (some pb)/\∃f n i,bQ B A pb s (gK s p) g f n i k a wd vC vP vM:=by
 have Q:=o.le;go_enter Tryz.func123,Tryz.ntmps123;go_wp2;go_loopg [] (s.size-p) (λM wr=>∃b f n i,bQ B wr pb s b g f n i k a wd vC vP vM/\gK s p=gK s b/\M=s.size-b/\w.grownBy wr (some pb));case atStart=>exact ⟨p,j,m,c,o,rfl,rfl,World.grownBy.refl _ _⟩
 case round=>
  obtain ⟨b,f,n,i,d,l,T,r⟩:=hrel;have N:=d.box.c0;have O:=d.box.soft 0;have z:=d.at0.1;have y:=aA d;have C:=aA l;have t:=aA r;have R:=d.le;by_cases q:aX s b=10
  ·have e:b<s.size:=Classical.byContradiction λH=>by rw [oR s b H] at q;omega
   have u:aG (gK s p=b):=aA (by rw [l];exact aBb λx=>x.2 ((fM s b e 10 (by omega)).1 q));rw [q] at z;clear d l r o;go_wp2;go_returns;exact ⟨rfl,t.o,f,n,i,by rw [u.o];exact y.o⟩
  ·by_cases e:b<s.size
   ·have J:=aAf s b e;obtain ⟨L,F,rfl,rfl⟩:=d.more e;have E:=aA (d.step e);have D:=aA (aR4 e q);have U:=yH s b;have V:=yI s b e;generalize aX s b=cc at *;have P:(cc != 10)=true:=by simpa using q
    have S:(cc != -1)=true:=by simpa using J
    clear d l r o;go_wp2;go_roundg (s.size-(b+iP s b));case measure=>omega
    case rel=>exact ⟨b+iP s b,f+1,L,F,E.o,by rw [C.o,D.o],rfl,rB t.o _⟩
   ·have I:=oR s b e;rw [I] at z;have u:aG (gK s p=b):=aA (by rw [l];exact aBb λx=>e x.1);clear d l r o;go_wp2;go_returns;exact ⟨rfl,t.o,f,n,i,by rw [u.o];exact y.o⟩
theorem aR6(b:Int)(w:World):Calls zy 122 #[.int .i32 b] w λf i=>f=.returned (.bool (decide (b=32) || decide (b=9) || decide (b=10)))/\i=w:=by
 go_enter Tryz.func122,Tryz.ntmps122;by_cases d:b=32
 ·subst d;go_wp2;go_ret;exact ⟨rfl,rfl⟩
 ·have l:(b==32)=false:=by simpa using d
  by_cases e:b=9
  ·subst e;go_wp2;go_ret;exact ⟨rfl,rfl⟩
  ·have n:(b==9)=false:=by simpa using e
   go_wp2;go_ret;exact ⟨bM (by simp [d,e];rfl),rfl⟩
def mN(s:ByteArray):Nat->Nat->Nat
 |0,p=>p
 |f+1,p=>if p<s.size then if jO (aE s p) then mN s f (p+1) else if aE s p=37 then mN s f (gK s p) else p else p
theorem aR7(s:ByteArray):∀b p,s.size<p+b->p<=s.size->sJ s b p=(if mN s b p<s.size then eZ s (mN s b p) else .stop s.size)/\mN s b p<=s.size/\(mN s b p<s.size->jO (aE s (mN s b p))=false/\aE s (mN s b p)≠37):=by
 intro b;induction b with
 |zero=>intro p n i;omega
 |succ b ih=>
  intro p n i;rw [sJ,mN];by_cases d:p<s.size
  ·rw [aJ d,aJ d];by_cases f:jO (aE s p)=true
   ·rw [aJ f,aJ f];exact ih (p+1) (by omega) (by omega)
   ·rw [aI f,aI f];by_cases e:aE s p=37
    ·rw [aJ e,aJ e];have:=yW d e;exact ih _ (by omega) (aBc i)
    ·rw [aI e,aI e,aJ d];exact ⟨rfl,i,λ_=>⟨by simpa using f,e⟩⟩
  ·rw [aI d,aI d,aI d];have:p=s.size:=by omega
   exact ⟨by rw [this],i,λl=>absurd l d⟩
theorem aR8(D:Nat)(x:bQ B w pb s p g j m c k a wd vC vP vM)(V:s.size<p+D):Calls zy 82 #[.pointer (some ⟨pb,0,none⟩)] w λl Q=>l=.returned (.tuple #[])/\w.grownBy Q (some pb)/\∃o u r,bQ B Q pb s (mN s D p) g o u r k a wd vC vP vM:=by
 go_enter Tryz.func82,Tryz.ntmps82;go_wp2;go_loopg [] D (λq wr=>∃b o u r,bQ B wr pb s b g o u r k a wd vC vP vM/\mN s D p=mN s q b/\s.size<b+q/\w.grownBy wr (some pb));case atStart=>exact ⟨p,j,m,c,x,rfl,V,World.grownBy.refl _ _⟩
 case round=>
  obtain ⟨b,o,u,r,e,d,a7,A⟩:=hrel;have a6:=e.le;obtain ⟨q,rfl⟩ : ∃q,gk=q+1:=⟨gk-1,by omega⟩;have a3:=e.box.c0;have a4:=e.box.soft 0;have N:=e.at0.1;have G:=aA e;have C:=aA A;have i:=aA (λa2=>aR6 (aX s b) a2);rw [mN] at d;by_cases f:b<s.size
  ·rw [aJ f] at d;have E:(decide (aX s b=32) || decide (aX s b=9) || decide (aX s b=10))=jO (aE s b):=by
    unfold jO;have I:=fM s b f 32 (by omega);have J:=fM s b f 9 (by omega);have L:=fM s b f 10 (by omega);have I:(aX s b=32)=(aE s b=32):=propext I;have J:(aX s b=9)=(aE s b=9):=propext J;have L:(aX s b=10)=(aE s b=10):=propext L;simp only [I,J,L]
   rw [E] at i;have y:=fM s b f 37 (by omega);by_cases t:jO (aE s b)=true
   ·rw [aJ t] at d;rw [t] at i;obtain ⟨a1,U,rfl,rfl⟩:=e.more f;have X:aE s b<128:=by unfold jO at t;simp at t;omega
    have M:=aA (e.step f);rw [(mM s b f X).2] at M;have n:=aA d;clear e d A x E y;go_wp2_with (go_at_call 122;refine (aB i _).mono ?_;rintro l F ⟨rfl,rfl⟩);go_roundg q;case measure=>omega
    case rel=>exact ⟨b+1,o+1,a1,U,M.o,n.o,by omega,rB C.o _⟩
   ·rw [aI t] at d;have W:jO (aE s b)=false:=by simpa using t
    rw [W] at i;by_cases z:aE s b=37
    ·rw [aJ z] at d;have H:=y.2 z;rw [H] at N;have a5:=yW f z;have n:=aA d;clear e d A x E y;go_wp2_with (first
      |(go_at_call 122;rw [H] at i;refine (aB i _).mono ?_;rintro l F ⟨rfl,rfl⟩)
      |(go_at_call 123;refine (aR5 G.o).mono ?_;rintro l F ⟨rfl,P,Z,a0,T,O⟩;have R:=aA P;have S:=aA O;clear P O))
     go_roundg q;case measure=>omega
     case rel=>exact ⟨gK s b,Z,a0,T,S.o,n.o,by omega,C.o.trans R.o⟩
    ·rw [aI z] at d;have Y:aX s b≠37:=λl=>z (y.1 l)
     have n:=aA d;generalize aX s b=cc at *;have H:(cc==37)=false:=by simpa using Y
     clear e d A x E y;go_wp2_with (go_at_call 122;refine (aB i _).mono ?_;rintro l F ⟨rfl,rfl⟩);go_returns;exact ⟨rfl,C.o,o,u,r,by rw [n.o];exact G.o⟩
  ·rw [aI f] at d;have n:=aA d;rw [oR s b f] at N i;clear e d A x;go_wp2_with (go_at_call 122;refine (aB i _).mono ?_;rintro l F ⟨rfl,rfl⟩);go_returns;exact ⟨rfl,C.o,o,u,r,by rw [n.o];exact G.o⟩
end
theorem aHo(a:Int)(w:World):Calls zy 83 #[.int .i32 a] w λb c=>b=.returned (.bool (eB a))/\c=w:=by
 unfold eB;by_cases d:97<=a;all_goals
  go_enter Tryz.func83,Tryz.ntmps83;go_wp2;go_ret;exact ⟨bM (by rw [zo];simp;omega),rfl⟩
theorem aHp(a:Int)(w:World):Calls zy 85 #[.int .i32 a] w λb c=>b=.returned (.bool (dS a))/\c=w:=by
 unfold dS;by_cases d:65<=a;all_goals
  go_enter Tryz.func85,Tryz.ntmps85;go_wp2;go_ret;exact ⟨bM (by rw [zo];simp;omega),rfl⟩
theorem aR9(a:Int)(w:World):Calls zy 145 #[.int .i32 a] w λb c=>b=.returned (.bool (qG a))/\c=w:=by
 unfold qG;by_cases d:48<=a;all_goals
  go_enter Tryz.func145,Tryz.ntmps145;go_wp2;go_ret;exact ⟨bM (by rw [zo];simp;omega),rfl⟩
theorem aRa(c:Int)(w:World):Calls zy 124 #[.int .i32 c] w λa w'=>a=.returned (.bool (gT c))/\w'=w:=by
 have d:=aHo c w;have e:=aHp c w;have f:=aR9 c w;have b:aG (gT c=(eB c || dS c || qG c || c==95)):=rfl;generalize eB c=b1 at *;generalize dS c=b2 at *;generalize qG c=b3 at *;go_enter Tryz.func124,Tryz.ntmps124;cases b1<;>cases b2<;>cases b3;all_goals
  go_wp2_with (first
   |(go_at_call 83;refine d.mono ?_;rintro a w' ⟨rfl,rfl⟩)
   |(go_at_call 85;refine e.mono ?_;rintro a w' ⟨rfl,rfl⟩)
   |(go_at_call 145;refine f.mono ?_;rintro a w' ⟨rfl,rfl⟩))
  go_ret;exact ⟨bM (by rw [b.o];simp),rfl⟩
def oS(a:Int):Bool:=decide (a=39) || decide (a=92)
theorem aRb(a:Int)(w:World):Calls zy 125 #[.int .i32 a] w λd f=>d=.returned (.bool (oS a))/\f=w:=by
 by_cases b:a=39
 ·have e:(a==39)=true:=by simp [b]
  have c:=aA (show oS a=true by simp [oS,b]);clear b;go_enter Tryz.func125,Tryz.ntmps125;go_wp2;go_ret;exact ⟨bM c.o.symm,rfl⟩
 ·have e:(a==39)=false:=by simp [b]
  have c:=aA (show oS a=(a==92) by simp [oS,b];rfl);clear b;go_enter Tryz.func125,Tryz.ntmps125;go_wp2;go_ret;exact ⟨bM c.o.symm,rfl⟩
end
