import Derived.Test.YtmelidkanelpbaaGreatDoorNameEqH
import Derived.Test.YtmelidkanelpbaaGreatDoorRPrim0H
import Derived.Test.YtmelidkanelpbaaGreatDoorShelfRH
import Derived.Lib.OthersKept
import Derived.Laws.Runes
import Derived.Shelf.Small.Utf8
import Derived.Shelf.Small.Strs
import Derived.Deep.RegionWith
import Derived.WalkMore
import Derived.OwnWalk
import Derived.Lib.IndexBytes
import Derived.Deep.LoopGhost
open Array renaming getElem?_eq_some_iff→zr,getElem?_modify→zn
open Bool renaming eq_iff_iff→zo
open Nat renaming le_refl→zx
namespace Go.Proofs.YtmelidkanelpbaaGreatDoor
open Calls renaming quiet_of_same→zt
open Exit renaming inBlock→zl,noGoto→zi
open _root_.Go.Proofs.Tryz renaming prog→zy,underlying59→zw,ntmps108→zu,func108→zs
open Utf8 renaming decode→zz
open Value renaming ownBlock→zq
open World renaming cell?→zv,iterPos→zp,setCell→zm,iter_heap→zh
open Go.RowKit Go.Shelf
set_option maxHeartbeats 3000000
set_option maxRecDepth 100000
variable{v:Value}{w:World}
abbrev Gl:=Int×Nat
def lR(b:ByteArray)(a:Nat):Int:=if (zz b a).1=65533/\(zz b a).2=1 then -2 else ((zz b a).1:Int)
theorem vT(b:ByteArray)(a:Nat):1<=(zz b a).2/\(zz b a).2<=4:=by
 rw [Lib.decode_N];unfold Lib.decodeN;repeat' split
 all_goals simp
theorem aHp(b:ByteArray)(a:Nat)(c:a<b.size):a+(zz b a).2<=b.size:=by
 rw [Lib.decode_N,<-mX];unfold Lib.decodeN;repeat' split
 all_goals (simp only;omega)
def uG(a:ByteArray):Nat->Nat->List Gl
 |0,_=>[(-1,a.size)]
 |f+1,p=>if p<a.size then (lR a p,p)::uG a f (p+(zz a p).2) else [(-1,a.size)]
theorem aRb(c:ByteArray):∀b a,c.size-a<=b->uG c b a=uG c (c.size-a) a:=by
 intro b;induction b using Nat.strongRecOn with
 |_ b ih=>
  intro a j;by_cases f:a<c.size
  ·obtain ⟨d,rfl⟩ : ∃d,b=d+1:=⟨b-1,by omega⟩;obtain ⟨e,i⟩ : ∃e,c.size-a=e+1:=⟨c.size-a-1,by omega⟩;rw [i];simp only [uG];rw [aH f,aH f];have k:=(vT c a).1;rw [ih d (by omega) _ (by omega)];by_cases l:e<d+1
   ·rw [ih e (by omega) _ (by omega)]
   ·omega
  ·have g:c.size-a=0:=by omega
   rw [g];cases b with
   |zero=>rfl
   |succ b=>simp only [uG];rw [aI f]
def bZ(b:ByteArray)(a:Nat):List Gl:=uG b (b.size-a) a
theorem sV{b:ByteArray}{a:Nat}(d:a<b.size):bZ b a=(lR b a,a)::bZ b (a+(zz b a).2):=by unfold bZ;obtain ⟨c,e⟩ : ∃c,b.size-a=c+1:=⟨b.size-a-1,by omega⟩;rw [e];simp only [uG];rw [aH d,aRb b c _ (by have:=(vT b a).1;omega)]
theorem aCq{a:ByteArray}{b:Nat}(c:¬b<a.size):bZ a b=[(-1,a.size)]:=by unfold bZ;rw [show a.size-b=0 by omega];rfl
theorem aA9(c:ByteArray):∀b a,c.size-a<=b->1<=(bZ c a).length/\(bZ c a).length<=b+1:=by
 intro b;induction b using Nat.strongRecOn with
 |_ b ih=>
  intro a e;by_cases d:a<c.size
  ·rw [sV d];have f:=(vT c a).1;have:=ih (b-1) (by omega) (a+(zz c a).2) (by omega);simp only [List.length_cons];omega
  ·rw [aCq d];simp
theorem aRc(a:List UInt8)(b:Nat)(c d e:UInt8) : [c,d,e].isPrefixOf (a.drop b)=true↔a[b]?=some c/\a[b+1]?=some d/\a[b+2]?=some e:=by
 have f:(a.drop b)[0]?=a[b]?:=by simp
 have g:(a.drop b)[1]?=a[b+1]?:=by simp
 have i:(a.drop b)[2]?=a[b+2]?:=by simp
 rw [<-f,<-g,<-i];generalize a.drop b=m;match m with
 |[]=>simp
 |[x]=>simp
 |[x,y]=>simp
 |x::y::z::r=>simp;constructor<;>(rintro ⟨rfl,rfl,rfl⟩;exact ⟨rfl,rfl,rfl⟩)
theorem aRd(b:ByteArray)(a:Nat)(c:(zz b a).1=65533):Lib.hasPrefix (b.data.toList.drop a) [239,191,189] = !decide ((zz b a).2=1):=by
 have f:=aRc b.data.toList a 239 191 189;have m:(b.data.toList[a]?=some 239/\b.data.toList[a+1]?=some 191/\b.data.toList[a+2]?=some 189)↔aF b a=239/\aF b (a+1)=191/\aF b (a+2)=189:=by
  have g:∀d (v:UInt8),v.toNat≠0->(b.data.toList[d]?=some v↔aF b d=v.toNat):=by
   intro d v l;rw [lU];cases hq:b.data.toList[d]? with
   |none=>
    simp only [List.getD,hq,Option.getD_none];constructor
    ·intro c;cases c
    ·intro c;exact absurd c.symm l
   |some x=>
    simp only [List.getD,hq,Option.getD_some,Option.some.injEq];exact ⟨λc=>by rw [c],λc=>UInt8.toNat_inj.1 c⟩
  rw [g a 239 (by decide),g (a+1) 191 (by decide),g (a+2) 189 (by decide)];exact Iff.rfl
 rw [m] at f;unfold Lib.hasPrefix;have i:=Lib.decode_N b a;rw [<-lU,<-lU,<-lU,<-lU,<-mX] at i;have n:=tD b a;have o:=tD b (a+1);have p:=tD b (a+2);have k:aF b (a+2)≠0->2<b.size-a:=by
  intro e;by_cases j:a+2<b.size
  ·omega
  ·unfold aF at e;rw [dif_neg j] at e;exact absurd rfl e
 generalize aF b a=x0 at *;generalize aF b (a+1)=x1 at *;generalize aF b (a+2)=x2 at *;generalize aF b (a+3)=x3 at *;rw [i] at c ⊢;unfold Lib.decodeN at c ⊢;cases hx:List.isPrefixOf [239,191,189] (b.data.toList.drop a)
 ·have q:¬(x0=239/\x1=191/\x2=189):=λc=>by rw [f.2 c] at hx;cases hx
  revert c;repeat' split
  all_goals first|(intro c;simp only at c;exfalso;omega)|(intro c;rfl)
 ·obtain ⟨rfl,rfl,rfl⟩:=f.1 hx;have:=k (by decide);revert c;repeat' split
  all_goals first|(intro c;rfl)|(intro c;exfalso;omega)
def nI(b:List Gl):List Value:=b.flatMap λa=>[.int .i32 a.1,.int .i64 a.2]
theorem aHq(b:List Gl)(a:Gl):nI (b++[a])=nI b++[.int .i32 a.1,.int .i64 a.2]:=by simp [nI]
theorem aCr(b:List Gl):∀a (c:a<b.length),(nI b)[a*2]?=some (.int .i32 b[a].1)/\(nI b)[a*2+1]?=some (.int .i64 b[a].2):=by
 induction b with
 |nil=>intro a c;simp at c
 |cons x r ih=>
  intro a c;cases a with
  |zero=>exact ⟨rfl,rfl⟩
  |succ a=>
   have:=ih a (by simpa using c);rw [show nI (x::r)=.int .i32 x.1::.int .i64 x.2::nI r from rfl,show (a+1)*2=a*2+1+1 by omega,show a*2+1+1+1=a*2+1+1+1 from rfl];simpa using this
theorem aRe:(zy.info? 120).map (λa=>(a.zero,a.size,a.bytes))=some (some (.agg #[.int .i32 0,.int .i64 0]),2,16):=by kernel_rfl
def rK(a:Int):Bool:=decide (a=124) || decide (a=126) || decide (a=40) || decide (a=41) || decide (a=44) || decide (a=46)
abbrev eN:ByteArray:=⟨#[124,126,40,41,44,46]⟩
theorem aRf(a:Int)(d:0<=a)(g:a<128):decide (0<=Lib.indexByte eN.data.toList a.toNat.toUInt8)=rK a:=by
 obtain ⟨c,rfl⟩:=Int.eq_ofNat_of_zero_le d;have e:c<128:=by omega
 have f:∀b:Fin 128,decide (0<=Lib.indexByte eN.data.toList ((b.1:Int).toNat.toUInt8))=rK (b.1:Int):=by decide
 exact f ⟨c,e⟩
def aCs(a:Int):Prop:=a=-1\/a=-2\/Utf8.valid a=true
theorem aRg(a:Int)(w:World)(g:a<0):Calls zy 108 #[.string eN,.int .i32 a] w λc e=>c=.returned (.int .i64 (-1))/\aB w e:=by
 have i:¬(0:Int)<=a:=by omega
 have k:(a==65533)=false:=by rw [beq_eq_false_iff_ne];omega
 have j:decide (0<=a)=false:=by simp;omega
 have d:Lib.validRune a=false:=by simp [Lib.validRune];omega
 have b:=aA (λf=>Any.utf8_ValidRune {aBd with} a f);rw [d] at b;go_enter zs,zu;go_wp2_with (first
  |(go_at_call 124;refine (aD b _).mono ?_;rintro c l ⟨rfl,rfl⟩)
  |go_in)
 go_ret;exact ⟨rfl,Below.refl _ _⟩
theorem aRh(w:World):Calls zy 108 #[.string eN,.int .i32 65533] w λm q=>m=.returned (.int .i64 (-1))/\aB w q:=by
 go_enter zs,zu;go_wp2;go_loopw [] (λwr=>∃a:Nat,a<=6/\wr.heap[w.heap.size]?=some (.stringIter eN a)/\aB w wr) (λwr=>6-wr.iterPos w.heap.size);case atStart=>exact ⟨0,by omega,by have:=zh w eN 0;simpa using this,(Below.refl _ w).alloc (zx _) _⟩
 case round=>
  obtain ⟨a,s,c,e⟩:=hrel;have i:=aA e;have l:=aA c;by_cases d:a<eN.size
  ·have p:a<6:=d;have n:(eN[a]'d).toNat<128:=by
    have:∀f:Fin 6,(eN[f.1]'(by have:=f.2;show f.1<6;omega)).toNat<128:=by decide
    exact this ⟨a,p⟩
   have o:∀b,(Instr.next (.pointer (some ⟨w.heap.size,0,none⟩)) true b).run zy wr=_:=λb=>Lib.run_next_ascii_at wr w.heap.size eN a b c d n
   have g:=aA (Lib.iterAt_heap wr w.heap.size eN a (a+1) c);have j:=aA (Lib.below_iterAt e (k:=w.heap.size) (zx _) eN (a+1));generalize (eN[a]'d).toNat=cc at *;have r:((cc:Int)==65533)=false:=by rw [beq_eq_false_iff_ne];omega
   clear c e;go_wp2;go_roundw;case rel=>exact ⟨a+1,by omega,g.o,j.o⟩
   case measure=>simp only [zp,l.o,g.o];omega
  ·have o:∀b,(Instr.next (.pointer (some ⟨w.heap.size,0,none⟩)) true b).run zy wr=_:=λb=>Lib.run_next_end_at wr w.heap.size eN a b c d
   clear c e;go_wp2;go_ret;exact ⟨rfl,i.o⟩
theorem aRi(c:UInt8):∀a:List UInt8,(∀b∈a,b≠c)->Lib.indexByte a c=-1:=by
 intro a;induction a with
 |nil=>intro _;rfl
 |cons x r ih=>
  intro d;have e:=ih λb g=>d b (List.mem_cons_of_mem _ g)
  have f:(x==c)=false:=zW (d x (List.mem_cons_self ..));rw [Lib.indexByte,f,e];rfl
theorem aCt(c:Nat)(b:UInt8)(f:128<=b.toNat):Lib.indexByte (eN.extract c 6).data.toList b=-1:=by
 refine aRi b _ λd g e=>?_
 subst e;have a:=mem_extract g;have a:d∈[124,126,40,41,44,46]:=a;simp at a;rcases a with rfl|rfl|rfl|rfl|rfl|rfl<;>simp at f
theorem aRj(c:Int)(w:World)(t:Utf8.valid c=true)(y:128<=c)(z:c≠65533):Calls zy 108 #[.string eN,.int .i32 c] w λd i=>d=.returned (.int .i64 (-1))/\aB w i:=by
 have E:(0:Int)<=c:=by omega
 have F:¬c<128:=by omega
 have G:(c==65533)=false:=by rw [beq_eq_false_iff_ne];exact z
 have A:Lib.validRune c=true:=by rw [<-t,validRune_eq];rfl
 have q:=aA (λb=>Any.utf8_ValidRune {aBd with} c b);rw [A] at q;obtain ⟨C,D,k⟩:=encode_facts c t y;have j:=aA (λ(B:ByteArray) (x:Int) b=>Any.strings_IndexByte {aBd with} B x b);generalize hr:Utf8.encode c=rs at *;rcases (show rs.size=2\/rs.size=3\/rs.size=4 by omega) with hs|hs|hs
 ·have n:128<=(rs[1]'(by omega)).toNat:=by have:=k (by omega);simpa [hs] using this
  have a:1<rs.size:=by omega
  have s:(rs.size:Int)=2:=by omega
  have f:=aCt 2 (rs[1]'a) n;have g:((rs[1]'a).toNat:Int).toNat.toUInt8=(rs[1]'a):=by simp
  have r:(((eN[1]'(by decide)).toNat:Int) != ((rs[1]'a).toNat:Int))=true:=by have:(eN[1]'(by decide)).toNat=126:=rfl;rw [this];simp;omega
  have u:IntKind.i64.wrap 2=2:=by decide
  have l:aM (∀b,Calls zy 123 #[.string (eN.extract 2 6),.int .u8 ((rs[1]'a).toNat:Int)] b λd i=>d=.returned (.int .i64 (-1))/\i=b):=aA λb=>by
   have:=j.o (eN.extract 2 6) ((rs[1]'a).toNat:Int) b;rw [g,f] at this;exact this
  clear g f k j;go_enter zs,zu;go_wp2_with (first
   |(go_at_call 124;refine (aD q _).mono ?_;rintro d p ⟨rfl,rfl⟩)
   |go_in)
  go_step3;go_wp2;go_loopw [9] (λo wr=>o=.int .i64 1/\wr=p) (λ_ _=>0);case atStart=>exact ⟨rfl,rfl⟩
  case round=>
   obtain ⟨rfl,rfl⟩:=hrel;go_wp2;go_step3;go_wp2;go_quiet (fail);go_wp2;have e:aB wr (wr.drewN nq):=aU ⟨_,rfl⟩;have m:=aA e;clear e;generalize wr.drewN nq=wq at *;go_quiet ((go_at_call 123;exact zt (aD l _)));go_wp2;simp +zetaDelta only [zl,Exit.then,zi];go_ret;exact ⟨rfl,bK m.o (aU ⟨_,rfl⟩)⟩
 ·have n:128<=(rs[2]'(by omega)).toNat:=by have:=k (by omega);simpa [hs] using this
  have a:2<rs.size:=by omega
  have s:(rs.size:Int)=3:=by omega
  have f:=aCt 3 (rs[2]'a) n;have g:((rs[2]'a).toNat:Int).toNat.toUInt8=(rs[2]'a):=by simp
  have r:(((eN[2]'(by decide)).toNat:Int) != ((rs[2]'a).toNat:Int))=true:=by have:(eN[2]'(by decide)).toNat=40:=rfl;rw [this];simp;omega
  have u:IntKind.i64.wrap 3=3:=by decide
  have l:aM (∀b,Calls zy 123 #[.string (eN.extract 3 6),.int .u8 ((rs[2]'a).toNat:Int)] b λd i=>d=.returned (.int .i64 (-1))/\i=b):=aA λb=>by
   have:=j.o (eN.extract 3 6) ((rs[2]'a).toNat:Int) b;rw [g,f] at this;exact this
  clear g f k j;go_enter zs,zu;go_wp2_with (first
   |(go_at_call 124;refine (aD q _).mono ?_;rintro d p ⟨rfl,rfl⟩)
   |go_in)
  go_step3;go_wp2;go_loopw [9] (λo wr=>o=.int .i64 2/\wr=p) (λ_ _=>0);case atStart=>exact ⟨rfl,rfl⟩
  case round=>
   obtain ⟨rfl,rfl⟩:=hrel;go_wp2;go_step3;go_wp2;go_quiet (fail);go_wp2;have e:aB wr (wr.drewN nq):=aU ⟨_,rfl⟩;have m:=aA e;clear e;generalize wr.drewN nq=wq at *;go_quiet ((go_at_call 123;exact zt (aD l _)));go_wp2;simp +zetaDelta only [zl,Exit.then,zi];go_ret;exact ⟨rfl,bK m.o (aU ⟨_,rfl⟩)⟩
 ·have n:128<=(rs[3]'(by omega)).toNat:=by have:=k (by omega);simpa [hs] using this
  have a:3<rs.size:=by omega
  have s:(rs.size:Int)=4:=by omega
  have f:=aCt 4 (rs[3]'a) n;have g:((rs[3]'a).toNat:Int).toNat.toUInt8=(rs[3]'a):=by simp
  have r:(((eN[3]'(by decide)).toNat:Int) != ((rs[3]'a).toNat:Int))=true:=by have:(eN[3]'(by decide)).toNat=41:=rfl;rw [this];simp;omega
  have u:IntKind.i64.wrap 4=4:=by decide
  have l:aM (∀b,Calls zy 123 #[.string (eN.extract 4 6),.int .u8 ((rs[3]'a).toNat:Int)] b λd i=>d=.returned (.int .i64 (-1))/\i=b):=aA λb=>by
   have:=j.o (eN.extract 4 6) ((rs[3]'a).toNat:Int) b;rw [g,f] at this;exact this
  clear g f k j;go_enter zs,zu;go_wp2_with (first
   |(go_at_call 124;refine (aD q _).mono ?_;rintro d p ⟨rfl,rfl⟩)
   |go_in)
  go_step3;go_wp2;go_loopw [9] (λo wr=>o=.int .i64 3/\wr=p) (λ_ _=>0);case atStart=>exact ⟨rfl,rfl⟩
  case round=>
   obtain ⟨rfl,rfl⟩:=hrel;go_wp2;go_step3;go_wp2;go_quiet (fail);go_wp2;have e:aB wr (wr.drewN nq):=aU ⟨_,rfl⟩;have m:=aA e;clear e;generalize wr.drewN nq=wq at *;go_quiet ((go_at_call 123;exact zt (aD l _)));go_wp2;simp +zetaDelta only [zl,Exit.then,zi];go_ret;exact ⟨rfl,bK m.o (aU ⟨_,rfl⟩)⟩
theorem aHr(a:Int)(w:World)(h:aCs a):Calls zy 63 #[.int .i32 a] w λb c=>b=.returned (.bool (rK a))/\aB w c:=by
 have g:Calls zy 90 #[.string eN,.int .i32 a] w λb c=>b=.returned (.bool (rK a))/\aB w c:=by
  by_cases d:0<=a/\a<128
  ·refine (Any.strings_ContainsRune_ascii aBd eN a w d.1 d.2).mono ?_;rintro b c ⟨rfl,rfl⟩;exact ⟨by rw [aRf a d.1 d.2],Below.refl _ _⟩
  ·have j:rK a=false:=by
    unfold rK;simp only [Bool.or_eq_false_iff,decide_eq_false_iff_not];omega
   have i:Calls zy 108 #[.string eN,.int .i32 a] w λb c=>b=.returned (.int .i64 (-1))/\aB w c:=by
    by_cases k:a<0
    ·exact aRg a w k
    ·by_cases f:a=65533
     ·subst f;exact aRh w
     ·refine aRj a w ?_ (by omega) f;rcases h with h|h|h
      ·omega
      ·omega
      ·exact h
   rw [j];go_enter Tryz.func90,Tryz.ntmps90;go_wp2_with (go_at_call 108;refine i.mono ?_;rintro b l ⟨rfl,e⟩);go_ret;exact ⟨rfl,e⟩
 go_enter Tryz.func63,Tryz.ntmps63;go_wp2_with (go_at_call 90;refine g.mono ?_;rintro b l ⟨rfl,e⟩);go_ret;exact ⟨rfl,e⟩
theorem aRk(b:ByteArray)(a:Nat):aCs (lR b a):=by
 unfold lR;split
 ·exact Or.inr (Or.inl rfl)
 ·right;right;rw [validRune_eq];unfold validRune;rw [decide_eq_true_eq,Lib.decode_N];unfold Lib.decodeN;repeat' split
  all_goals (simp only;omega)
theorem aAa(c:Int)(d:Int):∀b∈[Value.int .i32 c,Value.int .i64 d],b.oneCell'=true:=by intro b a;simp at a;rcases a with rfl|rfl<;>rfl
theorem aHs{b:Nat}{c:TypeId}{i:Nat}{f:Nat}{j:List Value}(n:w.ownsRow b c i v f j){e x:Nat}{g:ByteArray}(r:w.heap[e]?=some (.stringIter g x))(y:Nat):(w.iterAt e g y).ownsRow b c i v f j:=by
 obtain ⟨d,⟨rfl,o⟩|⟨m,k,l,rfl,p,a,q,s,u,t⟩⟩:=n
 ·exact ⟨d,Or.inl ⟨rfl,o⟩⟩
 ·refine ⟨d,Or.inr ⟨m,k,l,rfl,p,?_,q,s,u,t⟩⟩;rw [Lib.iterAt_other _ _ _ _ _ (by rintro rfl;rw [r] at a;cases a)];exact a
theorem aRl{c:Nat}{f:TypeId}{i:Nat}{b:Nat}{j:List Value}(g:w.ownsRow c f i v (b+1) j):∃a d,v=.slice (some ⟨a,0,none⟩) (b+1) d:=by
 obtain ⟨_,⟨rfl,l⟩|⟨a,e,k,rfl,_⟩⟩:=g
 ·omega
 ·exact ⟨a,e,rfl⟩
structure xZ(w:World)(s:ByteArray)(it:Nat)(v:Value)(pos:Nat)(G:List Gl)(wr:World):Prop where
 le:pos<=s.size
 iter:wr.heap[it]?=some (.stringIter s pos)
 row:wr.ownsRow w.heap.size 120 2 v G.length (nI G)
 low:aB w wr
 high:w.heap.size<=it
 few:G.length<=pos
 eq:G++bZ s pos=bZ s 0
theorem xZ.next{b:ByteArray}{d:Nat}{a:Nat}{f:List Gl}{wr:World}(c:xZ w b d v a f wr)(m:a<b.size){v':Value}{w1:World}{X:Obj}(q:w1.ownsRow w.heap.size 120 2 v' (f.length+1) (nI f++[.int .i32 (lR b a),.int .i64 a]))(j:((wr.iterAt d b (a+(zz b a).2)).alloc X).grownBy w1 v.ownBlock):xZ w b d v' (a+(zz b a).2) (f++[(lR b a,a)]) w1:=by
 have u:=(vT b a).1;have g:=Lib.iterAt_heap wr d b a (a+(zz b a).2) c.iter;have p:=(zr.1 g).1;have n:=aHs c.row c.iter (a+(zz b a).2);have i:=Lib.below_iterAt c.low c.high b (a+(zz b a).2);refine ⟨aHp b a m,?_,by rw [aHq,List.length_append];exact q,?_,c.high,by have:=c.few;simp;omega,?_⟩
 ·rw [j.block d (by simp;omega) ?_]
  ·have o:=(Below.refl _ (wr.iterAt d b (a+(zz b a).2))).alloc (zx _) X;rw [o.block d p];exact g
  ·intro e;obtain ⟨_,⟨rfl,_⟩|⟨t,r,s,rfl,_,l,_⟩⟩:=n
   ·simp [zq] at e
   ·simp [zq] at e;subst e;rw [g] at l;cases l
 ·exact (i.alloc i.size X).grown j (by have:=i.size;simp;omega) (λk e=>(cU n k e).1)
 ·rw [List.append_assoc,<-c.eq,sV m];rfl
theorem aRm(a:ByteArray)(w:World)(c4:a.size<=3000):Calls zy 38 #[.string a] w λk a5=>∃S R,k=.returned (.slice (some ⟨S,0,none⟩) (bZ a 0).length R)/\a5.ownsRow w.heap.size 120 2 (.slice (some ⟨S,0,none⟩) (bZ a 0).length R) (bZ a 0).length (nI (bZ a 0))/\aB w a5:=by
 obtain ⟨t,n,o,p,q⟩:=info_parts aRe;go_enter Tryz.func38,Tryz.ntmps38;go_wp2_with (first
  |(at_make;refine wpList_make_own _ rfl _ _ 59 rfl w.heap.size 120 t (.agg #[.int .i32 0,.int .i64 0]) 2 zw n o p .i64 .i64 _ (a.size+1) rfl rfl (by simp) (by rw [q];omega) (by unfold maxLen;omega) (zx _) ?_;intro f Y U;have P:=aA Y;have C:aM (aB w f):=aA ((Below.refl _ w).grown U (zx _) (λa2 k=>by cases k));clear Y U)
  |go_in)
 have a0:=C.o.size;have N:aM (xZ w a f.heap.size (.slice (some ⟨w.heap.size,0,none⟩) 0 (a.size+1)) 0 [] (f.iter a 0)):=aA ⟨Nat.zero_le _,by have:=zh f a 0;simpa using this,P.o.alloc _,C.o.alloc a0 _,a0,zx _,rfl⟩;clear P C;generalize f.heap.size=it at *;go_loopw [3] (λv wr=>∃(b:Nat) (x:List Gl),xZ w a it v b x wr) (λ_ wr=>a.size-wr.iterPos it);case atStart=>exact ⟨0,[],N.o⟩
 case round=>
  clear N;obtain ⟨b,x,d⟩:=hrel;have O:=aA d;have l:=d.iter;have b9:=d.few;have c0:=d.le;have c1:=d.low.size;by_cases B:b<a.size
  ·have X:∀m,(Instr.next (.pointer (some ⟨it,0,none⟩)) true m).run zy wr=_:=λm=>Lib.run_next_any_at wr it a b m l B
   have V:=Lib.iterAt_heap wr it a b (b+(zz a b).2) l;have E:=aA l;have a7:=aA V;have z:=aA (aHs d.row l (b+(zz a b).2));have a1:(wr.iterAt it a (b+(zz a b).2)).heap.size=wr.heap.size:=Lib.iterAt_size _ _ _ _;have y:=aA (λ(b4:Value) (f:World) (a9:Obj) ho hg=>O.o.next B (v':=b4) (w1:=f) (X:=a9) ho hg);obtain ⟨b5,b6,rfl⟩:=bA d.row;have c3:(0:Int)<=(b:Int):=by omega
   have c2:(b:Int)<=(a.size:Int):=by omega
   have b2:=(vT a b).1;obtain ⟨j,r⟩ : ∃j,(zz a b).2=j:=⟨_,rfl⟩;obtain ⟨i,A⟩ : ∃i,(zz a b).1=i:=⟨_,rfl⟩;have I:=aRd a b;have D:aM (lR a b=if i=65533/\j=1 then -2 else (i:Int)):=aA (by unfold lR;rw [A,r]);rw [r,A] at X;rw [r] at V a7 z a1 y b2;rw [r,A] at I;generalize lR a b=gc at *;clear l d O r A;have c5:w.heap.size<=(wr.iterAt it a (b+j)).heap.size:=by omega
   clear a1;generalize hW:wr.iterAt it a (b+j)=W at *;by_cases T:i=65533
   ·subst T;have Z:Lib.hasPrefix (a.extract b a.size).data.toList [239,191,189] = !decide (j=1):=by
     have:=I rfl;rw [<-this];congr 1
     exact Lib.extract_to_end a b
    have u:=aA (λb7=>Any.strings_HasPrefix aZx (a.extract b a.size) ⟨#[239,191,189]⟩ b7);rw [show (⟨#[239,191,189]⟩ : ByteArray).data.toList=[239,191,189] from rfl,Z] at u;clear Z I;by_cases H:j=1
    ·subst H;have s:gc=-2:=by rw [D.o,aH ⟨rfl,rfl⟩]
     subst s;go_wp2_with (first
      |(go_at_call 56;refine (aD u _).mono ?_;rintro k f ⟨rfl,rfl⟩)
      |(at_builtin;refine wpList_append_own _ rfl (.tmp 25) (.tmp 29) 59 rfl w.heap.size 120 t (.agg #[.int .i32 0,.int .i64 0]) 2 16 zw n o p q rfl (by decide) _ _ _ rfl (z.o.alloc _) ⟨_,0,none⟩ 1 1 [.int .i32 (-2),.int .i64 b] rfl rfl (kZ f _ _ _ _ rfl) (aAa _ _) (by unfold maxLen;omega) (by omega) (by simp;omega) ?_;intro J L c e _;have g:=aA (y.o _ _ _ c e);obtain ⟨a3,a4,rfl⟩:=bA c;clear c e)
      |go_in)
     go_roundw;case rel=>exact ⟨_,_,g.o⟩
     case measure=>simp only [zp,E.o,g.o.iter];omega
    ·have s:gc=((65533:Nat):Int):=by rw [D.o,aI (λG=>H G.2)]
     subst s;rw [gB H] at u;go_wp2_with (first
      |(go_at_call 56;refine (aD u _).mono ?_;rintro k f ⟨rfl,rfl⟩)
      |(at_builtin;refine wpList_append_own _ rfl (.tmp 25) (.tmp 29) 59 rfl w.heap.size 120 t (.agg #[.int .i32 0,.int .i64 0]) 2 16 zw n o p q rfl (by decide) _ _ _ rfl (z.o.alloc _) ⟨_,0,none⟩ 1 1 [.int .i32 65533,.int .i64 b] rfl rfl (kZ f _ _ _ _ rfl) (aAa _ _) (by unfold maxLen;omega) (by omega) (by simp;omega) ?_;intro J L c e _;have g:=aA (y.o _ _ _ c e);obtain ⟨a3,a4,rfl⟩:=bA c;clear c e)
      |go_in)
     go_roundw;case rel=>exact ⟨_,_,g.o⟩
     case measure=>simp only [zp,E.o,g.o.iter];omega
   ·have b8:((i:Int)==65533)=false:=by rw [beq_eq_false_iff_ne];omega
    have s:gc=(i:Int):=by rw [D.o,aI (λG=>T G.1)]
    subst s;go_wp2_with (first
     |(at_builtin;refine wpList_append_own _ rfl (.tmp 25) (.tmp 29) 59 rfl w.heap.size 120 t (.agg #[.int .i32 0,.int .i64 0]) 2 16 zw n o p q rfl (by decide) _ _ _ rfl (z.o.alloc _) ⟨_,0,none⟩ 1 1 [.int .i32 i,.int .i64 b] rfl rfl (kZ W _ _ _ _ rfl) (aAa _ _) (by unfold maxLen;omega) (by omega) (by simp;omega) ?_;intro J L c e _;have g:=aA (y.o _ _ _ c e);obtain ⟨a3,a4,rfl⟩:=bA c;clear c e)
     |go_in)
    go_roundw;case rel=>exact ⟨_,_,g.o⟩
    case measure=>simp only [zp,E.o,g.o.iter];omega
  ·have X:∀m,(Instr.next (.pointer (some ⟨it,0,none⟩)) true m).run zy wr=_:=λm=>Lib.run_next_end_at wr it a b m l B
   obtain ⟨b5,b6,rfl⟩:=bA d.row;have Q:=aA d.row;have F:=aA d.low;have M:aM (bZ a 0=x++[(-1,a.size)]):=aA (by rw [<-d.eq,aCq B]);clear d l;go_wp2_with (first
    |(at_builtin;refine wpList_append_own _ rfl (.tmp 31) (.tmp 35) 59 rfl w.heap.size 120 t (.agg #[.int .i32 0,.int .i64 0]) 2 16 zw n o p q rfl (by decide) _ _ _ rfl (Q.o.alloc _) ⟨_,0,none⟩ 1 1 [.int .i32 (-1),.int .i64 a.size] rfl rfl (kZ wr _ _ _ _ rfl) (aAa _ _) (by unfold maxLen;omega) (by omega) (by simp;omega) ?_;intro J L c e _;have a8:=aA c;have a6:=aA e;obtain ⟨b1,b0,rfl⟩:=aRl c;clear c e)
    |go_in)
   go_ret;have b3:(bZ a 0).length=x.length+1:=by rw [M.o];simp
   rw [b3,M.o,aHq];exact ⟨b1,b0,rfl,a8.o,(F.o.alloc F.o.size _).grown a6.o (by have:=F.o.size;simp;omega) (λa2 k=>(cU Q.o a2 k).1)⟩
def aT(b:ByteArray)(a:Nat):Int:=if a<b.size then lR b a else -1
def gV(b:ByteArray)(a:Nat):Nat:=(zz b a).2
theorem mJ(b:ByteArray)(a:Nat)(d:a<b.size)(c:aF b a<128):aT b a=aF b a/\gV b a=1:=by unfold aT gV lR;rw [aH d,Lib.decode_N,<-lU];unfold Lib.decodeN;rw [aH c];simp only;rw [aI (by omega)];refine ⟨?_,?_⟩<;>first|rfl|trivial
theorem yA(b:ByteArray)(a:Nat)(c:a<b.size)(d:128<=aF b a):aT b a=-2\/128<=aT b a:=by
 unfold aT lR;rw [aH c,Lib.decode_N,<-lU];have e:=tD b a;unfold Lib.decodeN;simp only [aI (show ¬aF b a<128 by omega)];repeat' split
 all_goals first|exact Or.inl rfl|(right;simp only at *;omega)
theorem eX(b:ByteArray)(a:Nat)(d:a<b.size)(c:Nat)(g:c<128):aT b a=(c:Int)↔aF b a=c:=by
 by_cases f:aF b a<128
 ·rw [(mJ b a d f).1];omega
 ·rcases yA b a d (by omega) with e|e
  ·rw [e];omega
  ·omega
theorem oJ(b:ByteArray)(a:Nat)(c:¬a<b.size):aT b a=-1:=aI c
theorem aAb(b:ByteArray)(a:Nat)(c:a<b.size):aT b a≠-1:=by
 by_cases d:aF b a<128
 ·rw [(mJ b a c d).1];omega
 ·rcases yA b a c (by omega) with e|e
  ·rw [e];omega
  ·omega
theorem yB(b:ByteArray)(a:Nat):1<=gV b a:=(vT b a).1
theorem yC(b:ByteArray)(a:Nat)(c:a<b.size):a+gV b a<=b.size:=aHp b a c
theorem aCu(b:ByteArray)(a:Nat):aCs (aT b a):=by
 unfold aT;split
 ·exact aRk b a
 ·exact Or.inl rfl
theorem aRn(b:ByteArray)(a c:Nat)(g:a<b.size)(e:0<c)(f:c<gV b a):128<=aF b (a+c):=by
 have d:=aAs b a g;unfold gV at f;unfold rS at d;by_cases i:(zz b a).1=65533/\(zz b a).2=1
 ·omega
 ·rw [aI i] at d;exact aK1 b a c (by omega) e (by omega)
theorem aCv(b:ByteArray)(a:Nat)(e:a<=b.size):∃d,bZ b a=(aT b a,a)::d:=by
 by_cases c:a<b.size
 ·exact ⟨_,by rw [sV c];unfold aT;rw [aH c]⟩
 ·have:a=b.size:=by omega
  subst this;exact ⟨[],by rw [aCq c];unfold aT;rw [aI c]⟩
def bQ(w:World)(c:Nat)(left:Value)(b a:Int)(g:ByteArray)(d f e:Value):Prop:=w.heap[c]?=some (.cells #[left,.int .i32 b,.int .i64 a,.string g,d,f,e] 65)
section
variable {w:World}{pb:Nat}{left:Value}{k a:Int}{wd:ByteArray}{vC vP vM:Value}
theorem bQ.c0(b:bQ w pb left k a wd vC vP vM):w.cell? ⟨pb,0,none⟩=some left:=by unfold bQ at b;simp [zv,b]
theorem bQ.c1(b:bQ w pb left k a wd vC vP vM):w.cell? ⟨pb,1,none⟩=some (.int .i32 k):=by unfold bQ at b;simp [zv,b]
theorem bQ.c2(b:bQ w pb left k a wd vC vP vM):w.cell? ⟨pb,2,none⟩=some (.int .i64 a):=by unfold bQ at b;simp [zv,b]
theorem bQ.c3(b:bQ w pb left k a wd vC vP vM):w.cell? ⟨pb,3,none⟩=some (.string wd):=by unfold bQ at b;simp [zv,b]
theorem bQ.c4(b:bQ w pb left k a wd vC vP vM):w.cell? ⟨pb,4,none⟩=some vC:=by unfold bQ at b;simp [zv,b]
theorem bQ.c5(b:bQ w pb left k a wd vC vP vM):w.cell? ⟨pb,5,none⟩=some vP:=by unfold bQ at b;simp [zv,b]
theorem bQ.c6(b:bQ w pb left k a wd vC vP vM):w.cell? ⟨pb,6,none⟩=some vM:=by unfold bQ at b;simp [zv,b]
theorem bQ.soft(b:bQ w pb left k a wd vC vP vM)(c:Nat):w.frozen? ⟨pb,c,none⟩=false:=by unfold bQ at b;simp [World.frozen?,b]
theorem bQ.lt(b:bQ w pb left k a wd vC vP vM):pb<w.heap.size:=(zr.1 b).1
theorem bQ.below(b:bQ w pb left k a wd vC vP vM){w':World}{B:Nat}(c:Below B w w')(d:w.heap.size<=B):bQ w' pb left k a wd vC vP vM:=by have:=b.lt;unfold bQ;rw [c.block pb (by omega)];exact b
theorem bQ.set0(b:bQ w pb left k a wd vC vP vM)(v:Value):bQ (w.setCell ⟨pb,0,none⟩ v) pb v k a wd vC vP vM:=heap_setCell_same w pb 0 _ _ _ b
theorem bQ.row(e:bQ w pb left k a wd vC vP vM){B:Nat}{b:TypeId}{i:Nat}{v:Value}{n:Nat}{l:List Value}(f:w.ownsRow B b i v n l)(m:b≠65)(o:Nat)(j:Value):(w.setCell ⟨pb,o,none⟩ j).ownsRow B b i v n l:=by
 refine ownsRow_setCell_other f ?_ j;intro d;obtain ⟨_,⟨rfl,_⟩|⟨g,p,q,rfl,r,c,_⟩⟩:=f
 ·simp [zq] at d
 ·simp [zq] at d;subst d;unfold bQ at e;rw [e] at c;simp at c;exact m c.2.symm
end
structure bO(B:Nat)(w:World)(pb:Nat)(s:ByteArray)(p g j m c:Nat)(k a:Int)(wd:ByteArray)(vC vP vM:Value):Prop where
 box:bQ w pb (.slice (some ⟨g,j*2,none⟩) (m+1) (c+1)) k a wd vC vP vM
 high:B<=pb
 row:w.ownsRow B 120 2 (.slice (some ⟨g,0,none⟩) (j+m+1) (j+c+1)) (j+m+1) (nI (bZ s 0))
 len:(bZ s 0).length=j+m+1
 drop:(bZ s 0).drop j=bZ s p
 le:p<=s.size
section
variable {B:Nat}{w w':World}{pb:Nat}{s:ByteArray}{p g j m c:Nat}{k a:Int}{wd:ByteArray}{vC vP vM:Value}
theorem bO.below(b:bO B w pb s p g j m c k a wd vC vP vM)(d:aB w w'):bO B w' pb s p g j m c k a wd vC vP vM:=
 ⟨b.box.below d (zx _),b.high,bG b.row d (zx _),b.len,b.drop,b.le⟩
theorem bO.at0(b:bO B w pb s p g j m c k a wd vC vP vM):w.cell? ⟨g,j*2,none⟩=some (.int .i32 (aT s p))/\w.cell? ⟨g,j*2+1,none⟩=some (.int .i64 p):=by
 obtain ⟨o,n⟩:=aCv s p b.le;have l:j<(bZ s 0).length:=by have:=b.len;omega
 have i:(bZ s 0)[j]=(aT s p,p):=by
  have d:((bZ s 0).drop j)[0]?=some (aT s p,p):=by rw [b.drop,n];rfl
  rw [List.getElem?_drop,List.getElem?_eq_getElem (by omega)] at d;simpa using d
 obtain ⟨e,f⟩:=aCr (bZ s 0) j l;rw [i] at e f;exact ⟨by rw [b.row.cellAt _ (by omega),e],by rw [b.row.cellAt _ (by omega),f]⟩
theorem bO.more(d:bO B w pb s p g j m c k a wd vC vP vM)(l:p<s.size):∃n f,m=n+1/\c=f+1:=by
 have x:=d.len;have i:=congrArg List.length d.drop;rw [List.length_drop,sV l,List.length_cons] at i;have t:=(aA9 s _ (p+(zz s p).2) (zx _)).1;have e:=d.row.2;obtain ⟨_,e⟩:=d.row;rcases e with ⟨b,_⟩|⟨r,o,q,b,_,_,u,_⟩
 ·simp at b
 ·simp at b;obtain ⟨_,rfl⟩:=b;exact ⟨m-1,c-1,by omega,by omega⟩
theorem bO.step(b:bO B w pb s p g j (m+1) (c+1) k a wd vC vP vM)(e:p<s.size):bO B (w.setCell ⟨pb,0,none⟩ (.slice (some ⟨g,j*2+2,none⟩) (m+1) (c+1))) pb s (p+gV s p) g (j+1) m c k a wd vC vP vM:=by
 rw [show j*2+2=(j+1)*2 by omega];refine ⟨b.box.set0 _,b.high,?_,by have:=b.len;omega,?_,yC s p e⟩
 ·have:=b.box.row b.row (by decide) 0 (.slice (some ⟨g,(j+1)*2,none⟩) (m+1) (c+1));rw [show j+1+m+1=j+(m+1)+1 by omega,show j+1+c+1=j+(c+1)+1 by omega];exact this
 ·have d:=b.drop;rw [sV e] at d;have:(bZ s 0).drop (j+1)=((bZ s 0).drop j).drop 1:=by rw [List.drop_drop]
  rw [this,d];rfl
end
theorem aCw{c:World}(b:aB w c){a:Addr}(l:a.block<w.heap.size)(f:Value):Below (w.setCell a f).heap.size (w.setCell a f) (c.setCell a f):=by
 refine ⟨b.os,b.tape,b.output,by have:=b.size;simpa [zm] using this,λe j=>?_⟩;have k:e<w.heap.size:=by simpa [zm] using j
 have g:=b.block e k;by_cases d:e=a.block
 ·subst d;have m:a.block<c.heap.size:=Nat.lt_of_lt_of_le l b.size;have i:c.heap[a.block]?=w.heap[a.block]?:=g;simp only [zm];rw [zn,zn];simp [i]
 ·rw [Below.heap_setCell _ _ _ _ d,Below.heap_setCell _ _ _ _ d,g]
theorem aRo{b:ByteArray}{a:Nat}(d:a<b.size)(f:aT b a≠10):iB b a=iB b (a+gV b a):=by
 have i:aF b a≠10:=λe=>f ((eX b a d 10 (by omega)).2 e)
 have j:∀c,1<=c->c<=gV b a->iB b a=iB b (a+c):=by
  intro c k;induction c with
  |zero=>omega
  |succ c ih=>
   intro l;by_cases g:c=0
   ·subst g;exact aEh d i
   ·rw [ih (by omega) (by omega)];have m:=yC b a d;exact aEh (by omega) (by have:=aRn b a c d (by omega) (by omega);omega)
 exact j _ (yB b a) (zx _)
def fP(b a:Int)(c:ByteArray):Value:=.agg #[.int .i32 b,.int .i64 a,.string c]
section
variable {B:Nat}{pb:Nat}{s:ByteArray}{p g j m c:Nat}{k a:Int}{wd:ByteArray}{vC vP vM:Value}
theorem vU(d:bO B w pb s p g j m c k a wd vC vP vM):Calls zy 64 #[.pointer (some ⟨pb,0,none⟩)] w λf i=>f=.returned (fP (-2) p ⟨#[]⟩)/\aB w i:=by
 have e:=d.box.c0;have l:∀b,(w.alloc b).cell? ⟨pb,0,none⟩=some (.slice (some ⟨g,j*2,none⟩) (m+1) (c+1)):=λb=>aC ((Below.refl _ w).alloc (zx _) b) e
 have n:∀b,(w.alloc b).cell? ⟨g,j*2+1,none⟩=some (.int .i64 p):=λb=>aC ((Below.refl _ w).alloc (zx _) b) d.at0.2
 clear d e;go_enter Tryz.func64,Tryz.ntmps64;go_wp2;go_returns;exact ⟨rfl,(Below.refl _ w).alloc (zx _) _⟩
theorem aRp(o:bO B w pb s p g j m c k a wd vC vP vM):Calls zy 87 #[.pointer (some ⟨pb,0,none⟩)] w λG A=>G=.returned (.tuple #[])/\w.grownBy A (some pb)/\∃f n i,bO B A pb s (iB s p) g f n i k a wd vC vP vM:=by
 have Q:=o.le;go_enter Tryz.func87,Tryz.ntmps87;go_wp2;go_loopg [] (s.size-p) (λM wr=>∃b f n i,bO B wr pb s b g f n i k a wd vC vP vM/\iB s p=iB s b/\M=s.size-b/\w.grownBy wr (some pb));case atStart=>exact ⟨p,j,m,c,o,rfl,rfl,World.grownBy.refl _ _⟩
 case round=>
  obtain ⟨b,f,n,i,d,l,T,r⟩:=hrel;have N:=d.box.c0;have O:=d.box.soft 0;have z:=d.at0.1;have y:=aA d;have C:=aA l;have t:=aA r;have R:=d.le;by_cases q:aT s b=10
  ·have e:b<s.size:=Classical.byContradiction λH=>by rw [oJ s b H] at q;omega
   have u:aM (iB s p=b):=aA (by rw [l];exact aL9 λx=>x.2 ((eX s b e 10 (by omega)).1 q));rw [q] at z;clear d l r o;go_wp2;go_returns;exact ⟨rfl,t.o,f,n,i,by rw [u.o];exact y.o⟩
  ·by_cases e:b<s.size
   ·have J:=aAb s b e;obtain ⟨L,F,rfl,rfl⟩:=d.more e;have E:=aA (d.step e);have D:=aA (aRo e q);have U:=yB s b;have V:=yC s b e;generalize aT s b=cc at *;have P:(cc != 10)=true:=by simpa using q
    have S:(cc != -1)=true:=by simpa using J
    clear d l r o;go_wp2;go_roundg (s.size-(b+gV s b));case measure=>omega
    case rel=>exact ⟨b+gV s b,f+1,L,F,E.o,by rw [C.o,D.o],rfl,rX t.o _⟩
   ·have I:=oJ s b e;rw [I] at z;have u:aM (iB s p=b):=aA (by rw [l];exact aL9 λx=>e x.1);clear d l r o;go_wp2;go_returns;exact ⟨rfl,t.o,f,n,i,by rw [u.o];exact y.o⟩
theorem aRq(b:Int)(w:World):Calls zy 86 #[.int .i32 b] w λf i=>f=.returned (.bool (decide (b=32) || decide (b=9) || decide (b=10)))/\i=w:=by
 go_enter Tryz.func86,Tryz.ntmps86;by_cases d:b=32
 ·subst d;go_wp2;go_ret;exact ⟨rfl,rfl⟩
 ·have l:(b==32)=false:=by simpa using d
  by_cases e:b=9
  ·subst e;go_wp2;go_ret;exact ⟨rfl,rfl⟩
  ·have n:(b==9)=false:=by simpa using e
   go_wp2;go_ret;exact ⟨dL (by simp [d,e];rfl),rfl⟩
def mK(s:ByteArray):Nat->Nat->Nat
 |0,p=>p
 |f+1,p=>if p<s.size then if lF (aF s p) then mK s f (p+1) else if aF s p=37 then mK s f (iB s p) else p else p
theorem aRr(s:ByteArray):∀b p,s.size<p+b->p<=s.size->rW s b p=(if mK s b p<s.size then dK s (mK s b p) else .stop s.size)/\mK s b p<=s.size/\(mK s b p<s.size->lF (aF s (mK s b p))=false/\aF s (mK s b p)≠37):=by
 intro b;induction b with
 |zero=>intro p n i;omega
 |succ b ih=>
  intro p n i;rw [rW,mK];by_cases d:p<s.size
  ·rw [aH d,aH d];by_cases f:lF (aF s p)=true
   ·rw [aH f,aH f];exact ih (p+1) (by omega) (by omega)
   ·rw [aI f,aI f];by_cases e:aF s p=37
    ·rw [aH e,aH e];have:=aB3 d e;exact ih _ (by omega) (aEi i)
    ·rw [aI e,aI e,aH d];exact ⟨rfl,i,λ_=>⟨by simpa using f,e⟩⟩
  ·rw [aI d,aI d,aI d];have:p=s.size:=by omega
   exact ⟨by rw [this],i,λl=>absurd l d⟩
theorem aRs(D:Nat)(x:bO B w pb s p g j m c k a wd vC vP vM)(V:s.size<p+D):Calls zy 57 #[.pointer (some ⟨pb,0,none⟩)] w λl Q=>l=.returned (.tuple #[])/\w.grownBy Q (some pb)/\∃o u r,bO B Q pb s (mK s D p) g o u r k a wd vC vP vM:=by
 go_enter Tryz.func57,Tryz.ntmps57;go_wp2;go_loopg [] D (λq wr=>∃b o u r,bO B wr pb s b g o u r k a wd vC vP vM/\mK s D p=mK s q b/\s.size<b+q/\w.grownBy wr (some pb));case atStart=>exact ⟨p,j,m,c,x,rfl,V,World.grownBy.refl _ _⟩
 case round=>
  obtain ⟨b,o,u,r,e,d,a7,A⟩:=hrel;have a6:=e.le;obtain ⟨q,rfl⟩ : ∃q,gk=q+1:=⟨gk-1,by omega⟩;have a3:=e.box.c0;have a4:=e.box.soft 0;have N:=e.at0.1;have G:=aA e;have C:=aA A;have i:=aA (λa2=>aRq (aT s b) a2);rw [mK] at d;by_cases f:b<s.size
  ·rw [aH f] at d;have E:(decide (aT s b=32) || decide (aT s b=9) || decide (aT s b=10))=lF (aF s b):=by
    unfold lF;have I:=eX s b f 32 (by omega);have J:=eX s b f 9 (by omega);have L:=eX s b f 10 (by omega);have I:(aT s b=32)=(aF s b=32):=propext I;have J:(aT s b=9)=(aF s b=9):=propext J;have L:(aT s b=10)=(aF s b=10):=propext L;simp only [I,J,L]
   rw [E] at i;have y:=eX s b f 37 (by omega);by_cases t:lF (aF s b)=true
   ·rw [aH t] at d;rw [t] at i;obtain ⟨a1,U,rfl,rfl⟩:=e.more f;have X:aF s b<128:=by unfold lF at t;simp at t;omega
    have M:=aA (e.step f);rw [(mJ s b f X).2] at M;have n:=aA d;clear e d A x E y;go_wp2_with (go_at_call 86;refine (aD i _).mono ?_;rintro l F ⟨rfl,rfl⟩);go_roundg q;case measure=>omega
    case rel=>exact ⟨b+1,o+1,a1,U,M.o,n.o,by omega,rX C.o _⟩
   ·rw [aI t] at d;have W:lF (aF s b)=false:=by simpa using t
    rw [W] at i;by_cases z:aF s b=37
    ·rw [aH z] at d;have H:=y.2 z;rw [H] at N;have a5:=aB3 f z;have n:=aA d;clear e d A x E y;go_wp2_with (first
      |(go_at_call 86;rw [H] at i;refine (aD i _).mono ?_;rintro l F ⟨rfl,rfl⟩)
      |(go_at_call 87;refine (aRp G.o).mono ?_;rintro l F ⟨rfl,P,Z,a0,T,O⟩;have R:=aA P;have S:=aA O;clear P O))
     go_roundg q;case measure=>omega
     case rel=>exact ⟨iB s b,Z,a0,T,S.o,n.o,by omega,C.o.trans R.o⟩
    ·rw [aI z] at d;have Y:aT s b≠37:=λl=>z (y.1 l)
     have n:=aA d;generalize aT s b=cc at *;have H:(cc==37)=false:=by simpa using Y
     clear e d A x E y;go_wp2_with (go_at_call 86;refine (aD i _).mono ?_;rintro l F ⟨rfl,rfl⟩);go_returns;exact ⟨rfl,C.o,o,u,r,by rw [n.o];exact G.o⟩
  ·rw [aI f] at d;have n:=aA d;rw [oJ s b f] at N i;clear e d A x;go_wp2_with (go_at_call 86;refine (aD i _).mono ?_;rintro l F ⟨rfl,rfl⟩);go_returns;exact ⟨rfl,C.o,o,u,r,by rw [n.o];exact G.o⟩
end
theorem aHt(a:Int)(w:World):Calls zy 58 #[.int .i32 a] w λb c=>b=.returned (.bool (eP a))/\c=w:=by
 unfold eP;by_cases d:97<=a;all_goals
  go_enter Tryz.func58,Tryz.ntmps58;go_wp2;go_ret;exact ⟨dL (by rw [zo];simp;omega),rfl⟩
theorem aHu(a:Int)(w:World):Calls zy 60 #[.int .i32 a] w λb c=>b=.returned (.bool (dR a))/\c=w:=by
 unfold dR;by_cases d:65<=a;all_goals
  go_enter Tryz.func60,Tryz.ntmps60;go_wp2;go_ret;exact ⟨dL (by rw [zo];simp;omega),rfl⟩
theorem aRt(a:Int)(w:World):Calls zy 107 #[.int .i32 a] w λb c=>b=.returned (.bool (tJ a))/\c=w:=by
 unfold tJ;by_cases d:48<=a;all_goals
  go_enter Tryz.func107,Tryz.ntmps107;go_wp2;go_ret;exact ⟨dL (by rw [zo];simp;omega),rfl⟩
theorem aRu(c:Int)(w:World):Calls zy 88 #[.int .i32 c] w λa w'=>a=.returned (.bool (eU c))/\w'=w:=by
 have d:=aHt c w;have e:=aHu c w;have f:=aRt c w;have b:aM (eU c=(eP c || dR c || tJ c || c==95)):=rfl;generalize eP c=b1 at *;generalize dR c=b2 at *;generalize tJ c=b3 at *;go_enter Tryz.func88,Tryz.ntmps88;cases b1<;>cases b2<;>cases b3;all_goals
  go_wp2_with (first
   |(go_at_call 58;refine d.mono ?_;rintro a w' ⟨rfl,rfl⟩)
   |(go_at_call 60;refine e.mono ?_;rintro a w' ⟨rfl,rfl⟩)
   |(go_at_call 107;refine f.mono ?_;rintro a w' ⟨rfl,rfl⟩))
  go_ret;exact ⟨dL (by rw [b.o];simp),rfl⟩
def oK(a:Int):Bool:=decide (a=39) || decide (a=92)
theorem aRv(a:Int)(w:World):Calls zy 89 #[.int .i32 a] w λd f=>d=.returned (.bool (oK a))/\f=w:=by
 by_cases b:a=39
 ·have e:(a==39)=true:=by simp [b]
  have c:=aA (show oK a=true by simp [oK,b]);clear b;go_enter Tryz.func89,Tryz.ntmps89;go_wp2;go_ret;exact ⟨dL c.o.symm,rfl⟩
 ·have e:(a==39)=false:=by simp [b]
  have c:=aA (show oK a=(a==92) by simp [oK,b];rfl);clear b;go_enter Tryz.func89,Tryz.ntmps89;go_wp2;go_ret;exact ⟨dL c.o.symm,rfl⟩
