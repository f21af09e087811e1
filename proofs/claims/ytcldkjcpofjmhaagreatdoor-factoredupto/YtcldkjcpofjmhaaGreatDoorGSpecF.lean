import Derived.Test.YtcldkjcpofjmhaaGreatDoorText0F
import Derived.Shelf.Strings.Runes
import Derived.Shelf.Strings.Prefix
import Derived.Test.YtcldkjcpofjmhaaGreatDoorProg
import Derived.Lib.OthersKept
import Derived.Laws.Runes
import Derived.Shelf.Small.Utf8
import Derived.Shelf.Small.Strs
import Derived.Deep.RegionWith
import Derived.WalkMore
import Derived.Test.YtcldkjcpofjmhaaGreatDoorRefs1F
import Derived.OwnWalk
import Derived.Lib.IndexBytes
import Derived.Deep.LoopGhost
open Array renaming getElem?_eq_some_iff→zr,getElem?_modify→zn
open Bool renaming eq_iff_iff→zo
open Nat renaming le_refl→zx
namespace Go.Proofs.YtcldkjcpofjmhaaGreatDoor
open Calls renaming quiet_of_same→zs
open Exit renaming inBlock→zl,noGoto→zf
open _root_.Go.Proofs.Tryz renaming prog→zy,underlying76→zw,func128→zu,ntmps128→zt,underlying3→zj,underlying4→zi,underlying9→zh
open Utf8 renaming decode→zz
open Value renaming ownBlock→zq
open World renaming cell?→zv,iterPos→zp,setCell→zm,iter_heap→ze
set_option maxHeartbeats 3000000
set_option maxRecDepth 100000
variable{s:ByteArray}{v:Value}{w:World}
section
open Go.RowKit
abbrev Gl:=Int×Nat
def kO(s:ByteArray)(p:Nat):Int:=if (zz s p).1=65533/\(zz s p).2=1 then -2 else ((zz s p).1:Int)
theorem uV(s:ByteArray)(p:Nat):1<=(zz s p).2/\(zz s p).2<=4:=by
 rw [Lib.decode_N];unfold Lib.decodeN;repeat' split
 all_goals simp
theorem aG8(s:ByteArray)(p:Nat)(hp:p<s.size):p+(zz s p).2<=s.size:=by
 rw [Lib.decode_N,<-lL];unfold Lib.decodeN;repeat' split
 all_goals (simp only;omega)
def tO(s:ByteArray):Nat->Nat->List Gl
 | 0,_=>[(-1,s.size)]
 | f+1,p=>if p<s.size then (kO s p,p) :: tO s f (p+(zz s p).2) else [(-1,s.size)]
theorem aOh(s:ByteArray):∀f p,s.size-p<=f->tO s f p=tO s (s.size-p) p:=by
 intro f;induction f using Nat.strongRecOn with
 | _ f ih=>
  intro p h;by_cases hp:p<s.size
  ·obtain ⟨f',rfl⟩ : ∃f',f=f'+1:=⟨f-1,by omega⟩;obtain ⟨g,hg⟩ : ∃g,s.size-p=g+1:=⟨s.size-p-1,by omega⟩;rw [hg];simp only [tO];rw [if_pos hp,if_pos hp];have h1:=(uV s p).1;rw [ih f' (by omega) _ (by omega)];by_cases hgf:g<f'+1
   ·rw [ih g (by omega) _ (by omega)]
   ·omega
  ·have h0:s.size-p=0:=by omega
   rw [h0];cases f with
   | zero=>rfl
   | succ f=>simp only [tO];rw [if_neg hp]
def bS(s:ByteArray)(p:Nat):List Gl:=tO s (s.size-p) p
theorem sB{p:Nat}(h:p<s.size):bS s p=(kO s p,p) :: bS s (p+(zz s p).2):=by unfold bS;obtain ⟨g,hg⟩ : ∃g,s.size-p=g+1:=⟨s.size-p-1,by omega⟩;rw [hg];simp only [tO];rw [if_pos h,aOh s g _ (by have:=(uV s p).1;omega)]
theorem aBh{p:Nat}(h:¬p<s.size):bS s p=[(-1,s.size)]:=by unfold bS;rw [show s.size-p=0 by omega];rfl
theorem yW(s:ByteArray):∀n p,s.size-p<=n->1<=(bS s p).length/\(bS s p).length<=n+1:=by
 intro n;induction n using Nat.strongRecOn with
 | _ n ih=>
  intro p h;by_cases hp:p<s.size
  ·rw [sB hp];have h1:=(uV s p).1;have:=ih (n-1) (by omega) (p+(zz s p).2) (by omega);simp only [List.length_cons];omega
  ·rw [aBh hp];simp
theorem aOi(l:List UInt8)(p:Nat)(a b c:UInt8) : [a,b,c].isPrefixOf (l.drop p)=true↔l[p]?=some a/\l[p+1]?=some b/\l[p+2]?=some c:=by
 have h0:(l.drop p)[0]?=l[p]?:=by simp
 have h1:(l.drop p)[1]?=l[p+1]?:=by simp
 have h2:(l.drop p)[2]?=l[p+2]?:=by simp
 rw [<-h0,<-h1,<-h2];generalize l.drop p=m;match m with
 | []=>simp
 | [x]=>simp
 | [x,y]=>simp
 | x :: y :: z :: r=>simp;constructor <;> (rintro ⟨rfl,rfl,rfl⟩;exact ⟨rfl,rfl,rfl⟩)
theorem aOj(s:ByteArray)(p:Nat)(h:(zz s p).1=65533) :
  Lib.hasPrefix (s.data.toList.drop p) [239,191,189] = !decide ((zz s p).2=1):=by
 have hpre:=aOi s.data.toList p 239 191 189;have key:(s.data.toList[p]?=some 239/\s.data.toList[p+1]?=some 191/\s.data.toList[p+2]?=some 189)↔aD s p=239/\aD s (p+1)=191/\aD s (p+2)=189:=by
  have kk:∀i (v:UInt8),v.toNat≠0->(s.data.toList[i]?=some v↔aD s i=v.toNat):=by
   intro i v hv;rw [kU];cases hq:s.data.toList[i]? with
   | none=>
    simp only [List.getD,hq,Option.getD_none];constructor
    ·intro h;cases h
    ·intro h;exact absurd h.symm hv
   | some x=>
    simp only [List.getD,hq,Option.getD_some,Option.some.injEq];exact ⟨λh=>by rw [h],λh=>UInt8.toNat_inj.1 h⟩
  rw [kk p 239 (by decide),kk (p+1) 191 (by decide),kk (p+2) 189 (by decide)];exact Iff.rfl
 rw [key] at hpre;unfold Lib.hasPrefix;have hd:=Lib.decode_N s p;rw [<-kU,<-kU,<-kU,<-kU,<-lL] at hd;have b0:=sL s p;have b1:=sL s (p+1);have b2:=sL s (p+2);have hn2:aD s (p+2)≠0->2<s.size-p:=by
  intro hne;by_cases hlt:p+2<s.size
  ·omega
  ·unfold aD at hne;rw [dif_neg hlt] at hne;exact absurd rfl hne
 generalize aD s p=x0 at *;generalize aD s (p+1)=x1 at *;generalize aD s (p+2)=x2 at *;generalize aD s (p+3)=x3 at *;rw [hd] at h ⊢;unfold Lib.decodeN at h ⊢;cases hx:List.isPrefixOf [239,191,189] (s.data.toList.drop p)
 ·have hno:¬(x0=239/\x1=191/\x2=189):=λh=>by rw [hpre.2 h] at hx;cases hx
  revert h;repeat' split
  all_goals first | (intro h;simp only at h;exfalso;omega) | (intro h;rfl)
 ·obtain ⟨rfl,rfl,rfl⟩:=hpre.1 hx;have:=hn2 (by decide);revert h;repeat' split
  all_goals first | (intro h;rfl) | (intro h;exfalso;omega)
def lY(l:List Gl):List Value:=l.flatMap λg=>[.int .i32 g.1,.int .i64 g.2]
theorem aG9(l:List Gl)(g:Gl):lY (l++[g])=lY l++[.int .i32 g.1,.int .i64 g.2]:=by simp [lY]
theorem aBi(l:List Gl):∀k (h:k<l.length),(lY l)[k*2]?=some (.int .i32 l[k].1)/\(lY l)[k*2+1]?=some (.int .i64 l[k].2):=by
 induction l with
 | nil=>intro k h;simp at h
 | cons x r ih=>
  intro k h;cases k with
  | zero=>exact ⟨rfl,rfl⟩
  | succ k=>
   have:=ih k (by simpa using h);rw [show lY (x :: r)=.int .i32 x.1 :: .int .i64 x.2 :: lY r from rfl,show (k+1)*2=k*2+1+1 by omega,show k*2+1+1+1=k*2+1+1+1 from rfl];simpa using this
theorem aOk:(zy.info? 128).map (λi=>(i.zero,i.size,i.bytes))=some (some (.agg #[.int .i32 0,.int .i64 0]),2,16):=by kernel_rfl
end
section
open Go.Shelf Go.Proofs
def aGa:Go.Shelf.Ren:=⟨fun | 99=>72 | 119=>141 | 137=>140 | 151=>107 | 152=>128 | 206=>102 | 217=>155 | 224=>142 | 225=>143 | 266=>165 | n=>n,fun | 0=>0 | 3=>3 | 4=>4 | 5=>5 | 9=>9 | 21=>21 | 46=>189 | n=>n,fun | n=>n⟩
theorem aOl:Lays.n99 zy aGa:={
 mixed:=by kernel_rfl
 f99:=Tryz.func72.trans (congrArg some (by kernel_rfl))
 f206:=Tryz.func102.trans (congrArg some (by kernel_rfl))
 t3:=zj
 a3:=Tryz.isAgg3
 z3:=Tryz.sizeOf3
 v3:=Tryz.zeroValue3
 t4:=zi
 a4:=Tryz.isAgg4
 z4:=Tryz.sizeOf4
 v4:=Tryz.zeroValue4
 t9:=zh
 a9:=Tryz.isAgg9
 z9:=Tryz.sizeOf9
 v9:=Tryz.zeroValue9}
theorem yX:Lays.n151 zy aGa:={
 mixed:=by kernel_rfl
 f119:=Tryz.func141.trans (congrArg some (by kernel_rfl))
 f137:=Tryz.func140.trans (congrArg some (by kernel_rfl))
 f151:=Tryz.func107.trans (congrArg some (by kernel_rfl))
 f152:=zu.trans (congrArg some (by kernel_rfl))
 f217:=Tryz.func155.trans (congrArg some (by kernel_rfl))
 f224:=Tryz.func142.trans (congrArg some (by kernel_rfl))
 f225:=Tryz.func143.trans (congrArg some (by kernel_rfl))
 f266:=Tryz.func165.trans (congrArg some (by kernel_rfl))
 t0:=Tryz.underlying0
 a0:=Tryz.isAgg0
 z0:=Tryz.sizeOf0
 v0:=Tryz.zeroValue0
 t3:=zj
 a3:=Tryz.isAgg3
 z3:=Tryz.sizeOf3
 v3:=Tryz.zeroValue3
 t4:=zi
 a4:=Tryz.isAgg4
 z4:=Tryz.sizeOf4
 v4:=Tryz.zeroValue4
 t5:=Tryz.underlying5
 a5:=Tryz.isAgg5
 z5:=Tryz.sizeOf5
 v5:=Tryz.zeroValue5
 t9:=zh
 a9:=Tryz.isAgg9
 z9:=Tryz.sizeOf9
 v9:=Tryz.zeroValue9
 t21:=Tryz.underlying21
 a21:=Tryz.isAgg21
 z21:=Tryz.sizeOf21
 v21:=Tryz.zeroValue21
 t46:=Tryz.underlying189
 a46:=Tryz.isAgg189
 z46:=Tryz.sizeOf189
 v46:=Tryz.zeroValue189}
end
section
open Go.RowKit Go.Shelf
def qI(c:Int):Bool:=decide (c=124) || decide (c=126) || decide (c=40) || decide (c=41) || decide (c=44) || decide (c=46)
abbrev eD:ByteArray:=⟨#[124,126,40,41,44,46]⟩
theorem aOm(r:Int)(h0:0<=r)(h1:r<128):decide (0<=Lib.indexByte eD.data.toList r.toNat.toUInt8)=qI r:=by
 obtain ⟨n,rfl⟩:=Int.eq_ofNat_of_zero_le h0;have hn:n<128:=by omega
 have key:∀m:Fin 128,decide (0<=Lib.indexByte eD.data.toList ((m.1:Int).toNat.toUInt8))=qI (m.1:Int):=by decide
 exact key ⟨n,hn⟩
def aBj(c:Int):Prop:=c=-1\/c=-2\/Utf8.valid c=true
theorem aOn(c:Int)(w:World)(h:c<0):Calls zy 128 #[.string eD,.int .i32 c] w λe w'=>e=.returned (.int .i64 (-1))/\Below w.heap.size w w':=by
 have h0:¬(0:Int)<=c:=by omega
 have hf:(c == 65533)=false:=by rw [beq_eq_false_iff_ne];omega
 have hd:decide (0<=c)=false:=by simp;omega
 have hv:Lib.validRune c=false:=by simp [Lib.validRune];omega
 have CV:=aA (λwx=>Any.utf8_ValidRune {yX with} c wx);rw [hv] at CV;go_enter zu,zt;go_wp2_with (first
  | (go_at_call 141;refine (aB CV _).mono ?_;rintro e w1 ⟨rfl,rfl⟩)
  | go_in)
 go_ret;exact ⟨rfl,Below.refl _ _⟩
theorem aOo(w:World):Calls zy 128 #[.string eD,.int .i32 65533] w λe w'=>e=.returned (.int .i64 (-1))/\Below w.heap.size w w':=by
 go_enter zu,zt;go_wp2;go_loopw [] (λwr=>∃pos:Nat,pos<=6/\wr.heap[w.heap.size]?=some (.stringIter eD pos)/\Below w.heap.size w wr) (λwr=>6-wr.iterPos w.heap.size);case atStart=>exact ⟨0,by omega,by have:=ze w eD 0;simpa using this,(Below.refl _ w).alloc (zx _) _⟩
 case round=>
  obtain ⟨pos,hpos,hit,hb⟩:=hrel;have HB:=aA hb;have HIT:=aA hit;by_cases hp:pos<eD.size
  ·have hp6:pos<6:=hp;have hc:(eD[pos]'hp).toNat<128:=by
    have:∀q:Fin 6,(eD[q.1]'(by have:=q.2;show q.1<6;omega)).toNat<128:=by decide
    exact this ⟨pos,hp6⟩
   have hnx:∀ty,(Instr.next (.pointer (some ⟨w.heap.size,0,none⟩)) true ty).run zy wr=_:=λty=>Lib.run_next_ascii_at wr w.heap.size eD pos ty hit hp hc
   have HIT2:=aA (Lib.iterAt_heap wr w.heap.size eD pos (pos+1) hit);have HB2:=aA (Lib.below_iterAt hb (k:=w.heap.size) (zx _) eD (pos+1));generalize (eD[pos]'hp).toNat=cc at *;have hcc:((cc:Int) == 65533)=false:=by rw [beq_eq_false_iff_ne];omega
   clear hit hb;go_wp2;go_roundw;case rel=>exact ⟨pos+1,by omega,HIT2.out,HB2.out⟩
   case measure=>simp only [zp,HIT.out,HIT2.out];omega
  ·have hnx:∀ty,(Instr.next (.pointer (some ⟨w.heap.size,0,none⟩)) true ty).run zy wr=_:=λty=>Lib.run_next_end_at wr w.heap.size eD pos ty hit hp
   clear hit hb;go_wp2;go_ret;exact ⟨rfl,HB.out⟩
theorem aOp(c:UInt8):∀l:List UInt8,(∀b∈l,b≠c)->Lib.indexByte l c=-1:=by
 intro l;induction l with
 | nil=>intro _;rfl
 | cons x r ih=>
  intro h;have h1:=ih λb hb=>h b (List.mem_cons_of_mem _ hb)
  have h2:(x == c)=false:=beq_eq_false_iff_ne.2 (h x (List.mem_cons_self ..));rw [Lib.indexByte,h2,h1];rfl
theorem aBk(a:Nat)(c:UInt8)(h:128<=c.toNat):Lib.indexByte (eD.extract a 6).data.toList c=-1:=by
 refine aOp c _ λb hb e=>?_
 subst e;have hm:=mem_extract hb;have hm:b∈[124,126,40,41,44,46]:=hm;simp at hm;rcases hm with rfl | rfl | rfl | rfl | rfl | rfl <;> simp at h
theorem aOq(c:Int)(w:World)(hv:Utf8.valid c=true)(h128:128<=c)(hf:c≠65533):Calls zy 128 #[.string eD,.int .i32 c] w λe w'=>e=.returned (.int .i64 (-1))/\Below w.heap.size w w':=by
 have h0:(0:Int)<=c:=by omega
 have h1:¬c<128:=by omega
 have hf0:(c == 65533)=false:=by rw [beq_eq_false_iff_ne];exact hf
 have hv':Lib.validRune c=true:=by rw [<-hv,validRune_eq];rfl
 have CV:=aA (λwx=>Any.utf8_ValidRune {yX with} c wx);rw [hv'] at CV;obtain ⟨e2,e4,el⟩:=encode_facts c hv h128;have CI:=aA (λ(t:ByteArray) (b:Int) wx=>Any.strings_IndexByte {yX with} t b wx);generalize hr:Utf8.encode c=rs at *;rcases (show rs.size=2\/rs.size=3\/rs.size=4 by omega) with hs | hs | hs
 ·have hl:128<=(rs[1]'(by omega)).toNat:=by have:=el (by omega);simpa [hs] using this
  have hi1:1<rs.size:=by omega
  have hsz:(rs.size:Int)=2:=by omega
  have hn0:=aBk 2 (rs[1]'hi1) hl;have hz:((rs[1]'hi1).toNat:Int).toNat.toUInt8=(rs[1]'hi1):=by simp
  have hne:(((eD[1]'(by decide)).toNat:Int) != ((rs[1]'hi1).toNat:Int))=true:=by have:(eD[1]'(by decide)).toNat=126:=rfl;rw [this];simp;omega
  have hw2:IntKind.i64.wrap 2=2:=by decide
  have CI2:Hid (∀wx,Calls zy 140 #[.string (eD.extract 2 6),.int .u8 ((rs[1]'hi1).toNat:Int)] wx λe w'=>e=.returned (.int .i64 (-1))/\w'=wx):=aA λwx=>by
   have:=CI.out (eD.extract 2 6) ((rs[1]'hi1).toNat:Int) wx;rw [hz,hn0] at this;exact this
  clear hz hn0 el CI;go_enter zu,zt;go_wp2_with (first
   | (go_at_call 141;refine (aB CV _).mono ?_;rintro e w1 ⟨rfl,rfl⟩)
   | go_in)
  go_step3;go_wp2;go_loopw [9] (λi wr=>i=.int .i64 1/\wr=w1) (λ_ _=>0);case atStart=>exact ⟨rfl,rfl⟩
  case round=>
   obtain ⟨rfl,rfl⟩:=hrel;go_wp2;go_step3;go_wp2;go_quiet (fail);go_wp2;have hbq:Below wr.heap.size wr (wr.drewN nq):=aI ⟨_,rfl⟩;have HBQ:=aA hbq;clear hbq;generalize wr.drewN nq=wq at *;go_quiet ((go_at_call 140;exact zs (aB CI2 _)));go_wp2;simp +zetaDelta only [zl,Exit.then,zf];go_ret;exact ⟨rfl,HBQ.out.trans ((aI ⟨_,rfl⟩).mono HBQ.out.size)⟩
 ·have hl:128<=(rs[2]'(by omega)).toNat:=by have:=el (by omega);simpa [hs] using this
  have hi1:2<rs.size:=by omega
  have hsz:(rs.size:Int)=3:=by omega
  have hn0:=aBk 3 (rs[2]'hi1) hl;have hz:((rs[2]'hi1).toNat:Int).toNat.toUInt8=(rs[2]'hi1):=by simp
  have hne:(((eD[2]'(by decide)).toNat:Int) != ((rs[2]'hi1).toNat:Int))=true:=by have:(eD[2]'(by decide)).toNat=40:=rfl;rw [this];simp;omega
  have hw2:IntKind.i64.wrap 3=3:=by decide
  have CI2:Hid (∀wx,Calls zy 140 #[.string (eD.extract 3 6),.int .u8 ((rs[2]'hi1).toNat:Int)] wx λe w'=>e=.returned (.int .i64 (-1))/\w'=wx):=aA λwx=>by
   have:=CI.out (eD.extract 3 6) ((rs[2]'hi1).toNat:Int) wx;rw [hz,hn0] at this;exact this
  clear hz hn0 el CI;go_enter zu,zt;go_wp2_with (first
   | (go_at_call 141;refine (aB CV _).mono ?_;rintro e w1 ⟨rfl,rfl⟩)
   | go_in)
  go_step3;go_wp2;go_loopw [9] (λi wr=>i=.int .i64 2/\wr=w1) (λ_ _=>0);case atStart=>exact ⟨rfl,rfl⟩
  case round=>
   obtain ⟨rfl,rfl⟩:=hrel;go_wp2;go_step3;go_wp2;go_quiet (fail);go_wp2;have hbq:Below wr.heap.size wr (wr.drewN nq):=aI ⟨_,rfl⟩;have HBQ:=aA hbq;clear hbq;generalize wr.drewN nq=wq at *;go_quiet ((go_at_call 140;exact zs (aB CI2 _)));go_wp2;simp +zetaDelta only [zl,Exit.then,zf];go_ret;exact ⟨rfl,HBQ.out.trans ((aI ⟨_,rfl⟩).mono HBQ.out.size)⟩
 ·have hl:128<=(rs[3]'(by omega)).toNat:=by have:=el (by omega);simpa [hs] using this
  have hi1:3<rs.size:=by omega
  have hsz:(rs.size:Int)=4:=by omega
  have hn0:=aBk 4 (rs[3]'hi1) hl;have hz:((rs[3]'hi1).toNat:Int).toNat.toUInt8=(rs[3]'hi1):=by simp
  have hne:(((eD[3]'(by decide)).toNat:Int) != ((rs[3]'hi1).toNat:Int))=true:=by have:(eD[3]'(by decide)).toNat=41:=rfl;rw [this];simp;omega
  have hw2:IntKind.i64.wrap 4=4:=by decide
  have CI2:Hid (∀wx,Calls zy 140 #[.string (eD.extract 4 6),.int .u8 ((rs[3]'hi1).toNat:Int)] wx λe w'=>e=.returned (.int .i64 (-1))/\w'=wx):=aA λwx=>by
   have:=CI.out (eD.extract 4 6) ((rs[3]'hi1).toNat:Int) wx;rw [hz,hn0] at this;exact this
  clear hz hn0 el CI;go_enter zu,zt;go_wp2_with (first
   | (go_at_call 141;refine (aB CV _).mono ?_;rintro e w1 ⟨rfl,rfl⟩)
   | go_in)
  go_step3;go_wp2;go_loopw [9] (λi wr=>i=.int .i64 3/\wr=w1) (λ_ _=>0);case atStart=>exact ⟨rfl,rfl⟩
  case round=>
   obtain ⟨rfl,rfl⟩:=hrel;go_wp2;go_step3;go_wp2;go_quiet (fail);go_wp2;have hbq:Below wr.heap.size wr (wr.drewN nq):=aI ⟨_,rfl⟩;have HBQ:=aA hbq;clear hbq;generalize wr.drewN nq=wq at *;go_quiet ((go_at_call 140;exact zs (aB CI2 _)));go_wp2;simp +zetaDelta only [zl,Exit.then,zf];go_ret;exact ⟨rfl,HBQ.out.trans ((aI ⟨_,rfl⟩).mono HBQ.out.size)⟩
theorem aGb(c:Int)(w:World)(h:aBj c):Calls zy 79 #[.int .i32 c] w λe w'=>e=.returned (.bool (qI c))/\Below w.heap.size w w':=by
 have CC:Calls zy 107 #[.string eD,.int .i32 c] w λe w'=>e=.returned (.bool (qI c))/\Below w.heap.size w w':=by
  by_cases ha:0<=c/\c<128
  ·refine (Any.strings_ContainsRune_ascii yX eD c w ha.1 ha.2).mono ?_;rintro e w' ⟨rfl,rfl⟩;exact ⟨by rw [aOm c ha.1 ha.2],Below.refl _ _⟩
  ·have hm:qI c=false:=by
    unfold qI;simp only [Bool.or_eq_false_iff,decide_eq_false_iff_not];omega
   have CI:Calls zy 128 #[.string eD,.int .i32 c] w λe w'=>e=.returned (.int .i64 (-1))/\Below w.heap.size w w':=by
    by_cases hn:c<0
    ·exact aOn c w hn
    ·by_cases hf:c=65533
     ·subst hf;exact aOo w
     ·refine aOq c w ?_ (by omega) hf;rcases h with h | h | h
      ·omega
      ·omega
      ·exact h
   rw [hm];go_enter Tryz.func107,Tryz.ntmps107;go_wp2_with (go_at_call 128;refine CI.mono ?_;rintro e w1 ⟨rfl,hb1⟩);go_ret;exact ⟨rfl,hb1⟩
 go_enter Tryz.func79,Tryz.ntmps79;go_wp2_with (go_at_call 107;refine CC.mono ?_;rintro e w1 ⟨rfl,hb1⟩);go_ret;exact ⟨rfl,hb1⟩
theorem aOr(s:ByteArray)(p:Nat):aBj (kO s p):=by
 unfold kO;split
 ·exact Or.inr (Or.inl rfl)
 ·right;right;rw [validRune_eq];unfold validRune;rw [decide_eq_true_eq,Lib.decode_N];unfold Lib.decodeN;repeat' split
  all_goals (simp only;omega)
theorem yY(x:Int)(y:Int):∀u∈[Value.int .i32 x,Value.int .i64 y],u.oneCell'=true:=by intro u hu;simp at hu;rcases hu with rfl | rfl <;> rfl
theorem aGc{B:Nat}{e:TypeId}{size:Nat}{n:Nat}{xs:List Value}(h:w.ownsRow B e size v n xs){k pos:Nat}{s:ByteArray}(hk:w.heap[k]?=some (.stringIter s pos))(pos':Nat):(w.iterAt k s pos').ownsRow B e size v n xs:=by
 obtain ⟨h1,⟨rfl,h2⟩ | ⟨g,cap,cur,rfl,hb,hh,hc,hm,hz,ht⟩⟩:=h
 ·exact ⟨h1,Or.inl ⟨rfl,h2⟩⟩
 ·refine ⟨h1,Or.inr ⟨g,cap,cur,rfl,hb,?_,hc,hm,hz,ht⟩⟩;rw [Lib.iterAt_other _ _ _ _ _ (by rintro rfl;rw [hk] at hh;cases hh)];exact hh
theorem aOs{B:Nat}{e:TypeId}{size:Nat}{n:Nat}{xs:List Value}(h:w.ownsRow B e size v (n+1) xs):∃g c,v=.slice (some ⟨g,0,none⟩) (n+1) c:=by
 obtain ⟨_,⟨rfl,h2⟩ | ⟨g,cap,cur,rfl,_⟩⟩:=h
 ·omega
 ·exact ⟨g,cap,rfl⟩
structure wN(w:World)(s:ByteArray)(it:Nat)(v:Value)(pos:Nat)(G:List Gl)(wr:World):Prop where
 le:pos<=s.size
 iter:wr.heap[it]?=some (.stringIter s pos)
 row:wr.ownsRow w.heap.size 128 2 v G.length (lY G)
 low:Below w.heap.size w wr
 high:w.heap.size<=it
 few:G.length<=pos
 eq:G++bS s pos=bS s 0
theorem wN.next{it:Nat}{pos:Nat}{G:List Gl}{wr:World}(h:wN w s it v pos G wr)(hp:pos<s.size){v':Value}{w1:World}{X:Obj}(ho:w1.ownsRow w.heap.size 128 2 v' (G.length+1) (lY G++[.int .i32 (kO s pos),.int .i64 pos]))(hg:((wr.iterAt it s (pos+(zz s pos).2)).alloc X).grownBy w1 v.ownBlock) :
  wN w s it v' (pos+(zz s pos).2) (G++[(kO s pos,pos)]) w1:=by
 have h1:=(uV s pos).1;have hi2:=Lib.iterAt_heap wr it s pos (pos+(zz s pos).2) h.iter;have hlt:=(zr.1 hi2).1;have hrow:=aGc h.row h.iter (pos+(zz s pos).2);have hlow:=Lib.below_iterAt h.low h.high s (pos+(zz s pos).2);refine ⟨aG8 s pos hp,?_,by rw [aG9,List.length_append];exact ho,?_,h.high,by have:=h.few;simp;omega,?_⟩
 ·rw [hg.block it (by simp;omega) ?_]
  ·have hA:=(Below.refl _ (wr.iterAt it s (pos+(zz s pos).2))).alloc (zx _) X;rw [hA.block it hlt];exact hi2
  ·intro e;obtain ⟨_,⟨rfl,_⟩ | ⟨g,cap,cur,rfl,_,hh,_⟩⟩:=hrow
   ·simp [zq] at e
   ·simp [zq] at e;subst e;rw [hi2] at hh;cases hh
 ·exact (hlow.alloc hlow.size X).grown hg (by have:=hlow.size;simp;omega) (λk e=>(aT hrow k e).1)
 ·rw [List.append_assoc,<-h.eq,sB hp];rfl
theorem aOt(s:ByteArray)(w:World)(hs:s.size<=3000) :
  Calls zy 48 #[.string s] w λe w'=>∃g cap,e=.returned (.slice (some ⟨g,0,none⟩) (bS s 0).length cap)/\w'.ownsRow w.heap.size 128 2 (.slice (some ⟨g,0,none⟩) (bS s 0).length cap) (bS s 0).length (lY (bS s 0))/\Below w.heap.size w w':=by
 obtain ⟨iG,hG,hG0,hG1,hG2⟩:=info_parts aOk;go_enter Tryz.func48,Tryz.ntmps48;go_wp2_with (first
  | (at_make;refine wpList_make_own _ rfl _ _ 76 rfl w.heap.size 128 iG (.agg #[.int .i32 0,.int .i64 0]) 2 zw hG hG0 hG1 .i64 .i64 _ (s.size+1) rfl rfl (by simp) (by rw [hG2];omega) (by unfold maxLen;omega) (zx _) ?_;intro w1 ho1 hg1;have HR1:=aA ho1;have HB1:Hid (Below w.heap.size w w1):=aA ((Below.refl _ w).grown hg1 (zx _) (λk e=>by cases e));clear ho1 hg1)
  | go_in)
 have hw1:=HB1.out.size;have HG0:Hid (wN w s w1.heap.size (.slice (some ⟨w.heap.size,0,none⟩) 0 (s.size+1)) 0 [] (w1.iter s 0)):=aA ⟨Nat.zero_le _,by have:=ze w1 s 0;simpa using this,HR1.out.alloc _,HB1.out.alloc hw1 _,hw1,zx _,rfl⟩;clear HR1 HB1;generalize w1.heap.size=it at *;go_loopw [3] (λv wr=>∃(pos:Nat) (G:List Gl),wN w s it v pos G wr) (λ_ wr=>s.size-wr.iterPos it);case atStart=>exact ⟨0,[],HG0.out⟩
 case round=>
  clear HG0;obtain ⟨pos,G,hL⟩:=hrel;have HL:=aA hL;have hit:=hL.iter;have hfew:=hL.few;have hle:=hL.le;have hlow:=hL.low.size;by_cases hp:pos<s.size
  ·have hnx:∀ty,(Instr.next (.pointer (some ⟨it,0,none⟩)) true ty).run zy wr=_:=λty=>Lib.run_next_any_at wr it s pos ty hit hp
   have hit2:=Lib.iterAt_heap wr it s pos (pos+(zz s pos).2) hit;have HIT:=aA hit;have HIT2:=aA hit2;have HR2:=aA (aGc hL.row hit (pos+(zz s pos).2));have hz2:(wr.iterAt it s (pos+(zz s pos).2)).heap.size=wr.heap.size:=Lib.iterAt_size _ _ _ _;have HN:=aA (λ(v':Value) (w1:World) (X:Obj) ho hg=>HL.out.next hp (v':=v') (w1:=w1) (X:=X) ho hg);obtain ⟨va,vc,rfl⟩:=aS hL.row;have hpz:(0:Int)<=(pos:Int):=by omega
   have hps:(pos:Int)<=(s.size:Int):=by omega
   have hd1:=(uV s pos).1;obtain ⟨dw,hdw⟩ : ∃dw,(zz s pos).2=dw:=⟨_,rfl⟩;obtain ⟨dc,hdc⟩ : ∃dc,(zz s pos).1=dc:=⟨_,rfl⟩;have hff:=aOj s pos;have HGC:Hid (kO s pos=if dc=65533/\dw=1 then -2 else (dc:Int)):=aA (by unfold kO;rw [hdc,hdw]);rw [hdw,hdc] at hnx;rw [hdw] at hit2 HIT2 HR2 hz2 HN hd1;rw [hdw,hdc] at hff;generalize kO s pos=gc at *;clear hit hL HL hdw hdc;have hz3:w.heap.size<=(wr.iterAt it s (pos+dw)).heap.size:=by omega
   clear hz2;generalize hW:wr.iterAt it s (pos+dw)=W at *;by_cases hf:dc=65533
   ·subst hf;have hpre:Lib.hasPrefix (s.extract pos s.size).data.toList [239,191,189] = !decide (dw=1):=by
     have:=hff rfl;rw [<-this];congr 1
     exact Lib.extract_to_end s pos
    have CP:=aA (λwx=>Any.strings_HasPrefix aOl (s.extract pos s.size) ⟨#[239,191,189]⟩ wx);rw [show (⟨#[239,191,189]⟩ : ByteArray).data.toList=[239,191,189] from rfl,hpre] at CP;clear hpre hff;by_cases h1:dw=1
    ·subst h1;have hgc:gc=-2:=by rw [HGC.out,if_pos ⟨rfl,rfl⟩]
     subst hgc;go_wp2_with (first
      | (go_at_call 72;refine (aB CP _).mono ?_;rintro e w1 ⟨rfl,rfl⟩)
      | (at_builtin;refine wpList_append_own _ rfl (.tmp 25) (.tmp 29) 76 rfl w.heap.size 128 iG (.agg #[.int .i32 0,.int .i64 0]) 2 16 zw hG hG0 hG1 hG2 rfl (by decide) _ _ _ rfl (HR2.out.alloc _) ⟨_,0,none⟩ 1 1 [.int .i32 (-2),.int .i64 pos] rfl rfl (gK w1 _ _ _ _ rfl) (yY _ _) (by unfold maxLen;omega) (by omega) (by simp;omega) ?_;intro v3 w3 ho3 hg3 _;have HN3:=aA (HN.out _ _ _ ho3 hg3);obtain ⟨va3,vc3,rfl⟩:=aS ho3;clear ho3 hg3)
      | go_in)
     go_roundw;case rel=>exact ⟨_,_,HN3.out⟩
     case measure=>simp only [zp,HIT.out,HN3.out.iter];omega
    ·have hgc:gc=((65533:Nat):Int):=by rw [HGC.out,if_neg (λh=>h1 h.2)]
     subst hgc;rw [decide_eq_false h1] at CP;go_wp2_with (first
      | (go_at_call 72;refine (aB CP _).mono ?_;rintro e w1 ⟨rfl,rfl⟩)
      | (at_builtin;refine wpList_append_own _ rfl (.tmp 25) (.tmp 29) 76 rfl w.heap.size 128 iG (.agg #[.int .i32 0,.int .i64 0]) 2 16 zw hG hG0 hG1 hG2 rfl (by decide) _ _ _ rfl (HR2.out.alloc _) ⟨_,0,none⟩ 1 1 [.int .i32 65533,.int .i64 pos] rfl rfl (gK w1 _ _ _ _ rfl) (yY _ _) (by unfold maxLen;omega) (by omega) (by simp;omega) ?_;intro v3 w3 ho3 hg3 _;have HN3:=aA (HN.out _ _ _ ho3 hg3);obtain ⟨va3,vc3,rfl⟩:=aS ho3;clear ho3 hg3)
      | go_in)
     go_roundw;case rel=>exact ⟨_,_,HN3.out⟩
     case measure=>simp only [zp,HIT.out,HN3.out.iter];omega
   ·have hf0:((dc:Int) == 65533)=false:=by rw [beq_eq_false_iff_ne];omega
    have hgc:gc=(dc:Int):=by rw [HGC.out,if_neg (λh=>hf h.1)]
    subst hgc;go_wp2_with (first
     | (at_builtin;refine wpList_append_own _ rfl (.tmp 25) (.tmp 29) 76 rfl w.heap.size 128 iG (.agg #[.int .i32 0,.int .i64 0]) 2 16 zw hG hG0 hG1 hG2 rfl (by decide) _ _ _ rfl (HR2.out.alloc _) ⟨_,0,none⟩ 1 1 [.int .i32 dc,.int .i64 pos] rfl rfl (gK W _ _ _ _ rfl) (yY _ _) (by unfold maxLen;omega) (by omega) (by simp;omega) ?_;intro v3 w3 ho3 hg3 _;have HN3:=aA (HN.out _ _ _ ho3 hg3);obtain ⟨va3,vc3,rfl⟩:=aS ho3;clear ho3 hg3)
     | go_in)
    go_roundw;case rel=>exact ⟨_,_,HN3.out⟩
    case measure=>simp only [zp,HIT.out,HN3.out.iter];omega
  ·have hnx:∀ty,(Instr.next (.pointer (some ⟨it,0,none⟩)) true ty).run zy wr=_:=λty=>Lib.run_next_end_at wr it s pos ty hit hp
   obtain ⟨va,vc,rfl⟩:=aS hL.row;have HRW:=aA hL.row;have HLW:=aA hL.low;have HEQ:Hid (bS s 0=G++[(-1,s.size)]):=aA (by rw [<-hL.eq,aBh hp]);clear hL hit;go_wp2_with (first
    | (at_builtin;refine wpList_append_own _ rfl (.tmp 31) (.tmp 35) 76 rfl w.heap.size 128 iG (.agg #[.int .i32 0,.int .i64 0]) 2 16 zw hG hG0 hG1 hG2 rfl (by decide) _ _ _ rfl (HRW.out.alloc _) ⟨_,0,none⟩ 1 1 [.int .i32 (-1),.int .i64 s.size] rfl rfl (gK wr _ _ _ _ rfl) (yY _ _) (by unfold maxLen;omega) (by omega) (by simp;omega) ?_;intro v3 w3 ho3 hg3 _;have HO3:=aA ho3;have HG3:=aA hg3;obtain ⟨g3,c3,rfl⟩:=aOs ho3;clear ho3 hg3)
    | go_in)
   go_ret;have hl:(bS s 0).length=G.length+1:=by rw [HEQ.out];simp
   rw [hl,HEQ.out,aG9];exact ⟨g3,c3,rfl,HO3.out,(HLW.out.alloc HLW.out.size _).grown HG3.out (by have:=HLW.out.size;simp;omega) (λk e=>(aT HRW.out k e).1)⟩
end
section
open Go.RowKit
def aP(s:ByteArray)(p:Nat):Int:=if p<s.size then kO s p else -1
def gR(s:ByteArray)(p:Nat):Nat:=(zz s p).2
theorem lF(s:ByteArray)(p:Nat)(hp:p<s.size)(h:aD s p<128):aP s p=aD s p/\gR s p=1:=by unfold aP gR kO;rw [if_pos hp,Lib.decode_N,<-kU];unfold Lib.decodeN;rw [if_pos h];simp only;rw [if_neg (by omega)];refine ⟨?_,?_⟩ <;> first | rfl | trivial
theorem wO(s:ByteArray)(p:Nat)(hp:p<s.size)(h:128<=aD s p):aP s p=-2\/128<=aP s p:=by
 unfold aP kO;rw [if_pos hp,Lib.decode_N,<-kU];have h0:=sL s p;unfold Lib.decodeN;simp only [if_neg (show ¬aD s p<128 by omega)];repeat' split
 all_goals first | exact Or.inl rfl | (right;simp only at *;omega)
theorem eQ(s:ByteArray)(p:Nat)(hp:p<s.size)(c:Nat)(hc:c<128):aP s p=(c:Int)↔aD s p=c:=by
 by_cases h:aD s p<128
 ·rw [(lF s p hp h).1];omega
 ·rcases wO s p hp (by omega) with e | e
  ·rw [e];omega
  ·omega
theorem nE(s:ByteArray)(p:Nat)(hp:¬p<s.size):aP s p=-1:=if_neg hp
theorem yZ(s:ByteArray)(p:Nat)(hp:p<s.size):aP s p≠-1:=by
 by_cases h:aD s p<128
 ·rw [(lF s p hp h).1];omega
 ·rcases wO s p hp (by omega) with e | e
  ·rw [e];omega
  ·omega
theorem wP(s:ByteArray)(p:Nat):1<=gR s p:=(uV s p).1
theorem wQ(s:ByteArray)(p:Nat)(hp:p<s.size):p+gR s p<=s.size:=aG8 s p hp
theorem aBl(s:ByteArray)(p:Nat):aBj (aP s p):=by
 unfold aP;split
 ·exact aOr s p
 ·exact Or.inl rfl
theorem aOu(s:ByteArray)(p i:Nat)(hp:p<s.size)(h0:0<i)(hi:i<gR s p):128<=aD s (p+i):=by
 have hd:=zT s p hp;unfold gR at hi;unfold qV at hd;by_cases hx:(zz s p).1=65533/\(zz s p).2=1
 ·omega
 ·rw [if_neg hx] at hd;exact aIv s p i (by omega) h0 (by omega)
theorem aBm(s:ByteArray)(p:Nat)(hp:p<=s.size):∃r,bS s p=(aP s p,p) :: r:=by
 by_cases h:p<s.size
 ·exact ⟨_,by rw [sB h];unfold aP;rw [if_pos h]⟩
 ·have:p=s.size:=by omega
  subst this;exact ⟨[],by rw [aBh h];unfold aP;rw [if_neg h]⟩
def bL(w:World)(pb:Nat)(left:Value)(k a:Int)(wd:ByteArray)(vC vP vM:Value):Prop:=w.heap[pb]?=some (.cells #[left,.int .i32 k,.int .i64 a,.string wd,vC,vP,vM] 82)
section
variable {w:World}{pb:Nat}{left:Value}{k a:Int}{wd:ByteArray}{vC vP vM:Value}
theorem bL.c0(h:bL w pb left k a wd vC vP vM):w.cell? ⟨pb,0,none⟩=some left:=by unfold bL at h;simp [zv,h]
theorem bL.c1(h:bL w pb left k a wd vC vP vM):w.cell? ⟨pb,1,none⟩=some (.int .i32 k):=by unfold bL at h;simp [zv,h]
theorem bL.c2(h:bL w pb left k a wd vC vP vM):w.cell? ⟨pb,2,none⟩=some (.int .i64 a):=by unfold bL at h;simp [zv,h]
theorem bL.c3(h:bL w pb left k a wd vC vP vM):w.cell? ⟨pb,3,none⟩=some (.string wd):=by unfold bL at h;simp [zv,h]
theorem bL.c4(h:bL w pb left k a wd vC vP vM):w.cell? ⟨pb,4,none⟩=some vC:=by unfold bL at h;simp [zv,h]
theorem bL.c5(h:bL w pb left k a wd vC vP vM):w.cell? ⟨pb,5,none⟩=some vP:=by unfold bL at h;simp [zv,h]
theorem bL.c6(h:bL w pb left k a wd vC vP vM):w.cell? ⟨pb,6,none⟩=some vM:=by unfold bL at h;simp [zv,h]
theorem bL.soft(h:bL w pb left k a wd vC vP vM)(j:Nat):w.frozen? ⟨pb,j,none⟩=false:=by unfold bL at h;simp [World.frozen?,h]
theorem bL.lt(h:bL w pb left k a wd vC vP vM):pb<w.heap.size:=(zr.1 h).1
theorem bL.below(h:bL w pb left k a wd vC vP vM){w':World}{B:Nat}(q:Below B w w')(hB:w.heap.size<=B):bL w' pb left k a wd vC vP vM:=by have:=h.lt;unfold bL;rw [q.block pb (by omega)];exact h
theorem bL.set0(h:bL w pb left k a wd vC vP vM)(v:Value):bL (w.setCell ⟨pb,0,none⟩ v) pb v k a wd vC vP vM:=heap_setCell_same w pb 0 _ _ _ h
theorem bL.row(h:bL w pb left k a wd vC vP vM){B:Nat}{e:TypeId}{size:Nat}{v:Value}{n:Nat}{xs:List Value}(ho:w.ownsRow B e size v n xs)(he:e≠82)(j:Nat)(u:Value):(w.setCell ⟨pb,j,none⟩ u).ownsRow B e size v n xs:=by
 refine ownsRow_setCell_other ho ?_ u;intro hx;obtain ⟨_,⟨rfl,_⟩ | ⟨g,cap,cur,rfl,hb,hh,_⟩⟩:=ho
 ·simp [zq] at hx
 ·simp [zq] at hx;subst hx;unfold bL at h;rw [h] at hh;simp at hh;exact he hh.2.symm
end
structure bH(B:Nat)(w:World)(pb:Nat)(s:ByteArray)(p g j m c:Nat)(k a:Int)(wd:ByteArray)(vC vP vM:Value):Prop where
 box:bL w pb (.slice (some ⟨g,j*2,none⟩) (m+1) (c+1)) k a wd vC vP vM
 high:B<=pb
 row:w.ownsRow B 128 2 (.slice (some ⟨g,0,none⟩) (j+m+1) (j+c+1)) (j+m+1) (lY (bS s 0))
 len:(bS s 0).length=j+m+1
 drop:(bS s 0).drop j=bS s p
 le:p<=s.size
section
variable {B:Nat}{w w':World}{pb:Nat}{s:ByteArray}{p g j m c:Nat}{k a:Int}{wd:ByteArray}{vC vP vM:Value}
theorem bH.below(h:bH B w pb s p g j m c k a wd vC vP vM)(q:Below w.heap.size w w'):bH B w' pb s p g j m c k a wd vC vP vM:=
 ⟨h.box.below q (zx _),h.high,aU h.row q (zx _),h.len,h.drop,h.le⟩
theorem bH.at0(h:bH B w pb s p g j m c k a wd vC vP vM):w.cell? ⟨g,j*2,none⟩=some (.int .i32 (aP s p))/\w.cell? ⟨g,j*2+1,none⟩=some (.int .i64 p):=by
 obtain ⟨r,hr⟩:=aBm s p h.le;have hj:j<(bS s 0).length:=by have:=h.len;omega
 have he:(bS s 0)[j]=(aP s p,p):=by
  have h1:((bS s 0).drop j)[0]?=some (aP s p,p):=by rw [h.drop,hr];rfl
  rw [List.getElem?_drop,List.getElem?_eq_getElem (by omega)] at h1;simpa using h1
 obtain ⟨q1,q2⟩:=aBi (bS s 0) j hj;rw [he] at q1 q2;exact ⟨by rw [h.row.cellAt _ (by omega),q1],by rw [h.row.cellAt _ (by omega),q2]⟩
theorem bH.more(h:bH B w pb s p g j m c k a wd vC vP vM)(hp:p<s.size):∃m' c',m=m'+1/\c=c'+1:=by
 have hl:=h.len;have hd:=congrArg List.length h.drop;rw [List.length_drop,sB hp,List.length_cons] at hd;have h1:=(yW s _ (p+(zz s p).2) (zx _)).1;have hr:=h.row.2;obtain ⟨_,hr⟩:=h.row;rcases hr with ⟨e,_⟩ | ⟨g',cap,cur,e,_,_,hc,_⟩
 ·simp at e
 ·simp at e;obtain ⟨_,rfl⟩:=e;exact ⟨m-1,c-1,by omega,by omega⟩
theorem bH.step(h:bH B w pb s p g j (m+1) (c+1) k a wd vC vP vM)(hp:p<s.size):bH B (w.setCell ⟨pb,0,none⟩ (.slice (some ⟨g,j*2+2,none⟩) (m+1) (c+1))) pb s (p+gR s p) g (j+1) m c k a wd vC vP vM:=by
 rw [show j*2+2=(j+1)*2 by omega];refine ⟨h.box.set0 _,h.high,?_,by have:=h.len;omega,?_,wQ s p hp⟩
 ·have:=h.box.row h.row (by decide) 0 (.slice (some ⟨g,(j+1)*2,none⟩) (m+1) (c+1));rw [show j+1+m+1=j+(m+1)+1 by omega,show j+1+c+1=j+(c+1)+1 by omega];exact this
 ·have hd:=h.drop;rw [sB hp] at hd;have:(bS s 0).drop (j+1)=((bS s 0).drop j).drop 1:=by rw [List.drop_drop]
  rw [this,hd];rfl
end
theorem aBn{W:World}(h:Below w.heap.size w W){q:Addr}(hq:q.block<w.heap.size)(u:Value):Below (w.setCell q u).heap.size (w.setCell q u) (W.setCell q u):=by
 refine ⟨h.os,h.tape,h.output,by have:=h.size;simpa [zm] using this,λk hk=>?_⟩;have hk':k<w.heap.size:=by simpa [zm] using hk
 have e:=h.block k hk';by_cases hkq:k=q.block
 ·subst hkq;have hW:q.block<W.heap.size:=Nat.lt_of_lt_of_le hq h.size;have e':W.heap[q.block]?=w.heap[q.block]?:=e;simp only [zm];rw [zn,zn];simp [e']
 ·rw [Below.heap_setCell _ _ _ _ hkq,Below.heap_setCell _ _ _ _ hkq,e]
theorem aOv{p:Nat}(hp:p<s.size)(h:aP s p≠10):gT s p=gT s (p+gR s p):=by
 have hb:aD s p≠10:=λe=>h ((eQ s p hp 10 (by omega)).2 e)
 have key:∀i,1<=i->i<=gR s p->gT s p=gT s (p+i):=by
  intro i h1;induction i with
  | zero=>omega
  | succ i ih=>
   intro hi;by_cases h0:i=0
   ·subst h0;exact aCt hp hb
   ·rw [ih (by omega) (by omega)];have hin:=wQ s p hp;exact aCt (by omega) (by have:=aOu s p i hp (by omega) (by omega);omega)
 exact key _ (wP s p) (zx _)
def fU(k a:Int)(wd:ByteArray):Value:=.agg #[.int .i32 k,.int .i64 a,.string wd]
section
variable {B:Nat}{pb:Nat}{s:ByteArray}{p g j m c:Nat}{k a:Int}{wd:ByteArray}{vC vP vM:Value}
theorem uW(h:bH B w pb s p g j m c k a wd vC vP vM):Calls zy 80 #[.pointer (some ⟨pb,0,none⟩)] w λe w'=>e=.returned (fU (-2) p ⟨#[]⟩)/\Below w.heap.size w w':=by
 have d0:=h.box.c0;have e0:∀o,(w.alloc o).cell? ⟨pb,0,none⟩=some (.slice (some ⟨g,j*2,none⟩) (m+1) (c+1)):=λo=>Below.at' ((Below.refl _ w).alloc (zx _) o) (zx _) d0
 have e1:∀o,(w.alloc o).cell? ⟨g,j*2+1,none⟩=some (.int .i64 p):=λo=>Below.at' ((Below.refl _ w).alloc (zx _) o) (zx _) h.at0.2
 clear h d0;go_enter Tryz.func80,Tryz.ntmps80;go_wp2;go_returns;exact ⟨rfl,(Below.refl _ w).alloc (zx _) _⟩
theorem aOw(h:bH B w pb s p g j m c k a wd vC vP vM):Calls zy 104 #[.pointer (some ⟨pb,0,none⟩)] w λe w'=>e=.returned (.tuple #[])/\w.grownBy w' (some pb)/\∃j' m' c',bH B w' pb s (gT s p) g j' m' c' k a wd vC vP vM:=by
 have hle:=h.le;go_enter Tryz.func104,Tryz.ntmps104;go_wp2;go_loopg [] (s.size-p) (λq wr=>∃p' j' m' c',bH B wr pb s p' g j' m' c' k a wd vC vP vM/\gT s p=gT s p'/\q=s.size-p'/\w.grownBy wr (some pb));case atStart=>exact ⟨p,j,m,c,h,rfl,rfl,World.grownBy.refl _ _⟩
 case round=>
  obtain ⟨p',j',m',c',hS,he,hq,hg⟩:=hrel;have d0:=hS.box.c0;have f0:=hS.box.soft 0;have d1:=hS.at0.1;have HS:=aA hS;have HE:=aA he;have HG:=aA hg;have hle':=hS.le;by_cases h10:aP s p'=10
  ·have hp':p'<s.size:=Classical.byContradiction λhn=>by rw [nE s p' hn] at h10;omega
   have HL:Hid (gT s p=p'):=aA (by rw [he];exact aIw λhx=>hx.2 ((eQ s p' hp' 10 (by omega)).1 h10));rw [h10] at d1;clear hS he hg h;go_wp2;go_returns;exact ⟨rfl,HG.out,j',m',c',by rw [HL.out];exact HS.out⟩
  ·by_cases hp':p'<s.size
   ·have hne:=yZ s p' hp';obtain ⟨m2,c2,rfl,rfl⟩:=hS.more hp';have HS2:=aA (hS.step hp');have HL2:=aA (aOv hp' h10);have hw:=wP s p';have hwi:=wQ s p' hp';generalize aP s p'=cc at *;have h10':(cc != 10)=true:=by simpa using h10
    have hne':(cc != -1)=true:=by simpa using hne
    clear hS he hg h;go_wp2;go_roundg (s.size-(p'+gR s p'));case measure=>omega
    case rel=>exact ⟨p'+gR s p',j'+1,m2,c2,HS2.out,by rw [HE.out,HL2.out],rfl,qY HG.out _⟩
   ·have hn1:=nE s p' hp';rw [hn1] at d1;have HL:Hid (gT s p=p'):=aA (by rw [he];exact aIw λhx=>hp' hx.1);clear hS he hg h;go_wp2;go_returns;exact ⟨rfl,HG.out,j',m',c',by rw [HL.out];exact HS.out⟩
theorem aOx(ch:Int)(w:World):Calls zy 103 #[.int .i32 ch] w λe w'=>e=.returned (.bool (decide (ch=32) || decide (ch=9) || decide (ch=10)))/\w'=w:=by
 go_enter Tryz.func103,Tryz.ntmps103;by_cases h1:ch=32
 ·subst h1;go_wp2;go_ret;exact ⟨rfl,rfl⟩
 ·have q1:(ch == 32)=false:=by simpa using h1
  by_cases h2:ch=9
  ·subst h2;go_wp2;go_ret;exact ⟨rfl,rfl⟩
  ·have q2:(ch == 9)=false:=by simpa using h2
   go_wp2;go_ret;exact ⟨cI (by simp [h1,h2];rfl),rfl⟩
def lG(s:ByteArray):Nat->Nat->Nat
 | 0,p=>p
 | f+1,p=>if p<s.size then if nP (aD s p) then lG s f (p+1) else if aD s p=37 then lG s f (gT s p) else p else p
theorem aOy(s:ByteArray):∀f p,s.size<p+f->p<=s.size->qX s f p=(if lG s f p<s.size then eV s (lG s f p) else .stop s.size)/\lG s f p<=s.size/\(lG s f p<s.size->nP (aD s (lG s f p))=false/\aD s (lG s f p)≠37):=by
 intro f;induction f with
 | zero=>intro p h1 h2;omega
 | succ f ih=>
  intro p h1 h2;rw [qX,lG];by_cases hp:p<s.size
  ·rw [if_pos hp,if_pos hp];by_cases hg:nP (aD s p)=true
   ·rw [if_pos hg,if_pos hg];exact ih (p+1) (by omega) (by omega)
   ·rw [if_neg hg,if_neg hg];by_cases h37:aD s p=37
    ·rw [if_pos h37,if_pos h37];have:=zU hp h37;exact ih _ (by omega) (aCu h2)
    ·rw [if_neg h37,if_neg h37,if_pos hp];exact ⟨rfl,h2,λ_=>⟨by simpa using hg,h37⟩⟩
  ·rw [if_neg hp,if_neg hp,if_neg hp];have:p=s.size:=by omega
   exact ⟨by rw [this],h2,λh=>absurd h hp⟩
theorem aOz(f:Nat)(h:bH B w pb s p g j m c k a wd vC vP vM)(hf:s.size<p+f):Calls zy 73 #[.pointer (some ⟨pb,0,none⟩)] w λe w'=>e=.returned (.tuple #[])/\w.grownBy w' (some pb)/\∃j' m' c',bH B w' pb s (lG s f p) g j' m' c' k a wd vC vP vM:=by
 go_enter Tryz.func73,Tryz.ntmps73;go_wp2;go_loopg [] f (λq wr=>∃p' j' m' c',bH B wr pb s p' g j' m' c' k a wd vC vP vM/\lG s f p=lG s q p'/\s.size<p'+q/\w.grownBy wr (some pb));case atStart=>exact ⟨p,j,m,c,h,rfl,hf,World.grownBy.refl _ _⟩
 case round=>
  obtain ⟨p',j',m',c',hS,he,hq,hg⟩:=hrel;have hle':=hS.le;obtain ⟨q,rfl⟩ : ∃q,gk=q+1:=⟨gk-1,by omega⟩;have d0:=hS.box.c0;have f0:=hS.box.soft 0;have d1:=hS.at0.1;have HS:=aA hS;have HG:=aA hg;have CB:=aA (λwx=>aOx (aP s p') wx);rw [lG] at he;by_cases hp':p'<s.size
  ·rw [if_pos hp'] at he;have hgap:(decide (aP s p'=32) || decide (aP s p'=9) || decide (aP s p'=10))=nP (aD s p'):=by
    unfold nP;have q1:=eQ s p' hp' 32 (by omega);have q2:=eQ s p' hp' 9 (by omega);have q3:=eQ s p' hp' 10 (by omega);have q1:(aP s p'=32)=(aD s p'=32):=propext q1;have q2:(aP s p'=9)=(aD s p'=9):=propext q2;have q3:(aP s p'=10)=(aD s p'=10):=propext q3;simp only [q1,q2,q3]
   rw [hgap] at CB;have h37:=eQ s p' hp' 37 (by omega);by_cases hgp:nP (aD s p')=true
   ·rw [if_pos hgp] at he;rw [hgp] at CB;obtain ⟨m2,c2,rfl,rfl⟩:=hS.more hp';have hlow:aD s p'<128:=by unfold nP at hgp;simp at hgp;omega
    have HS2:=aA (hS.step hp');rw [(lF s p' hp' hlow).2] at HS2;have HE:=aA he;clear hS he hg h hgap h37;go_wp2_with (go_at_call 103;refine (aB CB _).mono ?_;rintro e w1 ⟨rfl,rfl⟩);go_roundg q;case measure=>omega
    case rel=>exact ⟨p'+1,j'+1,m2,c2,HS2.out,HE.out,by omega,qY HG.out _⟩
   ·rw [if_neg hgp] at he;have hgp':nP (aD s p')=false:=by simpa using hgp
    rw [hgp'] at CB;by_cases hb37:aD s p'=37
    ·rw [if_pos hb37] at he;have h37':=h37.2 hb37;rw [h37'] at d1;have hgt:=zU hp' hb37;have HE:=aA he;clear hS he hg h hgap h37;go_wp2_with (first
      | (go_at_call 103;rw [h37'] at CB;refine (aB CB _).mono ?_;rintro e w1 ⟨rfl,rfl⟩)
      | (go_at_call 104;refine (aOw HS.out).mono ?_;rintro e w1 ⟨rfl,hg1,j1,m1,c1,hS1⟩;have HG1:=aA hg1;have HS1:=aA hS1;clear hg1 hS1))
     go_roundg q;case measure=>omega
     case rel=>exact ⟨gT s p',j1,m1,c1,HS1.out,HE.out,by omega,HG.out.trans HG1.out⟩
    ·rw [if_neg hb37] at he;have hn37:aP s p'≠37:=λe=>hb37 (h37.1 e)
     have HE:=aA he;generalize aP s p'=cc at *;have h37':(cc == 37)=false:=by simpa using hn37
     clear hS he hg h hgap h37;go_wp2_with (go_at_call 103;refine (aB CB _).mono ?_;rintro e w1 ⟨rfl,rfl⟩);go_returns;exact ⟨rfl,HG.out,j',m',c',by rw [HE.out];exact HS.out⟩
  ·rw [if_neg hp'] at he;have HE:=aA he;rw [nE s p' hp'] at d1 CB;clear hS he hg h;go_wp2_with (go_at_call 103;refine (aB CB _).mono ?_;rintro e w1 ⟨rfl,rfl⟩);go_returns;exact ⟨rfl,HG.out,j',m',c',by rw [HE.out];exact HS.out⟩
end
theorem aGd(c:Int)(w:World):Calls zy 74 #[.int .i32 c] w λe w'=>e=.returned (.bool (fR c))/\w'=w:=by
 unfold fR;by_cases h:97<=c;all_goals
  go_enter Tryz.func74,Tryz.ntmps74;go_wp2;go_ret;exact ⟨cI (by rw [zo];simp;omega),rfl⟩
theorem aGe(c:Int)(w:World):Calls zy 76 #[.int .i32 c] w λe w'=>e=.returned (.bool (eU c))/\w'=w:=by
 unfold eU;by_cases h:65<=c;all_goals
  go_enter Tryz.func76,Tryz.ntmps76;go_wp2;go_ret;exact ⟨cI (by rw [zo];simp;omega),rfl⟩
theorem aP0(c:Int)(w:World):Calls zy 127 #[.int .i32 c] w λe w'=>e=.returned (.bool (tY c))/\w'=w:=by
 unfold tY;by_cases h:48<=c;all_goals
  go_enter Tryz.func127,Tryz.ntmps127;go_wp2;go_ret;exact ⟨cI (by rw [zo];simp;omega),rfl⟩
theorem aP1(c:Int)(w:World):Calls zy 105 #[.int .i32 c] w λe w'=>e=.returned (.bool (hH c))/\w'=w:=by
 have c1:=aGd c w;have c2:=aGe c w;have c3:=aP0 c w;have HI:Hid (hH c=(fR c || eU c || tY c || c == 95)):=rfl;generalize fR c=b1 at *;generalize eU c=b2 at *;generalize tY c=b3 at *;go_enter Tryz.func105,Tryz.ntmps105;cases b1 <;> cases b2 <;> cases b3;all_goals
  go_wp2_with (first
   | (go_at_call 74;refine c1.mono ?_;rintro e w' ⟨rfl,rfl⟩)
   | (go_at_call 76;refine c2.mono ?_;rintro e w' ⟨rfl,rfl⟩)
   | (go_at_call 127;refine c3.mono ?_;rintro e w' ⟨rfl,rfl⟩))
  go_ret;exact ⟨cI (by rw [HI.out];simp),rfl⟩
def nH(c:Int):Bool:=decide (c=39) || decide (c=92)
theorem aP2(c:Int)(w:World):Calls zy 106 #[.int .i32 c] w λe w'=>e=.returned (.bool (nH c))/\w'=w:=by
 by_cases h:c=39
 ·have h1:(c == 39)=true:=by simp [h]
  have HE:=aA (show nH c=true by simp [nH,h]);clear h;go_enter Tryz.func106,Tryz.ntmps106;go_wp2;go_ret;exact ⟨cI HE.out.symm,rfl⟩
 ·have h1:(c == 39)=false:=by simp [h]
  have HE:=aA (show nH c=(c == 92) by simp [nH,h];rfl);clear h;go_enter Tryz.func106,Tryz.ntmps106;go_wp2;go_ret;exact ⟨cI HE.out.symm,rfl⟩
end
end Go.Proofs.YtcldkjcpofjmhaaGreatDoor
