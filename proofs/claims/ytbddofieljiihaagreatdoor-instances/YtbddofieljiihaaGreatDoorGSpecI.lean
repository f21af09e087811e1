/- Pure: the characters of a text, as the program lists them. The library's functions that the reader calls: their numbers here, for the library's contracts. The program: which characters are marks. The program: the characters of a text are listed. The program's scanner: what it holds in memory; pure: characters and bytes. The program's scanner: a bad token; gaps are left out. -/
import Derived.Test.YtbddofieljiihaaGreatDoorNameEqI
import Derived.Test.YtbddofieljiihaaGreatDoorRPrim0I
import Derived.Shelf.Strings.Runes
import Derived.Shelf.Strings.Prefix
import Derived.Test.YtbddofieljiihaaGreatDoorProg
import Derived.Lib.OthersKept
import Derived.Laws.Runes
import Derived.Shelf.Small.Utf8
import Derived.Shelf.Small.Strs
import Derived.Deep.RegionWith
import Derived.WalkMore
import Derived.OwnWalk
import Derived.Lib.IndexBytes
import Derived.Deep.LoopGhost
namespace Go.Proofs.YtbddofieljiihaaGreatDoor
open Go.RowKit
set_option maxRecDepth 100000
abbrev Gl:=Int×Nat
def jO (s:ByteArray) (p:Nat):Int:=if (Utf8.decode s p).1=65533∧(Utf8.decode s p).2=1 then -2 else ((Utf8.decode s p).1:Int)
theorem rX (s:ByteArray) (p:Nat):1≤(Utf8.decode s p).2∧(Utf8.decode s p).2≤4:=by
 rw [Lib.decode_N]
 unfold Lib.decodeN
 repeat' split
 all_goals simp
theorem aDx (s:ByteArray) (p:Nat) (hp:p < s.size):p+(Utf8.decode s p).2≤s.size:=by
 rw [Lib.decode_N,←kK]
 unfold Lib.decodeN
 repeat' split
 all_goals (simp only;omega)
def qU (s:ByteArray):Nat→Nat→List Gl
 | 0,_=>[(-1,s.size)]
 | f+1,p=>if p < s.size then (jO s p,p) :: qU s f (p+(Utf8.decode s p).2) else [(-1,s.size)]
theorem aMu (s:ByteArray):∀f p,s.size - p≤f→qU s f p=qU s (s.size - p) p:=by
 intro f
 induction f using Nat.strongRecOn with
 | _ f ih=>
  intro p h
  by_cases hp:p < s.size
  ·obtain ⟨f',rfl⟩ : ∃f',f=f'+1:=⟨f - 1,by omega⟩
   obtain ⟨g,hg⟩ : ∃g,s.size - p=g+1:=⟨s.size - p - 1,by omega⟩
   rw [hg]
   simp only [qU]
   rw [if_pos hp,if_pos hp]
   have h1:=(rX s p).1
   rw [ih f' (by omega) _ (by omega)]
   by_cases hgf:g < f'+1
   ·rw [ih g (by omega) _ (by omega)]
   ·omega
  ·have h0:s.size - p=0:=by omega
   rw [h0]
   cases f with
   | zero=>rfl
   | succ f=>simp only [qU];rw [if_neg hp]
def bL (s:ByteArray) (p:Nat):List Gl:=qU s (s.size - p) p
theorem pS {s:ByteArray} {p:Nat} (h:p < s.size):bL s p=(jO s p,p) :: bL s (p+(Utf8.decode s p).2):=by
 unfold bL
 obtain ⟨g,hg⟩ : ∃g,s.size - p=g+1:=⟨s.size - p - 1,by omega⟩
 rw [hg]
 simp only [qU]
 rw [if_pos h,aMu s g _ (by have:=(rX s p).1;omega)]
theorem zG {s:ByteArray} {p:Nat} (h:¬p < s.size):bL s p=[(-1,s.size)]:=by
 unfold bL
 rw [show s.size - p=0 by omega]
 rfl
theorem wA (s:ByteArray):∀n p,s.size - p≤n→1≤(bL s p).length∧(bL s p).length≤n+1:=by
 intro n
 induction n using Nat.strongRecOn with
 | _ n ih=>
  intro p h
  by_cases hp:p < s.size
  ·rw [pS hp]
   have h1:=(rX s p).1
   have:=ih (n - 1) (by omega) (p+(Utf8.decode s p).2) (by omega)
   simp only [List.length_cons]
   omega
  ·rw [zG hp];simp
theorem aMv (l:List UInt8) (p:Nat) (a b c:UInt8) : [a,b,c].isPrefixOf (l.drop p)=true↔l[p]?=some a∧l[p+1]?=some b∧l[p+2]?=some c:=by
 have h0:(l.drop p)[0]?=l[p]?:=by simp
 have h1:(l.drop p)[1]?=l[p+1]?:=by simp
 have h2:(l.drop p)[2]?=l[p+2]?:=by simp
 rw [←h0,←h1,←h2]
 generalize l.drop p=m
 match m with
 | []=>simp
 | [x]=>simp
 | [x,y]=>simp
 | x :: y :: z :: r=>simp;constructor <;> (rintro ⟨rfl,rfl,rfl⟩;exact ⟨rfl,rfl,rfl⟩)
theorem aMw (s:ByteArray) (p:Nat) (h:(Utf8.decode s p).1=65533) :
  Lib.hasPrefix (s.data.toList.drop p) [239,191,189] = !decide ((Utf8.decode s p).2=1):=by
 have hpre:=aMv s.data.toList p 239 191 189
 have key:(s.data.toList[p]?=some 239∧s.data.toList[p+1]?=some 191∧s.data.toList[p+2]?=some 189)↔aC s p=239∧aC s (p+1)=191∧aC s (p+2)=189:=by
  have kk:∀i (v:UInt8),v.toNat≠0→(s.data.toList[i]?=some v↔aC s i=v.toNat):=by
   intro i v hv
   rw [jQ]
   cases hq:s.data.toList[i]? with
   | none=>
    simp only [List.getD,hq,Option.getD_none]
    constructor
    ·intro h;cases h
    ·intro h;exact absurd h.symm hv
   | some x=>
    simp only [List.getD,hq,Option.getD_some,Option.some.injEq]
    exact ⟨fun h=>by rw [h],fun h=>UInt8.toNat_inj.1 h⟩
  rw [kk p 239 (by decide),kk (p+1) 191 (by decide),kk (p+2) 189 (by decide)]
  exact Iff.rfl
 rw [key] at hpre
 unfold Lib.hasPrefix
 have hd:=Lib.decode_N s p
 rw [←jQ,←jQ,←jQ,←jQ,←kK] at hd
 have b0:=pX s p
 have b1:=pX s (p+1)
 have b2:=pX s (p+2)
 have hn2:aC s (p+2)≠0→2 < s.size - p:=by
  intro hne
  by_cases hlt:p+2 < s.size
  ·omega
  ·unfold aC at hne;rw [dif_neg hlt] at hne;exact absurd rfl hne
 generalize aC s p=x0 at *
 generalize aC s (p+1)=x1 at *
 generalize aC s (p+2)=x2 at *
 generalize aC s (p+3)=x3 at *
 rw [hd] at h ⊢
 unfold Lib.decodeN at h ⊢
 cases hx:List.isPrefixOf [239,191,189] (s.data.toList.drop p)
 ·have hno:¬(x0=239∧x1=191∧x2=189):=fun h=>by rw [hpre.2 h] at hx;cases hx
  revert h
  repeat' split
  all_goals first | (intro h;simp only at h;exfalso;omega) | (intro h;rfl)
 ·obtain ⟨rfl,rfl,rfl⟩:=hpre.1 hx
  have:=hn2 (by decide)
  revert h
  repeat' split
  all_goals first | (intro h;rfl) | (intro h;exfalso;omega)
def kW (l:List Gl):List Value:=l.flatMap fun g=>[.int .i32 g.1,.int .i64 g.2]
theorem aDy (l:List Gl) (g:Gl):kW (l++[g])=kW l++[.int .i32 g.1,.int .i64 g.2]:=by simp [kW]
theorem zH (l:List Gl):∀k (h:k < l.length),(kW l)[k * 2]?=some (.int .i32 l[k].1)∧(kW l)[k * 2+1]?=some (.int .i64 l[k].2):=by
 induction l with
 | nil=>intro k h;simp at h
 | cons x r ih=>
  intro k h
  cases k with
  | zero=>exact ⟨rfl,rfl⟩
  | succ k=>
   have:=ih k (by simpa using h)
   rw [show kW (x :: r)=.int .i32 x.1 :: .int .i64 x.2 :: kW r from rfl,show (k+1) * 2=k * 2+1+1 by omega,show k * 2+1+1+1=k * 2+1+1+1 from rfl]
   simpa using this
theorem aMx:(Tryz.prog.info? 128).map (fun i=>(i.zero,i.size,i.bytes))=some (some (.agg #[.int .i32 0,.int .i64 0]),2,16):=by kernel_rfl
end Go.Proofs.YtbddofieljiihaaGreatDoor
namespace Go.Proofs.YtbddofieljiihaaGreatDoor
open Go.Shelf Go.Proofs
set_option maxRecDepth 100000
def aDz:Go.Shelf.Ren:=⟨fun | 99=>65 | 119=>137 | 137=>136 | 151=>103 | 152=>124 | 206=>98 | 217=>147 | 224=>138 | 225=>139 | 266=>150 | n=>n,fun | 0=>0 | 3=>3 | 4=>4 | 5=>5 | 9=>9 | 21=>21 | 46=>182 | n=>n,fun | n=>n⟩
theorem aMy:Lays.n99 Tryz.prog aDz:={
 mixed:=by kernel_rfl
 f99:=Tryz.func65.trans (congrArg some (by kernel_rfl))
 f206:=Tryz.func98.trans (congrArg some (by kernel_rfl))
 t3:=Tryz.underlying3
 a3:=Tryz.isAgg3
 z3:=Tryz.sizeOf3
 v3:=Tryz.zeroValue3
 t4:=Tryz.underlying4
 a4:=Tryz.isAgg4
 z4:=Tryz.sizeOf4
 v4:=Tryz.zeroValue4
 t9:=Tryz.underlying9
 a9:=Tryz.isAgg9
 z9:=Tryz.sizeOf9
 v9:=Tryz.zeroValue9}
theorem wB:Lays.n151 Tryz.prog aDz:={
 mixed:=by kernel_rfl
 f119:=Tryz.func137.trans (congrArg some (by kernel_rfl))
 f137:=Tryz.func136.trans (congrArg some (by kernel_rfl))
 f151:=Tryz.func103.trans (congrArg some (by kernel_rfl))
 f152:=Tryz.func124.trans (congrArg some (by kernel_rfl))
 f217:=Tryz.func147.trans (congrArg some (by kernel_rfl))
 f224:=Tryz.func138.trans (congrArg some (by kernel_rfl))
 f225:=Tryz.func139.trans (congrArg some (by kernel_rfl))
 f266:=Tryz.func150.trans (congrArg some (by kernel_rfl))
 t0:=Tryz.underlying0
 a0:=Tryz.isAgg0
 z0:=Tryz.sizeOf0
 v0:=Tryz.zeroValue0
 t3:=Tryz.underlying3
 a3:=Tryz.isAgg3
 z3:=Tryz.sizeOf3
 v3:=Tryz.zeroValue3
 t4:=Tryz.underlying4
 a4:=Tryz.isAgg4
 z4:=Tryz.sizeOf4
 v4:=Tryz.zeroValue4
 t5:=Tryz.underlying5
 a5:=Tryz.isAgg5
 z5:=Tryz.sizeOf5
 v5:=Tryz.zeroValue5
 t9:=Tryz.underlying9
 a9:=Tryz.isAgg9
 z9:=Tryz.sizeOf9
 v9:=Tryz.zeroValue9
 t21:=Tryz.underlying21
 a21:=Tryz.isAgg21
 z21:=Tryz.sizeOf21
 v21:=Tryz.zeroValue21
 t46:=Tryz.underlying182
 a46:=Tryz.isAgg182
 z46:=Tryz.sizeOf182
 v46:=Tryz.zeroValue182}
end Go.Proofs.YtbddofieljiihaaGreatDoor
namespace Go.Proofs.YtbddofieljiihaaGreatDoor
open Go.RowKit Go.Shelf
set_option maxRecDepth 100000
def oM (c:Int):Bool:=decide (c=124) || decide (c=126) || decide (c=40) || decide (c=41) || decide (c=44) || decide (c=46)
abbrev dT:ByteArray:=⟨#[124,126,40,41,44,46]⟩
theorem aMz (r:Int) (h0:0≤r) (h1:r < 128):decide (0≤Lib.indexByte dT.data.toList r.toNat.toUInt8)=oM r:=by
 obtain ⟨n,rfl⟩:=Int.eq_ofNat_of_zero_le h0
 have hn:n < 128:=by omega
 have key:∀m:Fin 128,decide (0≤Lib.indexByte dT.data.toList ((m.1:Int).toNat.toUInt8))=oM (m.1:Int):=by decide
 exact key ⟨n,hn⟩
def zI (c:Int):Prop:=c=-1∨c=-2∨Utf8.valid c=true
set_option maxHeartbeats 2000000 in
theorem aN0 (c:Int) (w:World) (h:c < 0):Calls Tryz.prog 124 #[.string dT,.int .i32 c] w fun e w'=>e=.returned (.int .i64 (-1))∧Below w.heap.size w w':=by
 have h0:¬(0:Int)≤c:=by omega
 have hf:(c == 65533)=false:=by rw [beq_eq_false_iff_ne];omega
 have hd:decide (0≤c)=false:=by simp;omega
 have hv:Lib.validRune c=false:=by simp [Lib.validRune];omega
 have CV:=aA (fun wx=>Any.utf8_ValidRune {wB with} c wx)
 rw [hv] at CV
 go_enter Tryz.func124,Tryz.ntmps124
 go_wp2_with (first
  | (go_at_call 137;refine (aB CV _).mono ?_;rintro e w1 ⟨rfl,rfl⟩)
  | go_in)
 go_ret
 exact ⟨rfl,Below.refl _ _⟩
set_option maxHeartbeats 2000000 in
theorem aN1 (w:World):Calls Tryz.prog 124 #[.string dT,.int .i32 65533] w fun e w'=>e=.returned (.int .i64 (-1))∧Below w.heap.size w w':=by
 go_enter Tryz.func124,Tryz.ntmps124
 go_wp2
 go_loopw [] (fun wr=>∃pos:Nat,pos≤6∧wr.heap[w.heap.size]?=some (.stringIter dT pos)∧Below w.heap.size w wr) (fun wr=>6 - wr.iterPos w.heap.size)
 case atStart=>exact ⟨0,by omega,by have:=World.iter_heap w dT 0;simpa using this,(Below.refl _ w).alloc (Nat.le_refl _) _⟩
 case round=>
  obtain ⟨pos,hpos,hit,hb⟩:=hrel
  have HB:=aA hb
  have HIT:=aA hit
  by_cases hp:pos < dT.size
  ·have hp6:pos < 6:=hp
   have hc:(dT[pos]'hp).toNat < 128:=by
    have:∀q:Fin 6,(dT[q.1]'(by have:=q.2;show q.1 < 6;omega)).toNat < 128:=by decide
    exact this ⟨pos,hp6⟩
   have hnx:∀ty,(Instr.next (.pointer (some ⟨w.heap.size,0,none⟩)) true ty).run Tryz.prog wr=_:=fun ty=>Lib.run_next_ascii_at wr w.heap.size dT pos ty hit hp hc
   have HIT2:=aA (Lib.iterAt_heap wr w.heap.size dT pos (pos+1) hit)
   have HB2:=aA (Lib.below_iterAt hb (k:=w.heap.size) (Nat.le_refl _) dT (pos+1))
   generalize (dT[pos]'hp).toNat=cc at *
   have hcc:((cc:Int) == 65533)=false:=by rw [beq_eq_false_iff_ne];omega
   clear hit hb
   go_wp2
   go_roundw
   case rel=>exact ⟨pos+1,by omega,HIT2.out,HB2.out⟩
   case measure=>simp only [World.iterPos,HIT.out,HIT2.out];omega
  ·have hnx:∀ty,(Instr.next (.pointer (some ⟨w.heap.size,0,none⟩)) true ty).run Tryz.prog wr=_:=fun ty=>Lib.run_next_end_at wr w.heap.size dT pos ty hit hp
   clear hit hb
   go_wp2
   go_ret
   exact ⟨rfl,HB.out⟩
theorem aN2 (c:UInt8):∀l:List UInt8,(∀b∈l,b≠c)→Lib.indexByte l c=-1:=by
 intro l
 induction l with
 | nil=>intro _;rfl
 | cons x r ih=>
  intro h
  have h1:=ih fun b hb=>h b (List.mem_cons_of_mem _ hb)
  have h2:(x == c)=false:=beq_eq_false_iff_ne.2 (h x (List.mem_cons_self ..))
  rw [Lib.indexByte,h2,h1]
  rfl
theorem zJ (a:Nat) (c:UInt8) (h:128≤c.toNat):Lib.indexByte (dT.extract a 6).data.toList c=-1:=by
 refine aN2 c _ fun b hb e=>?_
 subst e
 have hm:=mem_extract hb
 have hm:b∈[124,126,40,41,44,46]:=hm
 simp at hm
 rcases hm with rfl | rfl | rfl | rfl | rfl | rfl <;> simp at h
set_option maxHeartbeats 2000000 in
theorem aN3 (c:Int) (w:World) (hv:Utf8.valid c=true) (h128:128≤c) (hf:c≠65533):Calls Tryz.prog 124 #[.string dT,.int .i32 c] w fun e w'=>e=.returned (.int .i64 (-1))∧Below w.heap.size w w':=by
 have h0:(0:Int)≤c:=by omega
 have h1:¬c < 128:=by omega
 have hf0:(c == 65533)=false:=by rw [beq_eq_false_iff_ne];exact hf
 have hv':Lib.validRune c=true:=by rw [←hv,validRune_eq];rfl
 have CV:=aA (fun wx=>Any.utf8_ValidRune {wB with} c wx)
 rw [hv'] at CV
 obtain ⟨e2,e4,el⟩:=encode_facts c hv h128
 have CI:=aA (fun (t:ByteArray) (b:Int) wx=>Any.strings_IndexByte {wB with} t b wx)
 generalize hr:Utf8.encode c=rs at *
 rcases (show rs.size=2∨rs.size=3∨rs.size=4 by omega) with hs | hs | hs
 ·have hl:128≤(rs[1]'(by omega)).toNat:=by have:=el (by omega);simpa [hs] using this
  have hi1:1 < rs.size:=by omega
  have hsz:(rs.size:Int)=2:=by omega
  have hn0:=zJ 2 (rs[1]'hi1) hl
  have hz:((rs[1]'hi1).toNat:Int).toNat.toUInt8=(rs[1]'hi1):=by simp
  have hne:(((dT[1]'(by decide)).toNat:Int) != ((rs[1]'hi1).toNat:Int))=true:=by
   have:(dT[1]'(by decide)).toNat=126:=rfl
   rw [this];simp;omega
  have hw2:IntKind.i64.wrap 2=2:=by decide
  have CI2:Hid (∀wx,Calls Tryz.prog 136 #[.string (dT.extract 2 6),.int .u8 ((rs[1]'hi1).toNat:Int)] wx fun e w'=>e=.returned (.int .i64 (-1))∧w'=wx):=aA fun wx=>by
   have:=CI.out (dT.extract 2 6) ((rs[1]'hi1).toNat:Int) wx
   rw [hz,hn0] at this
   exact this
  clear hz hn0 el CI
  go_enter Tryz.func124,Tryz.ntmps124
  go_wp2_with (first
   | (go_at_call 137;refine (aB CV _).mono ?_;rintro e w1 ⟨rfl,rfl⟩)
   | go_in)
  go_step3
  go_wp2
  go_loopw [9] (fun i wr=>i=.int .i64 1∧wr=w1) (fun _ _=>0)
  case atStart=>exact ⟨rfl,rfl⟩
  case round=>
   obtain ⟨rfl,rfl⟩:=hrel
   go_wp2
   go_step3
   go_wp2
   go_quiet (fail)
   go_wp2
   have hbq:Below wr.heap.size wr (wr.drewN nq):=aJ ⟨_,rfl⟩
   have HBQ:=aA hbq
   clear hbq
   generalize wr.drewN nq=wq at *
   go_quiet ((go_at_call 136;exact Calls.quiet_of_same (aB CI2 _)))
   go_wp2
   simp +zetaDelta only [Exit.inBlock,Exit.then,Exit.noGoto]
   go_ret
   exact ⟨rfl,HBQ.out.trans ((aJ ⟨_,rfl⟩).mono HBQ.out.size)⟩
 ·have hl:128≤(rs[2]'(by omega)).toNat:=by have:=el (by omega);simpa [hs] using this
  have hi1:2 < rs.size:=by omega
  have hsz:(rs.size:Int)=3:=by omega
  have hn0:=zJ 3 (rs[2]'hi1) hl
  have hz:((rs[2]'hi1).toNat:Int).toNat.toUInt8=(rs[2]'hi1):=by simp
  have hne:(((dT[2]'(by decide)).toNat:Int) != ((rs[2]'hi1).toNat:Int))=true:=by
   have:(dT[2]'(by decide)).toNat=40:=rfl
   rw [this];simp;omega
  have hw2:IntKind.i64.wrap 3=3:=by decide
  have CI2:Hid (∀wx,Calls Tryz.prog 136 #[.string (dT.extract 3 6),.int .u8 ((rs[2]'hi1).toNat:Int)] wx fun e w'=>e=.returned (.int .i64 (-1))∧w'=wx):=aA fun wx=>by
   have:=CI.out (dT.extract 3 6) ((rs[2]'hi1).toNat:Int) wx
   rw [hz,hn0] at this
   exact this
  clear hz hn0 el CI
  go_enter Tryz.func124,Tryz.ntmps124
  go_wp2_with (first
   | (go_at_call 137;refine (aB CV _).mono ?_;rintro e w1 ⟨rfl,rfl⟩)
   | go_in)
  go_step3
  go_wp2
  go_loopw [9] (fun i wr=>i=.int .i64 2∧wr=w1) (fun _ _=>0)
  case atStart=>exact ⟨rfl,rfl⟩
  case round=>
   obtain ⟨rfl,rfl⟩:=hrel
   go_wp2
   go_step3
   go_wp2
   go_quiet (fail)
   go_wp2
   have hbq:Below wr.heap.size wr (wr.drewN nq):=aJ ⟨_,rfl⟩
   have HBQ:=aA hbq
   clear hbq
   generalize wr.drewN nq=wq at *
   go_quiet ((go_at_call 136;exact Calls.quiet_of_same (aB CI2 _)))
   go_wp2
   simp +zetaDelta only [Exit.inBlock,Exit.then,Exit.noGoto]
   go_ret
   exact ⟨rfl,HBQ.out.trans ((aJ ⟨_,rfl⟩).mono HBQ.out.size)⟩
 ·have hl:128≤(rs[3]'(by omega)).toNat:=by have:=el (by omega);simpa [hs] using this
  have hi1:3 < rs.size:=by omega
  have hsz:(rs.size:Int)=4:=by omega
  have hn0:=zJ 4 (rs[3]'hi1) hl
  have hz:((rs[3]'hi1).toNat:Int).toNat.toUInt8=(rs[3]'hi1):=by simp
  have hne:(((dT[3]'(by decide)).toNat:Int) != ((rs[3]'hi1).toNat:Int))=true:=by
   have:(dT[3]'(by decide)).toNat=41:=rfl
   rw [this];simp;omega
  have hw2:IntKind.i64.wrap 4=4:=by decide
  have CI2:Hid (∀wx,Calls Tryz.prog 136 #[.string (dT.extract 4 6),.int .u8 ((rs[3]'hi1).toNat:Int)] wx fun e w'=>e=.returned (.int .i64 (-1))∧w'=wx):=aA fun wx=>by
   have:=CI.out (dT.extract 4 6) ((rs[3]'hi1).toNat:Int) wx
   rw [hz,hn0] at this
   exact this
  clear hz hn0 el CI
  go_enter Tryz.func124,Tryz.ntmps124
  go_wp2_with (first
   | (go_at_call 137;refine (aB CV _).mono ?_;rintro e w1 ⟨rfl,rfl⟩)
   | go_in)
  go_step3
  go_wp2
  go_loopw [9] (fun i wr=>i=.int .i64 3∧wr=w1) (fun _ _=>0)
  case atStart=>exact ⟨rfl,rfl⟩
  case round=>
   obtain ⟨rfl,rfl⟩:=hrel
   go_wp2
   go_step3
   go_wp2
   go_quiet (fail)
   go_wp2
   have hbq:Below wr.heap.size wr (wr.drewN nq):=aJ ⟨_,rfl⟩
   have HBQ:=aA hbq
   clear hbq
   generalize wr.drewN nq=wq at *
   go_quiet ((go_at_call 136;exact Calls.quiet_of_same (aB CI2 _)))
   go_wp2
   simp +zetaDelta only [Exit.inBlock,Exit.then,Exit.noGoto]
   go_ret
   exact ⟨rfl,HBQ.out.trans ((aJ ⟨_,rfl⟩).mono HBQ.out.size)⟩
theorem aE0 (c:Int) (w:World) (h:zI c):Calls Tryz.prog 72 #[.int .i32 c] w fun e w'=>e=.returned (.bool (oM c))∧Below w.heap.size w w':=by
 have CC:Calls Tryz.prog 103 #[.string dT,.int .i32 c] w fun e w'=>e=.returned (.bool (oM c))∧Below w.heap.size w w':=by
  by_cases ha:0≤c∧c < 128
  ·refine (Any.strings_ContainsRune_ascii wB dT c w ha.1 ha.2).mono ?_
   rintro e w' ⟨rfl,rfl⟩
   exact ⟨by rw [aMz c ha.1 ha.2],Below.refl _ _⟩
  ·have hm:oM c=false:=by
    unfold oM
    simp only [Bool.or_eq_false_iff,decide_eq_false_iff_not]
    omega
   have CI:Calls Tryz.prog 124 #[.string dT,.int .i32 c] w fun e w'=>e=.returned (.int .i64 (-1))∧Below w.heap.size w w':=by
    by_cases hn:c < 0
    ·exact aN0 c w hn
    ·by_cases hf:c=65533
     ·subst hf;exact aN1 w
     ·refine aN3 c w ?_ (by omega) hf
      rcases h with h | h | h
      ·omega
      ·omega
      ·exact h
   rw [hm]
   go_enter Tryz.func103,Tryz.ntmps103
   go_wp2_with (go_at_call 124;refine CI.mono ?_;rintro e w1 ⟨rfl,hb1⟩)
   go_ret
   exact ⟨rfl,hb1⟩
 go_enter Tryz.func72,Tryz.ntmps72
 go_wp2_with (go_at_call 103;refine CC.mono ?_;rintro e w1 ⟨rfl,hb1⟩)
 go_ret
 exact ⟨rfl,hb1⟩
theorem aN4 (s:ByteArray) (p:Nat):zI (jO s p):=by
 unfold jO
 split
 ·exact Or.inr (Or.inl rfl)
 ·right;right
  rw [validRune_eq]
  unfold validRune
  rw [decide_eq_true_eq,Lib.decode_N]
  unfold Lib.decodeN
  repeat' split
  all_goals (simp only;omega)
theorem wC (x:Int) (y:Int):∀u∈[Value.int .i32 x,Value.int .i64 y],u.oneCell'=true:=by
 intro u hu
 simp at hu
 rcases hu with rfl | rfl <;> rfl
theorem aE1 {w:World} {B:Nat} {e:TypeId} {size:Nat} {v:Value} {n:Nat} {xs:List Value} (h:w.ownsRow B e size v n xs) {k pos:Nat} {s:ByteArray} (hk:w.heap[k]?=some (.stringIter s pos)) (pos':Nat):(w.iterAt k s pos').ownsRow B e size v n xs:=by
 obtain ⟨h1,⟨rfl,h2⟩ | ⟨g,cap,cur,rfl,hb,hh,hc,hm,hz,ht⟩⟩:=h
 ·exact ⟨h1,Or.inl ⟨rfl,h2⟩⟩
 ·refine ⟨h1,Or.inr ⟨g,cap,cur,rfl,hb,?_,hc,hm,hz,ht⟩⟩
  rw [Lib.iterAt_other _ _ _ _ _ (by rintro rfl;rw [hk] at hh;cases hh)]
  exact hh
theorem aN5 {w:World} {B:Nat} {e:TypeId} {size:Nat} {v:Value} {n:Nat} {xs:List Value} (h:w.ownsRow B e size v (n+1) xs):∃g c,v=.slice (some ⟨g,0,none⟩) (n+1) c:=by
 obtain ⟨_,⟨rfl,h2⟩ | ⟨g,cap,cur,rfl,_⟩⟩:=h
 ·omega
 ·exact ⟨g,cap,rfl⟩
structure tO (w:World) (s:ByteArray) (it:Nat) (v:Value) (pos:Nat) (G:List Gl) (wr:World):Prop where
 le:pos≤s.size
 iter:wr.heap[it]?=some (.stringIter s pos)
 row:wr.ownsRow w.heap.size 128 2 v G.length (kW G)
 low:Below w.heap.size w wr
 high:w.heap.size≤it
 few:G.length≤pos
 eq:G++bL s pos=bL s 0
theorem tO.next {w:World} {s:ByteArray} {it:Nat} {v:Value} {pos:Nat} {G:List Gl} {wr:World} (h:tO w s it v pos G wr) (hp:pos < s.size) {v':Value} {w1:World} {X:Obj} (ho:w1.ownsRow w.heap.size 128 2 v' (G.length+1) (kW G++[.int .i32 (jO s pos),.int .i64 pos])) (hg:((wr.iterAt it s (pos+(Utf8.decode s pos).2)).alloc X).grownBy w1 v.ownBlock) :
  tO w s it v' (pos+(Utf8.decode s pos).2) (G++[(jO s pos,pos)]) w1:=by
 have h1:=(rX s pos).1
 have hi2:=Lib.iterAt_heap wr it s pos (pos+(Utf8.decode s pos).2) h.iter
 have hlt:=(Array.getElem?_eq_some_iff.1 hi2).1
 have hrow:=aE1 h.row h.iter (pos+(Utf8.decode s pos).2)
 have hlow:=Lib.below_iterAt h.low h.high s (pos+(Utf8.decode s pos).2)
 refine ⟨aDx s pos hp,?_,by rw [aDy,List.length_append];exact ho,?_,h.high,by have:=h.few;simp;omega,?_⟩
 ·rw [hg.block it (by simp;omega) ?_]
  ·have hA:=(Below.refl _ (wr.iterAt it s (pos+(Utf8.decode s pos).2))).alloc (Nat.le_refl _) X
   rw [hA.block it hlt]
   exact hi2
  ·intro e
   obtain ⟨_,⟨rfl,_⟩ | ⟨g,cap,cur,rfl,_,hh,_⟩⟩:=hrow
   ·simp [Value.ownBlock] at e
   ·simp [Value.ownBlock] at e
    subst e
    rw [hi2] at hh
    cases hh
 ·exact (hlow.alloc hlow.size X).grown hg (by have:=hlow.size;simp;omega) (fun k e=>(bY hrow k e).1)
 ·rw [List.append_assoc,←h.eq,pS hp]
  rfl
set_option maxHeartbeats 3000000 in
theorem aN6 (s:ByteArray) (w:World) (hs:s.size≤3000) :
  Calls Tryz.prog 42 #[.string s] w fun e w'=>∃g cap,e=.returned (.slice (some ⟨g,0,none⟩) (bL s 0).length cap)∧w'.ownsRow w.heap.size 128 2 (.slice (some ⟨g,0,none⟩) (bL s 0).length cap) (bL s 0).length (kW (bL s 0))∧Below w.heap.size w w':=by
 obtain ⟨iG,hG,hG0,hG1,hG2⟩:=info_parts aMx
 go_enter Tryz.func42,Tryz.ntmps42
 go_wp2_with (first
  | (at_make;refine wpList_make_own _ rfl _ _ 60 rfl w.heap.size 128 iG (.agg #[.int .i32 0,.int .i64 0]) 2 Tryz.underlying60 hG hG0 hG1 .i64 .i64 _ (s.size+1) rfl rfl (by simp) (by rw [hG2];omega) (by unfold maxLen;omega) (Nat.le_refl _) ?_;intro w1 ho1 hg1;have HR1:=aA ho1;have HB1:Hid (Below w.heap.size w w1):=aA ((Below.refl _ w).grown hg1 (Nat.le_refl _) (fun k e=>by cases e));clear ho1 hg1)
  | go_in)
 have hw1:=HB1.out.size
 have HG0:Hid (tO w s w1.heap.size (.slice (some ⟨w.heap.size,0,none⟩) 0 (s.size+1)) 0 [] (w1.iter s 0)):=aA ⟨Nat.zero_le _,by have:=World.iter_heap w1 s 0;simpa using this,HR1.out.alloc _,HB1.out.alloc hw1 _,hw1,Nat.le_refl _,rfl⟩
 clear HR1 HB1
 generalize w1.heap.size=it at *
 go_loopw [3] (fun v wr=>∃(pos:Nat) (G:List Gl),tO w s it v pos G wr) (fun _ wr=>s.size - wr.iterPos it)
 case atStart=>exact ⟨0,[],HG0.out⟩
 case round=>
  clear HG0
  obtain ⟨pos,G,hL⟩:=hrel
  have HL:=aA hL
  have hit:=hL.iter
  have hfew:=hL.few
  have hle:=hL.le
  have hlow:=hL.low.size
  by_cases hp:pos < s.size
  ·have hnx:∀ty,(Instr.next (.pointer (some ⟨it,0,none⟩)) true ty).run Tryz.prog wr=_:=fun ty=>Lib.run_next_any_at wr it s pos ty hit hp
   have hit2:=Lib.iterAt_heap wr it s pos (pos+(Utf8.decode s pos).2) hit
   have HIT:=aA hit
   have HIT2:=aA hit2
   have HR2:=aA (aE1 hL.row hit (pos+(Utf8.decode s pos).2))
   have hz2:(wr.iterAt it s (pos+(Utf8.decode s pos).2)).heap.size=wr.heap.size:=Lib.iterAt_size _ _ _ _
   have HN:=aA (fun (v':Value) (w1:World) (X:Obj) ho hg=>HL.out.next hp (v':=v') (w1:=w1) (X:=X) ho hg)
   obtain ⟨va,vc,rfl⟩:=aR hL.row
   have hpz:(0:Int)≤(pos:Int):=by omega
   have hps:(pos:Int)≤(s.size:Int):=by omega
   have hd1:=(rX s pos).1
   obtain ⟨dw,hdw⟩ : ∃dw,(Utf8.decode s pos).2=dw:=⟨_,rfl⟩
   obtain ⟨dc,hdc⟩ : ∃dc,(Utf8.decode s pos).1=dc:=⟨_,rfl⟩
   have hff:=aMw s pos
   have HGC:Hid (jO s pos=if dc=65533∧dw=1 then -2 else (dc:Int)):=aA (by unfold jO;rw [hdc,hdw])
   rw [hdw,hdc] at hnx
   rw [hdw] at hit2 HIT2 HR2 hz2 HN hd1
   rw [hdw,hdc] at hff
   generalize jO s pos=gc at *
   clear hit hL HL hdw hdc
   have hz3:w.heap.size≤(wr.iterAt it s (pos+dw)).heap.size:=by omega
   clear hz2
   generalize hW:wr.iterAt it s (pos+dw)=W at *
   by_cases hf:dc=65533
   ·subst hf
    have hpre:Lib.hasPrefix (s.extract pos s.size).data.toList [239,191,189] = !decide (dw=1):=by
     have:=hff rfl
     rw [←this]
     congr 1
     exact Lib.extract_to_end s pos
    have CP:=aA (fun wx=>Any.strings_HasPrefix aMy (s.extract pos s.size) ⟨#[239,191,189]⟩ wx)
    rw [show (⟨#[239,191,189]⟩ : ByteArray).data.toList=[239,191,189] from rfl,hpre] at CP
    clear hpre hff
    by_cases h1:dw=1
    ·subst h1
     have hgc:gc=-2:=by rw [HGC.out,if_pos ⟨rfl,rfl⟩]
     subst hgc
     go_wp2_with (first
      | (go_at_call 65;refine (aB CP _).mono ?_;rintro e w1 ⟨rfl,rfl⟩)
      | (at_builtin;refine wpList_append_own _ rfl (.tmp 25) (.tmp 29) 60 rfl w.heap.size 128 iG (.agg #[.int .i32 0,.int .i64 0]) 2 16 Tryz.underlying60 hG hG0 hG1 hG2 rfl (by decide) _ _ _ rfl (HR2.out.alloc _) ⟨_,0,none⟩ 1 1 [.int .i32 (-2),.int .i64 pos] rfl rfl (iV w1 _ _ _ _ rfl) (wC _ _) (by unfold maxLen;omega) (by omega) (by simp;omega) ?_;intro v3 w3 ho3 hg3 _;have HN3:=aA (HN.out _ _ _ ho3 hg3);obtain ⟨va3,vc3,rfl⟩:=aR ho3;clear ho3 hg3)
      | go_in)
     go_roundw
     case rel=>exact ⟨_,_,HN3.out⟩
     case measure=>simp only [World.iterPos,HIT.out,HN3.out.iter];omega
    ·have hgc:gc=((65533:Nat):Int):=by rw [HGC.out,if_neg (fun h=>h1 h.2)]
     subst hgc
     rw [decide_eq_false h1] at CP
     go_wp2_with (first
      | (go_at_call 65;refine (aB CP _).mono ?_;rintro e w1 ⟨rfl,rfl⟩)
      | (at_builtin;refine wpList_append_own _ rfl (.tmp 25) (.tmp 29) 60 rfl w.heap.size 128 iG (.agg #[.int .i32 0,.int .i64 0]) 2 16 Tryz.underlying60 hG hG0 hG1 hG2 rfl (by decide) _ _ _ rfl (HR2.out.alloc _) ⟨_,0,none⟩ 1 1 [.int .i32 65533,.int .i64 pos] rfl rfl (iV w1 _ _ _ _ rfl) (wC _ _) (by unfold maxLen;omega) (by omega) (by simp;omega) ?_;intro v3 w3 ho3 hg3 _;have HN3:=aA (HN.out _ _ _ ho3 hg3);obtain ⟨va3,vc3,rfl⟩:=aR ho3;clear ho3 hg3)
      | go_in)
     go_roundw
     case rel=>exact ⟨_,_,HN3.out⟩
     case measure=>simp only [World.iterPos,HIT.out,HN3.out.iter];omega
   ·have hf0:((dc:Int) == 65533)=false:=by rw [beq_eq_false_iff_ne];omega
    have hgc:gc=(dc:Int):=by rw [HGC.out,if_neg (fun h=>hf h.1)]
    subst hgc
    go_wp2_with (first
     | (at_builtin;refine wpList_append_own _ rfl (.tmp 25) (.tmp 29) 60 rfl w.heap.size 128 iG (.agg #[.int .i32 0,.int .i64 0]) 2 16 Tryz.underlying60 hG hG0 hG1 hG2 rfl (by decide) _ _ _ rfl (HR2.out.alloc _) ⟨_,0,none⟩ 1 1 [.int .i32 dc,.int .i64 pos] rfl rfl (iV W _ _ _ _ rfl) (wC _ _) (by unfold maxLen;omega) (by omega) (by simp;omega) ?_;intro v3 w3 ho3 hg3 _;have HN3:=aA (HN.out _ _ _ ho3 hg3);obtain ⟨va3,vc3,rfl⟩:=aR ho3;clear ho3 hg3)
     | go_in)
    go_roundw
    case rel=>exact ⟨_,_,HN3.out⟩
    case measure=>simp only [World.iterPos,HIT.out,HN3.out.iter];omega
  ·have hnx:∀ty,(Instr.next (.pointer (some ⟨it,0,none⟩)) true ty).run Tryz.prog wr=_:=fun ty=>Lib.run_next_end_at wr it s pos ty hit hp
   obtain ⟨va,vc,rfl⟩:=aR hL.row
   have HRW:=aA hL.row
   have HLW:=aA hL.low
   have HEQ:Hid (bL s 0=G++[(-1,s.size)]):=aA (by rw [←hL.eq,zG hp])
   clear hL hit
   go_wp2_with (first
    | (at_builtin;refine wpList_append_own _ rfl (.tmp 31) (.tmp 35) 60 rfl w.heap.size 128 iG (.agg #[.int .i32 0,.int .i64 0]) 2 16 Tryz.underlying60 hG hG0 hG1 hG2 rfl (by decide) _ _ _ rfl (HRW.out.alloc _) ⟨_,0,none⟩ 1 1 [.int .i32 (-1),.int .i64 s.size] rfl rfl (iV wr _ _ _ _ rfl) (wC _ _) (by unfold maxLen;omega) (by omega) (by simp;omega) ?_;intro v3 w3 ho3 hg3 _;have HO3:=aA ho3;have HG3:=aA hg3;obtain ⟨g3,c3,rfl⟩:=aN5 ho3;clear ho3 hg3)
    | go_in)
   go_ret
   have hl:(bL s 0).length=G.length+1:=by rw [HEQ.out];simp
   rw [hl,HEQ.out,aDy]
   exact ⟨g3,c3,rfl,HO3.out,(HLW.out.alloc HLW.out.size _).grown HG3.out (by have:=HLW.out.size;simp;omega) (fun k e=>(bY HRW.out k e).1)⟩
end Go.Proofs.YtbddofieljiihaaGreatDoor
namespace Go.Proofs.YtbddofieljiihaaGreatDoor
open Go.RowKit
set_option maxRecDepth 100000
def aM (s:ByteArray) (p:Nat):Int:=if p < s.size then jO s p else -1
def fL (s:ByteArray) (p:Nat):Nat:=(Utf8.decode s p).2
theorem kC (s:ByteArray) (p:Nat) (hp:p < s.size) (h:aC s p < 128):aM s p=aC s p∧fL s p=1:=by
 unfold aM fL jO
 rw [if_pos hp,Lib.decode_N,←jQ]
 unfold Lib.decodeN
 rw [if_pos h]
 simp only
 rw [if_neg (by omega)]
 refine ⟨?_,?_⟩ <;> first | rfl | trivial
theorem tP (s:ByteArray) (p:Nat) (hp:p < s.size) (h:128≤aC s p):aM s p=-2∨128≤aM s p:=by
 unfold aM jO
 rw [if_pos hp,Lib.decode_N,←jQ]
 have h0:=pX s p
 unfold Lib.decodeN
 simp only [if_neg (show ¬aC s p < 128 by omega)]
 repeat' split
 all_goals first | exact Or.inl rfl | (right;simp only at *;omega)
theorem eC (s:ByteArray) (p:Nat) (hp:p < s.size) (c:Nat) (hc:c < 128):aM s p=(c:Int)↔aC s p=c:=by
 by_cases h:aC s p < 128
 ·rw [(kC s p hp h).1];omega
 ·rcases tP s p hp (by omega) with e | e
  ·rw [e];omega
  ·omega
theorem lX (s:ByteArray) (p:Nat) (hp:¬p < s.size):aM s p=-1:=if_neg hp
theorem wD (s:ByteArray) (p:Nat) (hp:p < s.size):aM s p≠-1:=by
 by_cases h:aC s p < 128
 ·rw [(kC s p hp h).1];omega
 ·rcases tP s p hp (by omega) with e | e
  ·rw [e];omega
  ·omega
theorem tQ (s:ByteArray) (p:Nat):1≤fL s p:=(rX s p).1
theorem tR (s:ByteArray) (p:Nat) (hp:p < s.size):p+fL s p≤s.size:=aDx s p hp
theorem zK (s:ByteArray) (p:Nat):zI (aM s p):=by
 unfold aM
 split
 ·exact aN4 s p
 ·exact Or.inl rfl
theorem aN7 (s:ByteArray) (p i:Nat) (hp:p < s.size) (h0:0 < i) (hi:i < fL s p):128≤aC s (p+i):=by
 have hd:=wK s p hp
 unfold fL at hi
 unfold oP at hd
 by_cases hx:(Utf8.decode s p).1=65533∧(Utf8.decode s p).2=1
 ·omega
 ·rw [if_neg hx] at hd
  exact aEl s p i (by omega) h0 (by omega)
theorem zL (s:ByteArray) (p:Nat) (hp:p≤s.size):∃r,bL s p=(aM s p,p) :: r:=by
 by_cases h:p < s.size
 ·exact ⟨_,by rw [pS h];unfold aM;rw [if_pos h]⟩
 ·have:p=s.size:=by omega
  subst this
  exact ⟨[],by rw [zG h];unfold aM;rw [if_neg h]⟩
def bF (w:World) (pb:Nat) (left:Value) (k a:Int) (wd:ByteArray) (vC vP vM:Value):Prop:=w.heap[pb]?=some (.cells #[left,.int .i32 k,.int .i64 a,.string wd,vC,vP,vM] 66)
section
variable {w:World} {pb:Nat} {left:Value} {k a:Int} {wd:ByteArray} {vC vP vM:Value}
theorem bF.c0 (h:bF w pb left k a wd vC vP vM):w.cell? ⟨pb,0,none⟩=some left:=by unfold bF at h;simp [World.cell?,h]
theorem bF.c1 (h:bF w pb left k a wd vC vP vM):w.cell? ⟨pb,1,none⟩=some (.int .i32 k):=by unfold bF at h;simp [World.cell?,h]
theorem bF.c2 (h:bF w pb left k a wd vC vP vM):w.cell? ⟨pb,2,none⟩=some (.int .i64 a):=by unfold bF at h;simp [World.cell?,h]
theorem bF.c3 (h:bF w pb left k a wd vC vP vM):w.cell? ⟨pb,3,none⟩=some (.string wd):=by unfold bF at h;simp [World.cell?,h]
theorem bF.c4 (h:bF w pb left k a wd vC vP vM):w.cell? ⟨pb,4,none⟩=some vC:=by unfold bF at h;simp [World.cell?,h]
theorem bF.c5 (h:bF w pb left k a wd vC vP vM):w.cell? ⟨pb,5,none⟩=some vP:=by unfold bF at h;simp [World.cell?,h]
theorem bF.c6 (h:bF w pb left k a wd vC vP vM):w.cell? ⟨pb,6,none⟩=some vM:=by unfold bF at h;simp [World.cell?,h]
theorem bF.soft (h:bF w pb left k a wd vC vP vM) (j:Nat):w.frozen? ⟨pb,j,none⟩=false:=by unfold bF at h;simp [World.frozen?,h]
theorem bF.lt (h:bF w pb left k a wd vC vP vM):pb < w.heap.size:=(Array.getElem?_eq_some_iff.1 h).1
theorem bF.below (h:bF w pb left k a wd vC vP vM) {w':World} {B:Nat} (q:Below B w w') (hB:w.heap.size≤B):bF w' pb left k a wd vC vP vM:=by
 have:=h.lt
 unfold bF
 rw [q.block pb (by omega)]
 exact h
theorem bF.set0 (h:bF w pb left k a wd vC vP vM) (v:Value):bF (w.setCell ⟨pb,0,none⟩ v) pb v k a wd vC vP vM:=heap_setCell_same w pb 0 _ _ _ h
theorem bF.row (h:bF w pb left k a wd vC vP vM) {B:Nat} {e:TypeId} {size:Nat} {v:Value} {n:Nat} {xs:List Value} (ho:w.ownsRow B e size v n xs) (he:e≠66) (j:Nat) (u:Value):(w.setCell ⟨pb,j,none⟩ u).ownsRow B e size v n xs:=by
 refine ownsRow_setCell_other ho ?_ u
 intro hx
 obtain ⟨_,⟨rfl,_⟩ | ⟨g,cap,cur,rfl,hb,hh,_⟩⟩:=ho
 ·simp [Value.ownBlock] at hx
 ·simp [Value.ownBlock] at hx
  subst hx
  unfold bF at h
  rw [h] at hh
  simp at hh
  exact he hh.2.symm
end
structure bB (B:Nat) (w:World) (pb:Nat) (s:ByteArray) (p g j m c:Nat) (k a:Int) (wd:ByteArray) (vC vP vM:Value):Prop where
 box:bF w pb (.slice (some ⟨g,j * 2,none⟩) (m+1) (c+1)) k a wd vC vP vM
 high:B≤pb
 row:w.ownsRow B 128 2 (.slice (some ⟨g,0,none⟩) (j+m+1) (j+c+1)) (j+m+1) (kW (bL s 0))
 len:(bL s 0).length=j+m+1
 drop:(bL s 0).drop j=bL s p
 le:p≤s.size
section
variable {B:Nat} {w w':World} {pb:Nat} {s:ByteArray} {p g j m c:Nat} {k a:Int} {wd:ByteArray} {vC vP vM:Value}
theorem bB.below (h:bB B w pb s p g j m c k a wd vC vP vM) (q:Below w.heap.size w w'):bB B w' pb s p g j m c k a wd vC vP vM:=
 ⟨h.box.below q (Nat.le_refl _),h.high,aZ h.row q (Nat.le_refl _),h.len,h.drop,h.le⟩
theorem bB.at0 (h:bB B w pb s p g j m c k a wd vC vP vM):w.cell? ⟨g,j * 2,none⟩=some (.int .i32 (aM s p))∧w.cell? ⟨g,j * 2+1,none⟩=some (.int .i64 p):=by
 obtain ⟨r,hr⟩:=zL s p h.le
 have hj:j < (bL s 0).length:=by have:=h.len;omega
 have he:(bL s 0)[j]=(aM s p,p):=by
  have h1:((bL s 0).drop j)[0]?=some (aM s p,p):=by rw [h.drop,hr];rfl
  rw [List.getElem?_drop,List.getElem?_eq_getElem (by omega)] at h1
  simpa using h1
 obtain ⟨q1,q2⟩:=zH (bL s 0) j hj
 rw [he] at q1 q2
 exact ⟨by rw [h.row.cellAt _ (by omega),q1],by rw [h.row.cellAt _ (by omega),q2]⟩
theorem bB.more (h:bB B w pb s p g j m c k a wd vC vP vM) (hp:p < s.size):∃m' c',m=m'+1∧c=c'+1:=by
 have hl:=h.len
 have hd:=congrArg List.length h.drop
 rw [List.length_drop,pS hp,List.length_cons] at hd
 have h1:=(wA s _ (p+(Utf8.decode s p).2) (Nat.le_refl _)).1
 have hr:=h.row.2
 obtain ⟨_,hr⟩:=h.row
 rcases hr with ⟨e,_⟩ | ⟨g',cap,cur,e,_,_,hc,_⟩
 ·simp at e
 ·simp at e
  obtain ⟨_,rfl⟩:=e
  exact ⟨m - 1,c - 1,by omega,by omega⟩
theorem bB.step (h:bB B w pb s p g j (m+1) (c+1) k a wd vC vP vM) (hp:p < s.size):bB B (w.setCell ⟨pb,0,none⟩ (.slice (some ⟨g,j * 2+2,none⟩) (m+1) (c+1))) pb s (p+fL s p) g (j+1) m c k a wd vC vP vM:=by
 rw [show j * 2+2=(j+1) * 2 by omega]
 refine ⟨h.box.set0 _,h.high,?_,by have:=h.len;omega,?_,tR s p hp⟩
 ·have:=h.box.row h.row (by decide) 0 (.slice (some ⟨g,(j+1) * 2,none⟩) (m+1) (c+1))
  rw [show j+1+m+1=j+(m+1)+1 by omega,show j+1+c+1=j+(c+1)+1 by omega]
  exact this
 ·have hd:=h.drop
  rw [pS hp] at hd
  have:(bL s 0).drop (j+1)=((bL s 0).drop j).drop 1:=by rw [List.drop_drop]
  rw [this,hd]
  rfl
end
theorem zM {w W:World} (h:Below w.heap.size w W) {q:Addr} (hq:q.block < w.heap.size) (u:Value):Below (w.setCell q u).heap.size (w.setCell q u) (W.setCell q u):=by
 refine ⟨h.os,h.tape,h.output,by have:=h.size;simpa [World.setCell] using this,fun k hk=>?_⟩
 have hk':k < w.heap.size:=by simpa [World.setCell] using hk
 have e:=h.block k hk'
 by_cases hkq:k=q.block
 ·subst hkq
  have hW:q.block < W.heap.size:=Nat.lt_of_lt_of_le hq h.size
  have e':W.heap[q.block]?=w.heap[q.block]?:=e
  simp only [World.setCell]
  rw [Array.getElem?_modify,Array.getElem?_modify]
  simp [e']
 ·rw [Below.heap_setCell _ _ _ _ hkq,Below.heap_setCell _ _ _ _ hkq,e]
theorem aN8 {s:ByteArray} {p:Nat} (hp:p < s.size) (h:aM s p≠10):fN s p=fN s (p+fL s p):=by
 have hb:aC s p≠10:=fun e=>h ((eC s p hp 10 (by omega)).2 e)
 have key:∀i,1≤i→i≤fL s p→fN s p=fN s (p+i):=by
  intro i h1
  induction i with
  | zero=>omega
  | succ i ih=>
   intro hi
   by_cases h0:i=0
   ·subst h0;exact aAg hp hb
   ·rw [ih (by omega) (by omega)]
    have hin:=tR s p hp
    exact aAg (by omega) (by have:=aN7 s p i hp (by omega) (by omega);omega)
 exact key _ (tQ s p) (Nat.le_refl _)
def eQ (k a:Int) (wd:ByteArray):Value:=.agg #[.int .i32 k,.int .i64 a,.string wd]
section
variable {B:Nat} {pb:Nat} {s:ByteArray} {p g j m c:Nat} {k a:Int} {wd:ByteArray} {vC vP vM:Value}
set_option maxHeartbeats 1000000 in
theorem rY {w:World} (h:bB B w pb s p g j m c k a wd vC vP vM):Calls Tryz.prog 73 #[.pointer (some ⟨pb,0,none⟩)] w fun e w'=>e=.returned (eQ (-2) p ⟨#[]⟩)∧Below w.heap.size w w':=by
 have d0:=h.box.c0
 have e0:∀o,(w.alloc o).cell? ⟨pb,0,none⟩=some (.slice (some ⟨g,j * 2,none⟩) (m+1) (c+1)):=fun o=>Below.at' ((Below.refl _ w).alloc (Nat.le_refl _) o) (Nat.le_refl _) d0
 have e1:∀o,(w.alloc o).cell? ⟨g,j * 2+1,none⟩=some (.int .i64 p):=fun o=>Below.at' ((Below.refl _ w).alloc (Nat.le_refl _) o) (Nat.le_refl _) h.at0.2
 clear h d0
 go_enter Tryz.func73,Tryz.ntmps73
 go_wp2
 go_returns
 exact ⟨rfl,(Below.refl _ w).alloc (Nat.le_refl _) _⟩
set_option maxHeartbeats 1000000 in
theorem aN9 {w:World} (h:bB B w pb s p g j m c k a wd vC vP vM):Calls Tryz.prog 100 #[.pointer (some ⟨pb,0,none⟩)] w fun e w'=>e=.returned (.tuple #[])∧w.grownBy w' (some pb)∧∃j' m' c',bB B w' pb s (fN s p) g j' m' c' k a wd vC vP vM:=by
 have hle:=h.le
 go_enter Tryz.func100,Tryz.ntmps100
 go_wp2
 go_loopg [] (s.size - p) (fun q wr=>∃p' j' m' c',bB B wr pb s p' g j' m' c' k a wd vC vP vM∧fN s p=fN s p'∧q=s.size - p'∧w.grownBy wr (some pb))
 case atStart=>exact ⟨p,j,m,c,h,rfl,rfl,World.grownBy.refl _ _⟩
 case round=>
  obtain ⟨p',j',m',c',hS,he,hq,hg⟩:=hrel
  have d0:=hS.box.c0
  have f0:=hS.box.soft 0
  have d1:=hS.at0.1
  have HS:=aA hS
  have HE:=aA he
  have HG:=aA hg
  have hle':=hS.le
  by_cases h10:aM s p'=10
  ·have hp':p' < s.size:=Classical.byContradiction fun hn=>by rw [lX s p' hn] at h10;omega
   have HL:Hid (fN s p=p'):=aA (by rw [he];exact aF3 fun hx=>hx.2 ((eC s p' hp' 10 (by omega)).1 h10))
   rw [h10] at d1
   clear hS he hg h
   go_wp2
   go_returns
   exact ⟨rfl,HG.out,j',m',c',by rw [HL.out];exact HS.out⟩
  ·by_cases hp':p' < s.size
   ·have hne:=wD s p' hp'
    obtain ⟨m2,c2,rfl,rfl⟩:=hS.more hp'
    have HS2:=aA (hS.step hp')
    have HL2:=aA (aN8 hp' h10)
    have hw:=tQ s p'
    have hwi:=tR s p' hp'
    generalize aM s p'=cc at *
    have h10':(cc != 10)=true:=by simpa using h10
    have hne':(cc != -1)=true:=by simpa using hne
    clear hS he hg h
    go_wp2
    go_roundg (s.size - (p'+fL s p'))
    case measure=>omega
    case rel=>exact ⟨p'+fL s p',j'+1,m2,c2,HS2.out,by rw [HE.out,HL2.out],rfl,oT HG.out _⟩
   ·have hn1:=lX s p' hp'
    rw [hn1] at d1
    have HL:Hid (fN s p=p'):=aA (by rw [he];exact aF3 fun hx=>hp' hx.1)
    clear hS he hg h
    go_wp2
    go_returns
    exact ⟨rfl,HG.out,j',m',c',by rw [HL.out];exact HS.out⟩
theorem aNa (ch:Int) (w:World):Calls Tryz.prog 99 #[.int .i32 ch] w fun e w'=>e=.returned (.bool (decide (ch=32) || decide (ch=9) || decide (ch=10)))∧w'=w:=by
 go_enter Tryz.func99,Tryz.ntmps99
 by_cases h1:ch=32
 ·subst h1
  go_wp2
  go_ret
  exact ⟨rfl,rfl⟩
 ·have q1:(ch == 32)=false:=by simpa using h1
  by_cases h2:ch=9
  ·subst h2
   go_wp2
   go_ret
   exact ⟨rfl,rfl⟩
  ·have q2:(ch == 9)=false:=by simpa using h2
   go_wp2
   go_ret
   exact ⟨cO (by simp [h1,h2];rfl),rfl⟩
def kD (s:ByteArray):Nat→Nat→Nat
 | 0,p=>p
 | f+1,p=>if p < s.size then if mD (aC s p) then kD s f (p+1) else if aC s p=37 then kD s f (fN s p) else p else p
theorem aNb (s:ByteArray):∀f p,s.size < p+f→p≤s.size→oS s f p=(if kD s f p < s.size then dZ s (kD s f p) else .stop s.size)∧kD s f p≤s.size∧(kD s f p < s.size→mD (aC s (kD s f p))=false∧aC s (kD s f p)≠37):=by
 intro f
 induction f with
 | zero=>intro p h1 h2;omega
 | succ f ih=>
  intro p h1 h2
  rw [oS,kD]
  by_cases hp:p < s.size
  ·rw [if_pos hp,if_pos hp]
   by_cases hg:mD (aC s p)=true
   ·rw [if_pos hg,if_pos hg]
    exact ih (p+1) (by omega) (by omega)
   ·rw [if_neg hg,if_neg hg]
    by_cases h37:aC s p=37
    ·rw [if_pos h37,if_pos h37]
     have:=wR hp h37
     exact ih _ (by omega) (aAh h2)
    ·rw [if_neg h37,if_neg h37,if_pos hp]
     exact ⟨rfl,h2,fun _=>⟨by simpa using hg,h37⟩⟩
  ·rw [if_neg hp,if_neg hp,if_neg hp]
   have:p=s.size:=by omega
   exact ⟨by rw [this],h2,fun h=>absurd h hp⟩
set_option maxHeartbeats 1000000 in
theorem aNc {w:World} (f:Nat) (h:bB B w pb s p g j m c k a wd vC vP vM) (hf:s.size < p+f):Calls Tryz.prog 66 #[.pointer (some ⟨pb,0,none⟩)] w fun e w'=>e=.returned (.tuple #[])∧w.grownBy w' (some pb)∧∃j' m' c',bB B w' pb s (kD s f p) g j' m' c' k a wd vC vP vM:=by
 go_enter Tryz.func66,Tryz.ntmps66
 go_wp2
 go_loopg [] f (fun q wr=>∃p' j' m' c',bB B wr pb s p' g j' m' c' k a wd vC vP vM∧kD s f p=kD s q p'∧s.size < p'+q∧w.grownBy wr (some pb))
 case atStart=>exact ⟨p,j,m,c,h,rfl,hf,World.grownBy.refl _ _⟩
 case round=>
  obtain ⟨p',j',m',c',hS,he,hq,hg⟩:=hrel
  have hle':=hS.le
  obtain ⟨q,rfl⟩ : ∃q,gk=q+1:=⟨gk - 1,by omega⟩
  have d0:=hS.box.c0
  have f0:=hS.box.soft 0
  have d1:=hS.at0.1
  have HS:=aA hS
  have HG:=aA hg
  have CB:=aA (fun wx=>aNa (aM s p') wx)
  rw [kD] at he
  by_cases hp':p' < s.size
  ·rw [if_pos hp'] at he
   have hgap:(decide (aM s p'=32) || decide (aM s p'=9) || decide (aM s p'=10))=mD (aC s p'):=by
    unfold mD
    have q1:=eC s p' hp' 32 (by omega)
    have q2:=eC s p' hp' 9 (by omega)
    have q3:=eC s p' hp' 10 (by omega)
    have q1:(aM s p'=32)=(aC s p'=32):=propext q1
    have q2:(aM s p'=9)=(aC s p'=9):=propext q2
    have q3:(aM s p'=10)=(aC s p'=10):=propext q3
    simp only [q1,q2,q3]
   rw [hgap] at CB
   have h37:=eC s p' hp' 37 (by omega)
   by_cases hgp:mD (aC s p')=true
   ·rw [if_pos hgp] at he
    rw [hgp] at CB
    obtain ⟨m2,c2,rfl,rfl⟩:=hS.more hp'
    have hlow:aC s p' < 128:=by unfold mD at hgp;simp at hgp;omega
    have HS2:=aA (hS.step hp')
    rw [(kC s p' hp' hlow).2] at HS2
    have HE:=aA he
    clear hS he hg h hgap h37
    go_wp2_with (go_at_call 99;refine (aB CB _).mono ?_;rintro e w1 ⟨rfl,rfl⟩)
    go_roundg q
    case measure=>omega
    case rel=>exact ⟨p'+1,j'+1,m2,c2,HS2.out,HE.out,by omega,oT HG.out _⟩
   ·rw [if_neg hgp] at he
    have hgp':mD (aC s p')=false:=by simpa using hgp
    rw [hgp'] at CB
    by_cases hb37:aC s p'=37
    ·rw [if_pos hb37] at he
     have h37':=h37.2 hb37
     rw [h37'] at d1
     have hgt:=wR hp' hb37
     have HE:=aA he
     clear hS he hg h hgap h37
     go_wp2_with (first
      | (go_at_call 99;rw [h37'] at CB;refine (aB CB _).mono ?_;rintro e w1 ⟨rfl,rfl⟩)
      | (go_at_call 100;refine (aN9 HS.out).mono ?_;rintro e w1 ⟨rfl,hg1,j1,m1,c1,hS1⟩;have HG1:=aA hg1;have HS1:=aA hS1;clear hg1 hS1))
     go_roundg q
     case measure=>omega
     case rel=>exact ⟨fN s p',j1,m1,c1,HS1.out,HE.out,by omega,HG.out.trans HG1.out⟩
    ·rw [if_neg hb37] at he
     have hn37:aM s p'≠37:=fun e=>hb37 (h37.1 e)
     have HE:=aA he
     generalize aM s p'=cc at *
     have h37':(cc == 37)=false:=by simpa using hn37
     clear hS he hg h hgap h37
     go_wp2_with (go_at_call 99;refine (aB CB _).mono ?_;rintro e w1 ⟨rfl,rfl⟩)
     go_returns
     exact ⟨rfl,HG.out,j',m',c',by rw [HE.out];exact HS.out⟩
  ·rw [if_neg hp'] at he
   have HE:=aA he
   rw [lX s p' hp'] at d1 CB
   clear hS he hg h
   go_wp2_with (go_at_call 99;refine (aB CB _).mono ?_;rintro e w1 ⟨rfl,rfl⟩)
   go_returns
   exact ⟨rfl,HG.out,j',m',c',by rw [HE.out];exact HS.out⟩
end
end Go.Proofs.YtbddofieljiihaaGreatDoor
