/- Raw literals that come in: opened. The statements' own small functions: pick, term. The statements' own small functions: small. What the names of literals are. The program: what the names are, each at its place. The program: the first use that cannot be. The program: AtOdds. -/
import Derived.Deep.Slices
import Derived.Deep.SlicePairs
import Derived.ChangeArms
import Derived.Test.YtbddofieljiihaaGreatDoorRTermI
import Derived.Deep.RegionHeld3
import Derived.Test.YtbddofieljiihaaGreatDoorLMemI
import Derived.Test.YtbddofieljiihaaGreatDoorRPrim0I
import Derived.Test.YtbddofieljiihaaGreatDoorPCl0I
import Derived.StringKeys
namespace Go.Proofs.YtbddofieljiihaaGreatDoor
open Go.RowKit Go.ChangeShapes Go.WideShapes
set_option maxRecDepth 100000
def lZ (z:Int):Prop:=-9223372036854775808≤z∧z≤9223372036854775807
abbrev Rl:=Bool×Int×Int×Int
structure kY (w:World) (a:Option Addr) (l:List Rl):Prop where
 cell:∀k (h:k < l.length),∃b o,a=some ⟨b,o,none⟩∧w.cell? ⟨b,o+k * 4,none⟩=some (.bool l[k].1)∧w.cell? ⟨b,o+k * 4+1,none⟩=some (.int .i64 l[k].2.1)∧w.cell? ⟨b,o+k * 4+2,none⟩=some (.int .i64 l[k].2.2.1)∧w.cell? ⟨b,o+k * 4+3,none⟩=some (.int .i64 l[k].2.2.2)
 rng:∀k (h:k < l.length),lZ l[k].2.1∧lZ l[k].2.2.1∧lZ l[k].2.2.2
theorem kY.below {w w':World} {a:Option Addr} {l:List Rl} (h:kY w a l) (hb:Below w.heap.size w w'):kY w' a l:=
 ⟨fun k hk=>by
  obtain ⟨b,o,e,c0,c1,c2,c3⟩:=h.cell k hk
  exact ⟨b,o,e,Below.at' hb (Nat.le_refl _) c0,Below.at' hb (Nat.le_refl _) c1,Below.at' hb (Nat.le_refl _) c2,Below.at' hb (Nat.le_refl _) c3⟩,h.rng⟩
theorem kY.take {w:World} {a:Option Addr} {l:List Rl} (h:kY w a l) (n:Nat):kY w a (l.take n):=
 ⟨fun k hk=>by
  have hk':k < l.length:=by rw [List.length_take] at hk;omega
  obtain ⟨b,o,e,c⟩:=h.cell k hk'
  refine ⟨b,o,e,?_⟩
  rw [List.getElem_take]
  exact c,fun k hk=>by
  have hk':k < l.length:=by rw [List.length_take] at hk;omega
  rw [List.getElem_take]
  exact h.rng k hk'⟩
theorem zR {n:Int} (h:(Lit.int .i64 n).wf=true):lZ n:=by
 have hmin:IntKind.i64.min=-9223372036854775808:=by decide
 have hmax:IntKind.i64.max=9223372036854775807:=by decide
 unfold lZ
 simp [Lit.wf] at h
 omega
theorem aNo {w:World} {a:Addr} {v:Value} (h:w.cell? (a.add (0 * 4))=some v):∃b o,a=⟨b,o,none⟩:=by
 obtain ⟨b,o,m⟩:=a
 cases m with
 | none=>exact ⟨b,o,rfl⟩
 | some s=>
  simp only [Addr.add,World.cell?] at h
  split at h <;> simp at h
theorem aNp (b o j:Nat):(⟨b,o,none⟩ : Addr).add j=⟨b,o+j,none⟩:=by unfold Addr.add;split <;> simp_all
theorem zS {H:Type} {enc:TypeId×Value→H} {w:World} {fuel:Nat} {cs:List Value} {x:DataW H×List MemPlace} (h:DataW.trod enc Tryz.prog w 0 (fun _=>true) true fuel 22 cs=some x) :
  ∃a l cap,cs=[.slice a (List.length l) cap]∧kY w a l∧l.length≤cap∧(a=none→cap=0):=by
 rcases Deep.open_slice Tryz.underlying22 h with ⟨rfl,rfl⟩ | ⟨a,len,cap,m,n,D,Pl,rfl,hb,hl,hm,hmm,rfl,hx⟩
 ·exact ⟨none,[],0,rfl,⟨fun k h=>absurd h (by simp),fun k h=>absurd h (by simp)⟩,by simp,fun _=>rfl⟩
 ·have hmc:m=cap:=by simpa using hmm
  subst hmc
  have ce:Tryz.prog.cellsOf 44=4:=by kernel_rfl
  have each:∀i,i < len→∃r:Rl,w.cell? (a.add (i * 4))=some (.bool r.1)∧w.cell? (a.add (i * 4+1))=some (.int .i64 r.2.1)∧w.cell? (a.add (i * 4+2))=some (.int .i64 r.2.2.1)∧w.cell? (a.add (i * 4+3))=some (.int .i64 r.2.2.2)∧lZ r.2.1∧lZ r.2.2.1∧lZ r.2.2.2:=by
   intro i hi
   obtain ⟨cs',h1,h2⟩:=hx i (by omega)
   rw [ce] at h1
   obtain ⟨hsp,hlen,hcell⟩:=World.cells?_some h1
   obtain ⟨xs,k,hk,hxy,_,hxl,hf⟩:=DataW.trod_struct Tryz.underlying44 h2
   match xs,hxl,cs',hlen with
   | [y0,y1,y2,y3],_,[v0,v1,v2,v3],_=>
    have g0:=hf 0 _ rfl
    have g1:=hf 1 _ rfl
    have g2:=hf 2 _ rfl
    have g3:=hf 3 _ rfl
    have cb:Tryz.prog.cellsOf 4=1:=by kernel_rfl
    have ci:Tryz.prog.cellsOf 3=1:=by kernel_rfl
    simp [cb,ci] at g0 g1 g2 g3
    obtain ⟨b,e0,_⟩:=DataW.trod_bool Tryz.underlying4 g0
    obtain ⟨z1,e1,_,w1⟩:=DataW.trod_int Tryz.underlying3 g1
    obtain ⟨z2,e2,_,w2⟩:=DataW.trod_int Tryz.underlying3 g2
    obtain ⟨z3,e3,_,w3⟩:=DataW.trod_int Tryz.underlying3 g3
    simp at e0 e1 e2 e3
    subst e0 e1 e2 e3
    have q0:=hcell 0 (by omega)
    have q1:=hcell 1 (by omega)
    have q2:=hcell 2 (by omega)
    have q3:=hcell 3 (by omega)
    rw [Deep.add_add] at q0 q1 q2 q3
    exact ⟨(b,z1,z2,z3),by simpa using q0,by simpa using q1,by simpa using q2,by simpa using q3,zR w1,zR w2,zR w3⟩
  obtain ⟨f,hf⟩:=Deep.choose_lt each
  refine ⟨some a,(List.range len).map f,m,by simp,⟨fun k hk=>?_,fun k hk=>?_⟩,by simpa using hl,by simp⟩
  ·have hk':k < len:=by simpa using hk
   obtain ⟨b,o,rfl⟩:=aNo (hf 0 (by omega)).1
   obtain ⟨g0,g1,g2,g3,_⟩:=hf k hk'
   rw [aNp] at g0 g1 g2 g3
   refine ⟨b,o,rfl,?_⟩
   simp only [List.getElem_map,List.getElem_range]
   exact ⟨g0,by simpa [Nat.add_assoc] using g1,by simpa [Nat.add_assoc] using g2,by simpa [Nat.add_assoc] using g3⟩
  ·have hk':k < len:=by simpa using hk
   simp only [List.getElem_map,List.getElem_range]
   exact (hf k hk').2.2.2.2
end Go.Proofs.YtbddofieljiihaaGreatDoor
namespace Go.Proofs.YtbddofieljiihaaGreatDoor
open Go.RowKit
set_option maxRecDepth 100000
theorem aE8 (c:Int) (n:Nat) (hc:lZ c) (hn:1≤n) (hn2:n≤1000) (w:World):Calls Tryz.prog 16 #[.int .i64 c,.int .i64 n] w fun e w'=>(∃r:Nat,e=.returned (.int .i64 r)∧r < n)∧w'=w:=by
 obtain ⟨h1,h2⟩:=hc
 have hnz:(n:Int)≠0:=by omega
 have hnz2:((n:Int) == 0)=false:=by simp;omega
 have key:∀d:Int,0≤d→∃r:Nat,Int.tmod d n=r∧r < n:=fun d hd=>by
  have a:=Int.tmod_nonneg (n:Int) hd
  have b:=Int.tmod_lt_of_pos d (show (0:Int) < n by omega)
  exact ⟨(Int.tmod d n).toNat,by omega,by omega⟩
 by_cases h0:c < 0
 ·obtain ⟨r,hr,hrn⟩:=key (-(c+1)) (by omega)
  go_enter Tryz.func16,Tryz.ntmps16
  go_wp2
  go_ret
  exact ⟨⟨r,rfl,hrn⟩,rfl⟩
 ·obtain ⟨r,hr,hrn⟩:=key c (by omega)
  have h0':decide (c < 0)=false:=by simpa using h0
  go_enter Tryz.func16,Tryz.ntmps16
  go_wp2
  go_ret
  exact ⟨⟨r,rfl,hrn⟩,rfl⟩
theorem aNq (c:Int) (hc:lZ c) (w:World):Calls Tryz.prog 17 #[.int .i64 c] w fun e w'=>(∃s:ByteArray,e=.returned (.string s)∧s.size=1)∧Below w.heap.size w w':=by
 have CP:=aA (fun wx=>aE8 c 4 hc (by omega) (by omega) wx)
 have HB:=aA (fun X=>(Below.refl w.heap.size w).alloc (Nat.le_refl _) X)
 clear hc
 go_enter Tryz.func17,Tryz.ntmps17
 go_wp2_with (first
  | (go_at_call 16;refine (aB CP _).mono ?_;rintro e wx ⟨⟨r,rfl,hr⟩,hwx⟩;rw [hwx];clear hwx wx;obtain rfl | rfl | rfl | rfl:r=0∨r=1∨r=2∨r=3:=by omega)
  | go_in)
 all_goals
  go_ret
  exact ⟨⟨_,rfl,rfl⟩,HB.out _⟩
theorem rZ:(⟨#[46,32]⟩ : ByteArray).size=2∧(⟨#[44,32]⟩ : ByteArray).size=2:=⟨rfl,rfl⟩
theorem sz1:(⟨#[32,124,32]⟩:ByteArray).size=3:=rfl
theorem sz2:(⟨#[126]⟩:ByteArray).size=1:=rfl
theorem sz3:(⟨#[112,40]⟩:ByteArray).size=2:=rfl
theorem sz4:(⟨#[113,40]⟩:ByteArray).size=2:=rfl
theorem sz5:(⟨#[41]⟩:ByteArray).size=1:=rfl
theorem sz6:(⟨#[46,32]⟩:ByteArray).size=2∧(⟨#[44,32]⟩:ByteArray).size=2:=⟨rfl,rfl⟩
set_option maxHeartbeats 4000000 in
theorem aNr (g cap:Nat) (a:Option Addr) (cp:Nat) (l:List Rl) (w:World) (hc:w.cell? ⟨g,0,none⟩=some (.slice a l.length cp)) (hl:kY w a l) (h4:l.length≤4) :
  Calls Tryz.prog 10 #[.slice (some ⟨g,0,none⟩) 1 cap] w fun e w'=>(∃s:ByteArray,e=.returned (.string s)∧s.size≤1000)∧Below w.heap.size w w':=by
 have HL:=aA hl
 have CP:=aA (fun (c:Int) (hc:lZ c) wx=>aE8 c 2 hc (by omega) (by omega) wx)
 have CT:=aA (fun (c:Int) (hc:lZ c) wx=>aNq c hc wx)
 clear hl
 go_enter Tryz.func10,Tryz.ntmps10
 go_wp2
 go_loopw [3,4] (fun sv iv wr=>∃(s:ByteArray) (k:Nat),sv=.string s∧iv=.int .i64 k∧k≤1∧s.size≤500 * k∧Below w.heap.size w wr) (fun _ iv _=>1 - (intOf iv).toNat)
 case atStart=>exact ⟨_,0,rfl,rfl,by omega,Nat.le_refl _,Below.refl _ _⟩
 case round=>
  obtain ⟨s,k,rfl,rfl,hk,hs,hb⟩:=hrel
  by_cases hlt:k < 1
  ·obtain rfl:k=0:=by omega
   have c1:=Below.at' hb (Nat.le_refl _) hc
   have hs0:s.size=0:=by omega
   have hz:=hb.size
   have HB:=aA hb
   clear hb hs
   by_cases h0:l.length=0
   ·have h0i:((l.length:Int) == 0)=true:=by simp [h0]
    go_wp2
    go_loopw [3,5] (fun sv jv wr=>∃(t:ByteArray),sv=.string t∧jv=.int .i64 0∧t.size≤6∧Below w.heap.size w wr) (fun _ jv _=>0)
    case atStart=>exact ⟨_,rfl,rfl,(by rw [ByteArray.size_append];show s.size+6≤6;omega),HB.out⟩
    case round=>
     obtain ⟨t,rfl,rfl,ht,hb⟩:=hrel
     have c2:=Below.at' hb (Nat.le_refl _) hc
     have hl0:decide ((0:Int) < (l.length:Int))=false:=by rw [decide_eq_false_iff_not];omega
     have HB2:=aA hb
     clear hb
     go_wp2
     go_roundw
     case rel=>exact ⟨_,1,rfl,by go_num,by omega,(by simp only [ByteArray.size_append,rZ];omega),HB2.out⟩
     case measure=>simp [intOf]
   ·have h0i:((l.length:Int) == 0)=false:=beq_eq_false_iff_ne.2 (by omega)
    go_wp2
    go_loopw [3,5] (fun sv jv wr=>∃(t:ByteArray) (j:Nat),sv=.string t∧jv=.int .i64 j∧j≤l.length∧t.size≤6+20 * j∧Below w.heap.size w wr) (fun _ jv _=>l.length - (intOf jv).toNat)
    case atStart=>exact ⟨_,0,rfl,rfl,Nat.zero_le _,by omega,HB.out⟩
    case round=>
     obtain ⟨t,j,rfl,rfl,hj,ht,hb⟩:=hrel
     have c2:=Below.at' hb (Nat.le_refl _) hc
     by_cases hjl:j < l.length
     ·obtain ⟨b,o,rfl,d0,d1,d2,d3⟩:=HL.out.cell j hjl
      obtain ⟨r1,r2,r3⟩:=HL.out.rng j hjl
      have e0:=Below.at' hb (Nat.le_refl _) d0
      have e1:=Below.at' hb (Nat.le_refl _) d1
      have e2:=Below.at' hb (Nat.le_refl _) d2
      have e3:=Below.at' hb (Nat.le_refl _) d3
      have hji:(j:Int) < (l.length:Int):=by omega
      have hz2:=hb.size
      have HB2:=aA hb
      generalize l[j]=x at *
      obtain ⟨xb,x1,x2,x3⟩:=x
      simp only at e0 e1 e2 e3 r1 r2 r3
      have CP1:=aA (fun wx=>aB CP x1 r1 wx)
      have CT2:=aA (fun wx=>aB CT x2 r2 wx)
      have CT3:=aA (fun wx=>aB CT x3 r3 wx)
      clear d0 d1 d2 d3 hb r1 r2 r3 CP CT
      by_cases hj0:0 < j
      ·have hj0i:(0:Int) < (j:Int):=by omega
       cases xb
       ·go_wp2_with (first
         | (go_at_call 16;refine (aB CP1 _).mono ?_;rintro e wx ⟨⟨r,rfl,hr⟩,hwx⟩;rw [hwx];clear hwx wx;obtain rfl | rfl:r=0∨r=1:=by omega)
         | (go_at_call 17;refine (aB CT2 _).mono ?_;rintro e w2 ⟨⟨u,rfl,hu⟩,hb2⟩;have HB3:=aA (Below.trans (HB2.out.alloc hz2 _) (hb2.mono (Nat.le_trans hz2 (by simp))));clear hb2)
         | go_in)
        ·go_roundw
         case rel=>
          exact ⟨_,_,_,_,_,_,_,_,_,_,_,_,_,_,_,_,_,_,_,_,_,_,_,_,_,_,_,_,_,_,_,_,_,_,_,_,_,_,_,_,_,_,_,_,_,_,_,_,_,_,⟨_,j+1,rfl,rfl,by omega,(by simp only [ByteArray.size_append,sz1,sz3,sz5];omega),HB3.out⟩,rfl⟩
         case measure=>simp [intOf];omega
        ·obtain ⟨t1,et1,ht1⟩ : ∃t1,(t++⟨#[32,124,32]⟩)=t1∧t1.size≤10+20 * j:=⟨_,rfl,by simp only [ByteArray.size_append,sz1];omega⟩
         rw [et1]
         clear et1
         obtain ⟨w3,hw3,hb3,hx3⟩ : ∃w3,wr.alloc (.cells #[.bool false,.int .i64 x1,.int .i64 x2,.int .i64 x3] 44)=w3∧Below wr.heap.size wr w3∧w3.heap[wr.heap.size]?=some (.cells #[.bool false,.int .i64 x1,.int .i64 x2,.int .i64 x3] 44 (0,0)):=⟨_,rfl,(Below.refl _ wr).alloc (Nat.le_refl _) _,(by show (wr.heap.push _)[wr.heap.size]?=_;simp)⟩
         rw [hw3]
         have y2:w3.cell? ⟨wr.heap.size,2,none⟩=some (.int .i64 x2):=by simp [World.cell?,hx3]
         have y3:w3.cell? ⟨wr.heap.size,3,none⟩=some (.int .i64 x3):=by simp [World.cell?,hx3]
         have HB3:=aA (HB2.out.trans (hb3.mono hz2))
         have CTA:=aA (fun (wx:World) (hx:∃m,wx=w3.drewN m)=>(CT2.out wx).mono (R':=fun e w4=>(∃u:ByteArray,e=.returned (.string u)∧u.size=1)∧Below w3.heap.size w3 w4) (fun e w4 he=>by obtain ⟨m,rfl⟩:=hx;exact ⟨he.1,(aJ ⟨m,rfl⟩).trans he.2⟩))
         have CTB:=aA (fun (w4 wx:World) (hx:∃m,wx=w4.drewN m)=>(CT3.out wx).mono (R':=fun e w5=>(∃u:ByteArray,e=.returned (.string u)∧u.size=1)∧Below w4.heap.size w4 w5) (fun e w5 he=>by obtain ⟨m,rfl⟩:=hx;exact ⟨he.1,(aJ ⟨m,rfl⟩).trans he.2⟩))
         have n1:¬(9223372036854775807 < t1.size+2):=by omega
         have HT1:=aA ht1
         clear hw3 hx3 hb3 e0 e1 e2 e3 c2 ht1 ht
         go_region_held3 (fun w'=>w'.cell? ⟨wr.heap.size,2,none⟩=some (.int .i64 x2)∧w'.cell? ⟨wr.heap.size,3,none⟩=some (.int .i64 x3)) (first | trivial | go_keep)
          (first
           | (go_at_call 17;refine (aB CTB w4 _ (by first | exact ⟨0,rfl⟩ | exact ⟨1,rfl⟩ | exact ⟨_,rfl⟩)).mono ?_;rintro e w5 ⟨⟨u5,rfl,hu5⟩,hb5⟩;have t2:=Below.at' hb5 (Nat.le_refl _) z2;have t3:=Below.at' hb5 (Nat.le_refl _) z3;have HB5:=aA (HB4.out.trans (hb5.mono HB4.out.size));have n10:¬(9223372036854775807 < t1.size+2+u4.size+2+u5.size):=(by have:=HT1.out;have:=HU4.out;omega);have n11:¬(9223372036854775807 < t1.size+2+u4.size+2+u5.size+1):=(by have:=HT1.out;have:=HU4.out;omega);have HU5:=aA hu5;clear hb5 hu5)
           | (go_at_call 17;refine (aB CTA _ (by first | exact ⟨0,rfl⟩ | exact ⟨1,rfl⟩ | exact ⟨_,rfl⟩)).mono ?_;rintro e w4 ⟨⟨u4,rfl,hu4⟩,hb4⟩;have z2:=Below.at' hb4 (Nat.le_refl _) y2;have z3:=Below.at' hb4 (Nat.le_refl _) y3;have HB4:=aA (HB3.out.trans (hb4.mono HB3.out.size));have n5:¬(9223372036854775807 < t1.size+2+u4.size):=(by have:=HT1.out;omega);have n6:¬(9223372036854775807 < t1.size+2+u4.size+2):=(by have:=HT1.out;omega);have HU4:=aA hu4;clear hb4 hu4)
           | go_in)
         go_wp2
         go_roundw
         case rel=>exact ⟨_,_,_,_,_,_,_,_,_,_,_,_,_,_,_,_,_,_,_,_,_,_,_,_,_,_,_,_,_,_,_,_,_,_,_,_,_,_,_,_,_,_,_,_,_,_,_,_,_,_,⟨_,j+1,rfl,rfl,by omega,(by have:=HT1.out;have:=HU4.out;have:=HU5.out;simp only [ByteArray.size_append,sz4,sz5,rZ];omega),HB5.out⟩,rfl⟩
         case measure=>simp [intOf];omega
       ·go_wp2_with (first
         | (go_at_call 16;refine (aB CP1 _).mono ?_;rintro e wx ⟨⟨r,rfl,hr⟩,hwx⟩;rw [hwx];clear hwx wx;obtain rfl | rfl:r=0∨r=1:=by omega)
         | (go_at_call 17;refine (aB CT2 _).mono ?_;rintro e w2 ⟨⟨u,rfl,hu⟩,hb2⟩;have HB3:=aA (Below.trans (HB2.out.alloc hz2 _) (hb2.mono (Nat.le_trans hz2 (by simp))));clear hb2)
         | go_in)
        ·go_roundw
         case rel=>
          exact ⟨_,_,_,_,_,_,_,_,_,_,_,_,_,_,_,_,_,_,_,_,_,_,_,_,_,_,_,_,_,_,_,_,_,_,_,_,_,_,_,_,_,_,_,_,_,_,_,_,_,_,⟨_,j+1,rfl,rfl,by omega,(by simp only [ByteArray.size_append,sz1,sz2,sz3,sz5];omega),HB3.out⟩,rfl⟩
         case measure=>simp [intOf];omega
        ·obtain ⟨t1,et1,ht1⟩ : ∃t1,(t++⟨#[32,124,32]⟩++⟨#[126]⟩)=t1∧t1.size≤10+20 * j:=⟨_,rfl,by simp only [ByteArray.size_append,sz1,sz2];omega⟩
         rw [et1]
         clear et1
         obtain ⟨w3,hw3,hb3,hx3⟩ : ∃w3,wr.alloc (.cells #[.bool true,.int .i64 x1,.int .i64 x2,.int .i64 x3] 44)=w3∧Below wr.heap.size wr w3∧w3.heap[wr.heap.size]?=some (.cells #[.bool true,.int .i64 x1,.int .i64 x2,.int .i64 x3] 44 (0,0)):=⟨_,rfl,(Below.refl _ wr).alloc (Nat.le_refl _) _,(by show (wr.heap.push _)[wr.heap.size]?=_;simp)⟩
         rw [hw3]
         have y2:w3.cell? ⟨wr.heap.size,2,none⟩=some (.int .i64 x2):=by simp [World.cell?,hx3]
         have y3:w3.cell? ⟨wr.heap.size,3,none⟩=some (.int .i64 x3):=by simp [World.cell?,hx3]
         have HB3:=aA (HB2.out.trans (hb3.mono hz2))
         have CTA:=aA (fun (wx:World) (hx:∃m,wx=w3.drewN m)=>(CT2.out wx).mono (R':=fun e w4=>(∃u:ByteArray,e=.returned (.string u)∧u.size=1)∧Below w3.heap.size w3 w4) (fun e w4 he=>by obtain ⟨m,rfl⟩:=hx;exact ⟨he.1,(aJ ⟨m,rfl⟩).trans he.2⟩))
         have CTB:=aA (fun (w4 wx:World) (hx:∃m,wx=w4.drewN m)=>(CT3.out wx).mono (R':=fun e w5=>(∃u:ByteArray,e=.returned (.string u)∧u.size=1)∧Below w4.heap.size w4 w5) (fun e w5 he=>by obtain ⟨m,rfl⟩:=hx;exact ⟨he.1,(aJ ⟨m,rfl⟩).trans he.2⟩))
         have n1:¬(9223372036854775807 < t1.size+2):=by omega
         have HT1:=aA ht1
         clear hw3 hx3 hb3 e0 e1 e2 e3 c2 ht1 ht
         go_region_held3 (fun w'=>w'.cell? ⟨wr.heap.size,2,none⟩=some (.int .i64 x2)∧w'.cell? ⟨wr.heap.size,3,none⟩=some (.int .i64 x3)) (first | trivial | go_keep)
          (first
           | (go_at_call 17;refine (aB CTB w4 _ (by first | exact ⟨0,rfl⟩ | exact ⟨1,rfl⟩ | exact ⟨_,rfl⟩)).mono ?_;rintro e w5 ⟨⟨u5,rfl,hu5⟩,hb5⟩;have t2:=Below.at' hb5 (Nat.le_refl _) z2;have t3:=Below.at' hb5 (Nat.le_refl _) z3;have HB5:=aA (HB4.out.trans (hb5.mono HB4.out.size));have n10:¬(9223372036854775807 < t1.size+2+u4.size+2+u5.size):=(by have:=HT1.out;have:=HU4.out;omega);have n11:¬(9223372036854775807 < t1.size+2+u4.size+2+u5.size+1):=(by have:=HT1.out;have:=HU4.out;omega);have HU5:=aA hu5;clear hb5 hu5)
           | (go_at_call 17;refine (aB CTA _ (by first | exact ⟨0,rfl⟩ | exact ⟨1,rfl⟩ | exact ⟨_,rfl⟩)).mono ?_;rintro e w4 ⟨⟨u4,rfl,hu4⟩,hb4⟩;have z2:=Below.at' hb4 (Nat.le_refl _) y2;have z3:=Below.at' hb4 (Nat.le_refl _) y3;have HB4:=aA (HB3.out.trans (hb4.mono HB3.out.size));have n5:¬(9223372036854775807 < t1.size+2+u4.size):=(by have:=HT1.out;omega);have n6:¬(9223372036854775807 < t1.size+2+u4.size+2):=(by have:=HT1.out;omega);have HU4:=aA hu4;clear hb4 hu4)
           | go_in)
         go_wp2
         go_roundw
         case rel=>exact ⟨_,_,_,_,_,_,_,_,_,_,_,_,_,_,_,_,_,_,_,_,_,_,_,_,_,_,_,_,_,_,_,_,_,_,_,_,_,_,_,_,_,_,_,_,_,_,_,_,_,_,⟨_,j+1,rfl,rfl,by omega,(by have:=HT1.out;have:=HU4.out;have:=HU5.out;simp only [ByteArray.size_append,sz4,sz5,rZ];omega),HB5.out⟩,rfl⟩
         case measure=>simp [intOf];omega
      ·have hj0i:decide ((0:Int) < (j:Int))=false:=by rw [decide_eq_false_iff_not];omega
       cases xb
       ·go_wp2_with (first
         | (go_at_call 16;refine (aB CP1 _).mono ?_;rintro e wx ⟨⟨r,rfl,hr⟩,hwx⟩;rw [hwx];clear hwx wx;obtain rfl | rfl:r=0∨r=1:=by omega)
         | (go_at_call 17;refine (aB CT2 _).mono ?_;rintro e w2 ⟨⟨u,rfl,hu⟩,hb2⟩;have HB3:=aA (Below.trans (HB2.out.alloc hz2 _) (hb2.mono (Nat.le_trans hz2 (by simp))));clear hb2)
         | go_in)
        ·go_roundw
         case rel=>
          exact ⟨_,_,_,_,_,_,_,_,_,_,_,_,_,_,_,_,_,_,_,_,_,_,_,_,_,_,_,_,_,_,_,_,_,_,_,_,_,_,_,_,_,_,_,_,_,_,_,_,_,_,⟨_,j+1,rfl,rfl,by omega,(by simp only [ByteArray.size_append,sz3,sz5];omega),HB3.out⟩,rfl⟩
         case measure=>simp [intOf];omega
        ·obtain ⟨t1,et1,ht1⟩ : ∃t1,t=t1∧t1.size≤10+20 * j:=⟨_,rfl,by omega⟩
         rw [et1]
         clear et1
         obtain ⟨w3,hw3,hb3,hx3⟩ : ∃w3,wr.alloc (.cells #[.bool false,.int .i64 x1,.int .i64 x2,.int .i64 x3] 44)=w3∧Below wr.heap.size wr w3∧w3.heap[wr.heap.size]?=some (.cells #[.bool false,.int .i64 x1,.int .i64 x2,.int .i64 x3] 44 (0,0)):=⟨_,rfl,(Below.refl _ wr).alloc (Nat.le_refl _) _,(by show (wr.heap.push _)[wr.heap.size]?=_;simp)⟩
         rw [hw3]
         have y2:w3.cell? ⟨wr.heap.size,2,none⟩=some (.int .i64 x2):=by simp [World.cell?,hx3]
         have y3:w3.cell? ⟨wr.heap.size,3,none⟩=some (.int .i64 x3):=by simp [World.cell?,hx3]
         have HB3:=aA (HB2.out.trans (hb3.mono hz2))
         have CTA:=aA (fun (wx:World) (hx:∃m,wx=w3.drewN m)=>(CT2.out wx).mono (R':=fun e w4=>(∃u:ByteArray,e=.returned (.string u)∧u.size=1)∧Below w3.heap.size w3 w4) (fun e w4 he=>by obtain ⟨m,rfl⟩:=hx;exact ⟨he.1,(aJ ⟨m,rfl⟩).trans he.2⟩))
         have CTB:=aA (fun (w4 wx:World) (hx:∃m,wx=w4.drewN m)=>(CT3.out wx).mono (R':=fun e w5=>(∃u:ByteArray,e=.returned (.string u)∧u.size=1)∧Below w4.heap.size w4 w5) (fun e w5 he=>by obtain ⟨m,rfl⟩:=hx;exact ⟨he.1,(aJ ⟨m,rfl⟩).trans he.2⟩))
         have n1:¬(9223372036854775807 < t1.size+2):=by omega
         have HT1:=aA ht1
         clear hw3 hx3 hb3 e0 e1 e2 e3 c2 ht1 ht
         go_region_held3 (fun w'=>w'.cell? ⟨wr.heap.size,2,none⟩=some (.int .i64 x2)∧w'.cell? ⟨wr.heap.size,3,none⟩=some (.int .i64 x3)) (first | trivial | go_keep)
          (first
           | (go_at_call 17;refine (aB CTB w4 _ (by first | exact ⟨0,rfl⟩ | exact ⟨1,rfl⟩ | exact ⟨_,rfl⟩)).mono ?_;rintro e w5 ⟨⟨u5,rfl,hu5⟩,hb5⟩;have t2:=Below.at' hb5 (Nat.le_refl _) z2;have t3:=Below.at' hb5 (Nat.le_refl _) z3;have HB5:=aA (HB4.out.trans (hb5.mono HB4.out.size));have n10:¬(9223372036854775807 < t1.size+2+u4.size+2+u5.size):=(by have:=HT1.out;have:=HU4.out;omega);have n11:¬(9223372036854775807 < t1.size+2+u4.size+2+u5.size+1):=(by have:=HT1.out;have:=HU4.out;omega);have HU5:=aA hu5;clear hb5 hu5)
           | (go_at_call 17;refine (aB CTA _ (by first | exact ⟨0,rfl⟩ | exact ⟨1,rfl⟩ | exact ⟨_,rfl⟩)).mono ?_;rintro e w4 ⟨⟨u4,rfl,hu4⟩,hb4⟩;have z2:=Below.at' hb4 (Nat.le_refl _) y2;have z3:=Below.at' hb4 (Nat.le_refl _) y3;have HB4:=aA (HB3.out.trans (hb4.mono HB3.out.size));have n5:¬(9223372036854775807 < t1.size+2+u4.size):=(by have:=HT1.out;omega);have n6:¬(9223372036854775807 < t1.size+2+u4.size+2):=(by have:=HT1.out;omega);have HU4:=aA hu4;clear hb4 hu4)
           | go_in)
         go_wp2
         go_roundw
         case rel=>exact ⟨_,_,_,_,_,_,_,_,_,_,_,_,_,_,_,_,_,_,_,_,_,_,_,_,_,_,_,_,_,_,_,_,_,_,_,_,_,_,_,_,_,_,_,_,_,_,_,_,_,_,⟨_,j+1,rfl,rfl,by omega,(by have:=HT1.out;have:=HU4.out;have:=HU5.out;simp only [ByteArray.size_append,sz4,sz5,rZ];omega),HB5.out⟩,rfl⟩
         case measure=>simp [intOf];omega
       ·go_wp2_with (first
         | (go_at_call 16;refine (aB CP1 _).mono ?_;rintro e wx ⟨⟨r,rfl,hr⟩,hwx⟩;rw [hwx];clear hwx wx;obtain rfl | rfl:r=0∨r=1:=by omega)
         | (go_at_call 17;refine (aB CT2 _).mono ?_;rintro e w2 ⟨⟨u,rfl,hu⟩,hb2⟩;have HB3:=aA (Below.trans (HB2.out.alloc hz2 _) (hb2.mono (Nat.le_trans hz2 (by simp))));clear hb2)
         | go_in)
        ·go_roundw
         case rel=>
          exact ⟨_,_,_,_,_,_,_,_,_,_,_,_,_,_,_,_,_,_,_,_,_,_,_,_,_,_,_,_,_,_,_,_,_,_,_,_,_,_,_,_,_,_,_,_,_,_,_,_,_,_,⟨_,j+1,rfl,rfl,by omega,(by simp only [ByteArray.size_append,sz2,sz3,sz5];omega),HB3.out⟩,rfl⟩
         case measure=>simp [intOf];omega
        ·obtain ⟨t1,et1,ht1⟩ : ∃t1,(t++⟨#[126]⟩)=t1∧t1.size≤10+20 * j:=⟨_,rfl,by simp only [ByteArray.size_append,sz2];omega⟩
         rw [et1]
         clear et1
         obtain ⟨w3,hw3,hb3,hx3⟩ : ∃w3,wr.alloc (.cells #[.bool true,.int .i64 x1,.int .i64 x2,.int .i64 x3] 44)=w3∧Below wr.heap.size wr w3∧w3.heap[wr.heap.size]?=some (.cells #[.bool true,.int .i64 x1,.int .i64 x2,.int .i64 x3] 44 (0,0)):=⟨_,rfl,(Below.refl _ wr).alloc (Nat.le_refl _) _,(by show (wr.heap.push _)[wr.heap.size]?=_;simp)⟩
         rw [hw3]
         have y2:w3.cell? ⟨wr.heap.size,2,none⟩=some (.int .i64 x2):=by simp [World.cell?,hx3]
         have y3:w3.cell? ⟨wr.heap.size,3,none⟩=some (.int .i64 x3):=by simp [World.cell?,hx3]
         have HB3:=aA (HB2.out.trans (hb3.mono hz2))
         have CTA:=aA (fun (wx:World) (hx:∃m,wx=w3.drewN m)=>(CT2.out wx).mono (R':=fun e w4=>(∃u:ByteArray,e=.returned (.string u)∧u.size=1)∧Below w3.heap.size w3 w4) (fun e w4 he=>by obtain ⟨m,rfl⟩:=hx;exact ⟨he.1,(aJ ⟨m,rfl⟩).trans he.2⟩))
         have CTB:=aA (fun (w4 wx:World) (hx:∃m,wx=w4.drewN m)=>(CT3.out wx).mono (R':=fun e w5=>(∃u:ByteArray,e=.returned (.string u)∧u.size=1)∧Below w4.heap.size w4 w5) (fun e w5 he=>by obtain ⟨m,rfl⟩:=hx;exact ⟨he.1,(aJ ⟨m,rfl⟩).trans he.2⟩))
         have n1:¬(9223372036854775807 < t1.size+2):=by omega
         have HT1:=aA ht1
         clear hw3 hx3 hb3 e0 e1 e2 e3 c2 ht1 ht
         go_region_held3 (fun w'=>w'.cell? ⟨wr.heap.size,2,none⟩=some (.int .i64 x2)∧w'.cell? ⟨wr.heap.size,3,none⟩=some (.int .i64 x3)) (first | trivial | go_keep)
          (first
           | (go_at_call 17;refine (aB CTB w4 _ (by first | exact ⟨0,rfl⟩ | exact ⟨1,rfl⟩ | exact ⟨_,rfl⟩)).mono ?_;rintro e w5 ⟨⟨u5,rfl,hu5⟩,hb5⟩;have t2:=Below.at' hb5 (Nat.le_refl _) z2;have t3:=Below.at' hb5 (Nat.le_refl _) z3;have HB5:=aA (HB4.out.trans (hb5.mono HB4.out.size));have n10:¬(9223372036854775807 < t1.size+2+u4.size+2+u5.size):=(by have:=HT1.out;have:=HU4.out;omega);have n11:¬(9223372036854775807 < t1.size+2+u4.size+2+u5.size+1):=(by have:=HT1.out;have:=HU4.out;omega);have HU5:=aA hu5;clear hb5 hu5)
           | (go_at_call 17;refine (aB CTA _ (by first | exact ⟨0,rfl⟩ | exact ⟨1,rfl⟩ | exact ⟨_,rfl⟩)).mono ?_;rintro e w4 ⟨⟨u4,rfl,hu4⟩,hb4⟩;have z2:=Below.at' hb4 (Nat.le_refl _) y2;have z3:=Below.at' hb4 (Nat.le_refl _) y3;have HB4:=aA (HB3.out.trans (hb4.mono HB3.out.size));have n5:¬(9223372036854775807 < t1.size+2+u4.size):=(by have:=HT1.out;omega);have n6:¬(9223372036854775807 < t1.size+2+u4.size+2):=(by have:=HT1.out;omega);have HU4:=aA hu4;clear hb4 hu4)
           | go_in)
         go_wp2
         go_roundw
         case rel=>exact ⟨_,_,_,_,_,_,_,_,_,_,_,_,_,_,_,_,_,_,_,_,_,_,_,_,_,_,_,_,_,_,_,_,_,_,_,_,_,_,_,_,_,_,_,_,_,_,_,_,_,_,⟨_,j+1,rfl,rfl,by omega,(by have:=HT1.out;have:=HU4.out;have:=HU5.out;simp only [ByteArray.size_append,sz4,sz5,rZ];omega),HB5.out⟩,rfl⟩
         case measure=>simp [intOf];omega
     ·obtain rfl:j=l.length:=by omega
      have HB2:=aA hb
      clear hb
      go_wp2
      go_roundw
      case rel=>exact ⟨_,1,rfl,by go_num,by omega,(by simp only [ByteArray.size_append,rZ];omega),HB2.out⟩
      case measure=>simp [intOf]
  ·obtain rfl:k=1:=by omega
   go_wp2
   go_ret
   exact ⟨⟨s,rfl,by omega⟩,hb⟩
theorem aE9:(Tryz.prog.info? 22).map (fun i=>(i.zero,i.size,i.bytes))=some (some (.slice none 0 0),1,24):=by kernel_rfl
theorem zT (a:Option Addr) (n c:Nat):∀u∈[Value.slice a n c],u.oneCell'=true:=by
 intro u hu
 simp at hu
 subst hu
 rfl
theorem zU {w w':World} {X:Obj} (hg:(w.alloc X).grownBy w' (Value.slice none 0 0).ownBlock):Below w.heap.size (w.alloc X) w':=
 ⟨hg.os,hg.tape,hg.output,hg.size,fun k hk=>hg.block k (by simp;omega) (by simp [Value.ownBlock])⟩
def tS (B:Nat) (w:World) (v:Value) (a:Option Addr) (n cp:Nat):Prop:=w.ownsRow B 22 1 v 1 [.slice a n cp]
theorem tS.cell {B:Nat} {w:World} {v:Value} {a:Option Addr} {n cp:Nat} (h:tS B w v a n cp):∃g cap,v=.slice (some ⟨g,0,none⟩) 1 cap∧w.cell? ⟨g,0,none⟩=some (.slice a n cp):=by
 obtain ⟨h1,⟨_,e1⟩ | ⟨g,cap,cur,rfl,hb,hh,hr⟩⟩:=h
 ·omega
 ·have ho:w.ownsRow B 22 1 (.slice (some ⟨g,0,none⟩) 1 cap) 1 [.slice a n cp]:=⟨h1,Or.inr ⟨g,cap,cur,rfl,hb,hh,hr⟩⟩
  exact ⟨g,cap,rfl,by rw [ho.cellAt 0 (by omega)];rfl⟩
set_option maxHeartbeats 2000000 in
theorem aNs (g cap:Nat) (a:Option Addr) (cp:Nat) (l:List Rl) (w:World) (hc:w.cell? ⟨g,0,none⟩=some (.slice a l.length cp)) (hl:kY w a l) (hcp:l.length≤cp) :
  Calls Tryz.prog 11 #[.slice (some ⟨g,0,none⟩) 1 cap,.int .i64 1] w fun e w'=>∃v,e=.returned v∧tS w.heap.size w' v a (l.take 4).length cp∧Below w.heap.size w w':=by
 have HL:=aA hl
 obtain ⟨iK,hK,hK0,hK1,hK2⟩:=info_parts aE9
 clear hl
 go_enter Tryz.func11,Tryz.ntmps11
 go_wp2
 go_loopw [5,6] (fun ov iv wr=>∃k:Nat,iv=.int .i64 k∧k≤1∧(k=0→ov=.slice none 0 0∧wr=w)∧(k=1→tS w.heap.size wr ov a (l.take 4).length cp∧Below w.heap.size w wr)) (fun _ iv _=>1 - (intOf iv).toNat)
 case atStart=>exact ⟨0,rfl,by omega,fun _=>⟨rfl,rfl⟩,fun h=>by omega⟩
 case round=>
  obtain ⟨k,rfl,hk,h0,h1⟩:=hrel
  by_cases hlt:k < 1
  ·obtain rfl:k=0:=by omega
   obtain ⟨rfl,hwr⟩:=h0 rfl
   rw [hwr]
   clear hwr h0 h1 wr
   have HNIL:=aA (World.ownsRow_nil (w.alloc (.cells #[.slice a (l.take 4).length cp] 22)) w.heap.size 22 1)
   by_cases h4:4 < l.length
   ·have h4i:(4:Int) < (l.length:Int):=by omega
    have h4c:4≤cp:=by omega
    have ht:(l.take 4).length=4:=by rw [List.length_take];omega
    obtain ⟨b,o,rfl,_⟩:=HL.out.cell 0 (by omega)
    rw [ht]
    rw [ht] at HNIL
    go_wp2_with (first
     | (at_builtin;refine wpList_append_own _ rfl (.tmp 28) (.tmp 30) 37 rfl w.heap.size 22 iK (.slice none 0 0) 1 24 Tryz.underlying37 hK hK0 hK1 hK2 rfl (by decide) _ _ _ rfl HNIL.out ⟨w.heap.size,0,none⟩ 1 1 [.slice (some ⟨b,o,none⟩) 4 cp] rfl rfl (oH w _ _ _ rfl) (zT _ _ _) (by unfold maxLen;omega) (by omega) (by simp) ?_;intro v5 w5 ho5 hg5 _;have HO5:=aA ho5;have HG5:=aA hg5;clear ho5 hg5)
     | go_in)
    go_roundw
    case rel=>exact ⟨1,by go_num,by omega,fun h=>by omega,fun _=>⟨HO5.out,((Below.refl _ w).alloc (Nat.le_refl _) _).trans (zU HG5.out)⟩⟩
    case measure=>simp [intOf]
   ·have h4i:decide ((4:Int) < (l.length:Int))=false:=by rw [decide_eq_false_iff_not];omega
    have ht:l.take 4=l:=List.take_of_length_le (by omega)
    rw [ht]
    rw [ht] at HNIL
    go_wp2_with (first
     | (at_builtin;refine wpList_append_own _ rfl (.tmp 28) (.tmp 30) 37 rfl w.heap.size 22 iK (.slice none 0 0) 1 24 Tryz.underlying37 hK hK0 hK1 hK2 rfl (by decide) _ _ _ rfl HNIL.out ⟨w.heap.size,0,none⟩ 1 1 [.slice a l.length cp] rfl rfl (oH w _ _ _ rfl) (zT _ _ _) (by unfold maxLen;omega) (by omega) (by simp) ?_;intro v5 w5 ho5 hg5 _;have HO5:=aA ho5;have HG5:=aA hg5;clear ho5 hg5)
     | go_in)
    go_roundw
    case rel=>exact ⟨1,by go_num,by omega,fun h=>by omega,fun _=>⟨HO5.out,((Below.refl _ w).alloc (Nat.le_refl _) _).trans (zU HG5.out)⟩⟩
    case measure=>simp [intOf]
  ·obtain rfl:k=1:=by omega
   obtain ⟨h2,h3⟩:=h1 rfl
   have H2:=aA h2
   obtain ⟨g2,cap2,rfl,_⟩:=h2.cell
   clear h0 h1 h2
   go_wp2
   go_ret
   exact ⟨_,rfl,H2.out,h3⟩
abbrev Us:=ByteArray×Bool×Int
def kZ (k:Nat) (n:Nd):List Us:=if aH n then [] else [(n.1,decide (k=0),n.2)]
def gW (l:List Nd):Nat→List Us
 | 0=>[]
 | k+1=>gW l k++((l[k]?).map (kZ k)).getD []
def lA (c:List Lt):Nat→List Us
 | 0=>[]
 | k+1=>lA c k++((c[k]?).map fun x=>gW x.2 x.2.length).getD []
def nR (c:List Lt):List Us:=lA c c.length
theorem aEa (l:List Nd) (k:Nat) (h:k < l.length):gW l (k+1)=gW l k++kZ k l[k]:=by simp [gW,h]
theorem zV (c:List Lt) (k:Nat) (h:k < c.length):lA c (k+1)=lA c k++gW c[k].2 c[k].2.length:=by simp [lA,h]
theorem aEb (l:List Nd) (k:Nat):(gW l k).length≤k:=by
 induction k with
 | zero=>simp [gW]
 | succ k ih=>
  simp only [gW,List.length_append]
  have:(((l[k]?).map (kZ k)).getD []).length≤1:=by
   cases l[k]? with
   | none=>simp
   | some n=>simp [kZ];split <;> simp
  omega
theorem aNt (c:List Lt) (k:Nat):(lA c k).length≤aN (c.take k):=by
 induction k with
 | zero=>simp [lA]
 | succ k ih=>
  by_cases h:k < c.length
  ·rw [zV c k h,List.take_succ_eq_append_getElem h,oI,List.length_append]
   have:=aEb c[k].2 c[k].2.length
   omega
  ·have h1:c[k]?=none:=List.getElem?_eq_none (by omega)
   have h2:c.take (k+1)=c.take k:=by rw [List.take_of_length_le (by omega),List.take_of_length_le (by omega)]
   simp only [lA,h1,h2]
   simpa using ih
def aEc (u:List Us):Prop:=∀i (h:i < u.length),u[i].2.2≤5∧∀k (hk:k < i),(u[k]'(by omega)).1=u[i].1→(u[k]'(by omega)).2=u[i].2
theorem aNu (n:Nat):((n:Int) == 0)=decide (n=0):=by
 rw [Bool.eq_iff_iff];simp
def lB (p:Pl):Us:=(p.1,p.2.1,p.2.2.1)
end Go.Proofs.YtbddofieljiihaaGreatDoor
namespace Go.Proofs.YtbddofieljiihaaGreatDoor
open Go.RowKit Go.Shelf
set_option maxRecDepth 100000
def eY (U:List Us):List Value:=U.flatMap fun u=>[.string u.1,.bool u.2.1,.int .i64 u.2.2]
theorem aNv (U:List Us) (x:Us):eY (U++[x])=eY U++[.string x.1,.bool x.2.1,.int .i64 x.2.2]:=by simp [eY]
theorem zW (U:List Us):∀k (h:k < U.length),(eY U)[k * 3]?=some (.string U[k].1)∧(eY U)[k * 3+1]?=some (.bool U[k].2.1)∧(eY U)[k * 3+2]?=some (.int .i64 U[k].2.2):=by
 induction U with
 | nil=>intro k h;simp at h
 | cons x r ih=>
  intro k h
  cases k with
  | zero=>simp [eY]
  | succ k=>
   have:=ih k (by simpa using h)
   have e1:(k+1) * 3=k * 3+3:=by omega
   rw [e1]
   simp only [eY,List.flatMap_cons,List.cons_append,List.nil_append,List.getElem_cons_succ] at this ⊢
   have e2:k * 3+3+1=k * 3+1+3:=by omega
   have e3:k * 3+3+2=k * 3+2+3:=by omega
   rw [e2,e3]
   simp only [List.getElem?_cons_succ]
   exact this
structure aEd (w:World) (a:Option Addr) (U:List Us):Prop where
 few:U.length≤1000000
 short:∀k (h:k < U.length),U[k].1.size≤140737488355328
 cell:∀k (h:k < U.length),∃b,a=some ⟨b,0,none⟩∧w.cell? ⟨b,k * 3,none⟩=some (.string U[k].1)∧w.cell? ⟨b,k * 3+1,none⟩=some (.bool U[k].2.1)∧w.cell? ⟨b,k * 3+2,none⟩=some (.int .i64 U[k].2.2)
theorem aNw {w:World} {B:Nat} {v:Value} {U:List Us} (h:w.ownsRow B 97 3 v U.length (eY U)) (hf:U.length≤1000000) (hs:∀k (h:k < U.length),U[k].1.size≤140737488355328) :
  ∃a cap,v=.slice a U.length cap∧aEd w a U:=by
 obtain ⟨h1,⟨rfl,h2⟩ | ⟨g,cap,cur,rfl,hb,hh,hc,hm,hz,ht⟩⟩:=h
 ·exact ⟨none,0,by rw [h2],hf,hs,fun k hk=>by omega⟩
 ·have ho:w.ownsRow B 97 3 (.slice (some ⟨g,0,none⟩) U.length cap) U.length (eY U):=⟨h1,Or.inr ⟨g,cap,cur,rfl,hb,hh,hc,hm,hz,ht⟩⟩
  refine ⟨_,_,rfl,hf,hs,fun k hk=>⟨g,rfl,?_,?_,?_⟩⟩
  ·rw [ho.cellAt (k * 3) (by omega),(zW U k hk).1]
  ·rw [ho.cellAt (k * 3+1) (by omega),(zW U k hk).2.1]
  ·rw [ho.cellAt (k * 3+2) (by omega),(zW U k hk).2.2]
theorem aEe:(Tryz.prog.info? 97).map (fun i=>(i.zero,i.size,i.bytes))=some (some (.agg #[.string ⟨#[]⟩,.bool false,.int .i64 0]),3,32):=by kernel_rfl
theorem aNx {w wm w1:World} {o v':Value} {U:List Us} {x:Us} (ho:wm.ownsRow w.heap.size 97 3 o U.length (eY U)) (hb:Below w.heap.size w wm)
  (ho':w1.ownsRow w.heap.size 97 3 v' (U.length+1) (eY U++[.string x.1,.bool x.2.1,.int .i64 x.2.2])) (hg:wm.grownBy w1 o.ownBlock) :
  w1.ownsRow w.heap.size 97 3 v' (U++[x]).length (eY (U++[x]))∧Below w.heap.size w w1:=by
 refine ⟨?_,hb.grown hg hb.size fun k e=>(bY ho k e).1⟩
 rw [aNv,List.length_append]
 exact ho'
theorem aNy (w:World) (r s x:Value) (t:TypeId) (n:Nat) (hn:n=w.heap.size):∀j u,[r,s,x][j]?=some u→(w.alloc (.cells #[r,s,x] t)).cell? ((⟨n,0,none⟩ : Addr).add j)=some u:=by
 subst hn
 intro j u hj
 match j,hj with
 | 0,hj=>simp at hj;subst hj;simp [Addr.add]
 | 1,hj=>simp at hj;subst hj;simp [Addr.add]
 | 2,hj=>simp at hj;subst hj;simp [Addr.add]
 | j+3,hj=>simp at hj
theorem aNz (s:ByteArray) (b:Bool) (x:Int):∀u∈[Value.string s,Value.bool b,Value.int .i64 x],u.oneCell'=true:=by
 intro u hu
 simp at hu
 rcases hu with rfl | rfl | rfl <;> rfl
set_option maxHeartbeats 2000000 in
theorem aO0 (a:Option Addr) (cp:Nat) (c:List Lt) (w:World) (h:bP w a c) (h60:aN c≤100000) :
  Calls Tryz.prog 45 #[.slice a c.length cp] w fun e w'=>∃v,e=.returned v∧w'.ownsRow w.heap.size 97 3 v (nR c).length (eY (nR c))∧Below w.heap.size w w':=by
 obtain ⟨iU,hU,hU0,hU1,hU2⟩:=info_parts aEe
 have hf:=h.few
 have HH:=aA h
 clear h
 go_enter Tryz.func45,Tryz.ntmps45
 go_wp2
 go_loopw [3,10] (fun o i wr=>∃k:Nat,k≤c.length∧i=.int .i64 k∧wr.ownsRow w.heap.size 97 3 o (lA c k).length (eY (lA c k))∧Below w.heap.size w wr) (fun _ i _=>c.length - (intOf i).toNat)
 case atStart=>exact ⟨0,Nat.zero_le _,rfl,World.ownsRow_nil _ _ _ _,Below.refl _ _⟩
 case round=>
  obtain ⟨k,hk,rfl,ho,hb⟩:=hrel
  by_cases hlt:k < c.length
  ·obtain ⟨b,q,aa,acp,rfl,e1,f1,g1⟩:=HH.out.cell k hlt
   have e2:=Below.at' hb (Nat.le_refl _) e1
   have f2:=Below.at' hb (Nat.le_refl _) f1
   have hus:=zV c k hlt
   have hul:=aNt c k
   have hct:=tF c (k+1)
   rw [List.take_succ_eq_append_getElem hlt,oI] at hct
   generalize c[k]=z at *
   obtain ⟨zb,zl⟩:=z
   simp only at e2 f2 g1 hus hct
   generalize lA c k=U0 at *
   have HUS:=aA hus
   have HG:=aA g1
   have hzl:=g1.few
   have hbs:=hb.size
   clear e1 f1 g1 hus
   go_wp2
   go_loopw [3,17] (fun o j wi=>∃n:Nat,n≤zl.length∧j=.int .i64 n∧wi.ownsRow w.heap.size 97 3 o (U0++gW zl n).length (eY (U0++gW zl n))∧Below w.heap.size w wi) (fun _ j _=>zl.length - (intOf j).toNat)
   case atStart=>exact ⟨0,Nat.zero_le _,rfl,by simpa [gW] using ho.alloc _,hb.alloc hbs _⟩
   case round=>
    obtain ⟨n,hn,rfl,ho2,hb2⟩:=hrel
    by_cases hnl:n < zl.length
    ·obtain ⟨b3,o3,rfl,e3,f3⟩:=HG.out.cell n hnl
     have q3:=Below.at' hb2 (Nat.le_refl _) e3
     have q4:=Below.at' hb2 (Nat.le_refl _) f3
     have hpt:=aEa zl n hnl
     have hpl:=aEb zl n
     generalize zl[n]=nd at *
     obtain ⟨s,x⟩:=nd
     simp only at q3 q4
     have CV:=aA (fun wx=>nE s x wx)
     have hb2s:=hb2.size
     have HB2:=aA hb2
     clear e3 f3 hb2
     cases hv:s.toList.isEmpty
     ·have hus:kZ n (s,x)=[(s,((n:Int) == 0),x)]:=by simp [kZ,aH,hv,aNu]
      rw [hus] at hpt
      rw [hv] at CV
      have HP:=aA hpt
      have hlen:(U0++gW zl n).length≤200000:=by rw [List.length_append];omega
      have HV:Hid (U0++gW zl (n+1)=(U0++gW zl n)++[(s,((n:Int) == 0),x)]):=aA (by rw [hpt,List.append_assoc])
      clear hpt HP
      generalize U0++gW zl n=V at *
      clear hus hv
      go_wp2_with (first
       | (go_at_call 49;refine (aB CV _).mono ?_;rintro e w1 ⟨rfl,hb1⟩;obtain ⟨r1,r2,r3⟩:=gD hb1;have ho1:=aZ (ho2.alloc _) hb1 (Nat.le_refl _);have HB1:=aA (HB2.out.trans (r3.mono hb2s));have h1s:=HB1.out.size;clear hb1 r3)
       | (at_builtin;refine wpList_append_own _ rfl (.tmp 25) (.tmp 33) 68 rfl w.heap.size 97 iU (.agg #[.string ⟨#[]⟩,.bool false,.int .i64 0]) 3 32 Tryz.underlying68 hU hU0 hU1 hU2 rfl (by decide) _ _ _ rfl (ho1.alloc _) ⟨w1.heap.size,0,none⟩ 1 1 [.string s,.bool ((n:Int) == 0),.int .i64 x] rfl rfl ?c1 ?c2 ?c3 ?c4 ?c5 ?_)
       | go_in)
      case c1=>exact aNy _ _ _ _ _ _ (by simp)
      case c2=>first | exact aNz _ _ _ | exact ⟨rfl,rfl,rfl⟩
      case c3=>unfold maxLen;omega
      case c4=>omega
      case c5=>exact Nat.le_trans h1s (World.grownBy_alloc _ _ none).size
      intro v' w2 ho' hg' _
      have R:=aNx (x:=(s,((n:Int) == 0),x)) (ho1.alloc _) (HB1.out.alloc h1s _) ho' hg'
      have HR:=aA R
      clear ho' hg' ho1 R
      go_wp2
      go_roundw
      case rel=>exact ⟨n+1,by omega,by go_num,by rw [HV.out];exact HR.out.1,HR.out.2⟩
      case measure=>simp [intOf];omega
     ·have hus:kZ n (s,x)=[]:=by simp [kZ,aH,hv]
      rw [hus,List.append_nil] at hpt
      rw [hv] at CV
      have HP:=aA hpt
      have HO:=aA ho2
      clear hpt hus hv ho2
      go_wp2_with (first
       | (go_at_call 49;refine (aB CV _).mono ?_;rintro e w1 ⟨rfl,hb1⟩;obtain ⟨r1,r2,r3⟩:=gD hb1;have HO1:=aA (aZ (HO.out.alloc _) hb1 (Nat.le_refl _));have HB1:=aA (HB2.out.trans (r3.mono hb2s));clear hb1 r3)
       | go_in)
      go_roundw
      case rel=>exact ⟨n+1,by omega,by go_num,by rw [HP.out];exact HO1.out,HB1.out⟩
      case measure=>simp [intOf];omega
    ·have hn':n=zl.length:=by omega
     subst hn'
     rw [←HUS.out] at ho2
     have HO:=aA ho2
     have HB2:=aA hb2
     clear ho2 hb2 HUS
     go_wp2
     go_roundw
     case rel=>exact ⟨k+1,by omega,by go_num,HO.out,HB2.out⟩
     case measure=>simp [intOf];omega
  ·have hk':k=c.length:=by omega
   subst hk'
   have F:=aA (And.intro ho hb)
   clear ho hb
   go_wp2
   go_ret
   exact ⟨_,rfl,F.out⟩
end Go.Proofs.YtbddofieljiihaaGreatDoor
namespace Go.Proofs.YtbddofieljiihaaGreatDoor
open Go.RowKit Go.Shelf Go.WideMaps
set_option maxRecDepth 100000
def tT (v:Value):Option (DataW Unit×List MemPlace):=
 match v with
 | .agg cs=>match cs.toList with
  | [.string s,.bool b,.int .i64 n]=>some (.agg [.lit (.string s.data.toList),.lit (.bool b),.lit (.int .i64 n)],[])
  | _=>none
 | _=>none
def oO (u:Us):DataW Unit:=.agg [.lit (.string u.1.data.toList),.lit (.bool u.2.1),.lit (.int .i64 u.2.2)]
theorem aEf {v:Value} {u:Us} {ps:List MemPlace} (h:tT v=some (oO u,ps)):v=.agg #[.string u.1,.bool u.2.1,.int .i64 u.2.2]:=by
 unfold tT at h
 split at h
 ·next cs=>
  split at h
  ·next s b n hcs=>
   have hcs':cs=#[.string s,.bool b,.int .i64 n]:=by
    have:=congrArg List.toArray hcs
    simpa using this
   subst hcs'
   simp only [oO,Option.some.injEq,Prod.mk.injEq,DataW.agg.injEq,List.cons.injEq,DataW.lit.injEq,Lit.string.injEq,Lit.bool.injEq,Lit.int.injEq,and_true,true_and] at h
   obtain ⟨⟨h1,h2,h3⟩,_⟩:=h
   have:s=u.1:=by
    obtain ⟨⟨x⟩⟩:=s
    obtain ⟨⟨⟨y⟩⟩,z⟩:=u
    simp at h1
    rw [h1]
   rw [this,h2,h3]
  ·simp at h
 ·simp at h
structure tU (D:DataW Unit) (U:List Us) (k:Nat):Prop where
 isMap:Maps.IsMap D
 old:∀j (h:j < U.length),j < k→Maps.has D (.string U[j].1.data.toList)=true∧∀z,D.atKey (.string U[j].1.data.toList) z=oO U[j]
 new:∀s:ByteArray,(∀j (h:j < U.length),j < k→U[j].1≠s)→Maps.has D (.string s.data.toList)=false
theorem aEg {s t:ByteArray} (h:s.data.toList=t.data.toList):s=t:=by
 obtain ⟨⟨x⟩⟩:=s
 obtain ⟨⟨y⟩⟩:=t
 simp at h
 rw [h]
theorem aO1 (U:List Us):tU (.map []) U 0:=⟨Maps.isMap_empty,fun j _ h=>by omega,fun s _=>rfl⟩
theorem aO2 {D:DataW Unit} {U:List Us} {k:Nat} (h:tU D U k) (hk:k < U.length) (hsame:∀j (hj:j < U.length),j < k→U[j].1=U[k].1→U[j]=U[k]) :
  tU (D.put (.string U[k].1.data.toList) (oO U[k])) U (k+1):=by
 have hkey:WideAt.IsKeyLit (.string U[k].1.data.toList):=trivial
 refine ⟨h.isMap.put _ _,fun j hj hjk=>?_,fun s hs=>?_⟩
 ·by_cases he:U[j].1=U[k].1
  ·have hu:U[j]=U[k]:=by
    by_cases hjk':j=k
    ·subst hjk';rfl
    ·exact hsame j hj (by omega) he
   rw [hu]
   exact ⟨Maps.has_put_same h.isMap hkey _,fun z=>Maps.atKey_put_same h.isMap hkey _ _⟩
  ·have hne:(Lit.string U[j].1.data.toList)≠.string U[k].1.data.toList:=fun e=>he (aEg (by simpa using e))
   have hjk':j < k:=by
    rcases Nat.lt_or_ge j k with h1 | h1
    ·exact h1
    ·have:j=k:=by omega
     subst this
     exact absurd rfl he
   have ho:=h.old j hj hjk'
   exact ⟨by rw [Maps.has_put_other hne];exact ho.1,fun z=>by rw [Maps.atKey_put_other hne];exact ho.2 z⟩
 ·have hne:(Lit.string s.data.toList)≠.string U[k].1.data.toList:=fun e=>hs k hk (by omega) (aEg (by simpa using e)).symm
  rw [Maps.has_put_other hne]
  exact h.new s fun j hj hjk=>hs j hj (by omega)
def pT (U:List Us) (k:Nat):Prop:=∀i (h:i < U.length),i < k→U[i].2.2≤5∧∀j (hj:j < i),(U[j]'(by omega)).1=U[i].1→(U[j]'(by omega)).2=U[i].2
theorem aO3 {U:List Us} (h:pT U U.length):aEc U:=fun i hi=>h i hi hi
theorem aO4:Tryz.prog.stoodInHeld 97=false:=by kernel_rfl
theorem aO5:Tryz.prog.eqGuardType Tryz.prog.depth 97=false:=by kernel_rfl
theorem aO6:Tryz.prog.underlying 97=some (.struct (Tryz.prog.fieldsOf 97)):=by kernel_rfl
def sA (x y:Us):Bool:=decide (x=y)
theorem aO7 (x y:Us) (w:World):(Op.equalIn 10000 97 (.agg #[.string x.1,.bool x.2.1,.int .i64 x.2.2]) (.agg #[.string y.1,.bool y.2.1,.int .i64 y.2.2])).run Tryz.prog w=.ok (sA x y) w:=by
 rw [show (10000:Nat)=9999+1 from rfl,run_equalIn_agg w 9999 97 _ _ aO6 aO4]
 simp only [Program.fieldsOf,Tryz.underlying97]
 go_simp
 obtain ⟨s,b,n⟩:=x
 obtain ⟨t,d,m⟩:=y
 simp only [sA,vH]
 by_cases h1:s=t <;> by_cases h2:b=d <;> by_cases h3:n=m <;> simp [h1,h2,h3]
def pU (U:List Us) (r:Int):Prop:=(r=-1∧aEc U)∨∃k:Nat,k < U.length∧r=k∧pT U k∧¬pT U (k+1)
theorem pU.of {U:List Us} {k:Nat} (h:pT U k) (hk:k < U.length) (hn:¬pT U (k+1)):pU U k:=Or.inr ⟨k,hk,rfl,h,hn⟩
set_option maxHeartbeats 2000000 in
theorem aO8 (a:Option Addr) (cp:Nat) (U:List Us) (w:World) (h:aEd w a U) :
  Calls Tryz.prog 26 #[.slice a U.length cp] w fun e w'=>∃r:Int,e=.returned (.int .i64 r)∧pU U r∧Below w.heap.size w w':=by
 have hf:=h.few
 have HH:=aA h
 have hmm:=@run_makeMap Tryz.prog
 have gU:=aO5
 clear h
 go_enter Tryz.func26,Tryz.ntmps26
 go_wp2
 go_loopw [11] (fun i wr=>∃(k:Nat) (D:DataW Unit),k≤U.length∧i=.int .i64 k∧wr.ownsMap Tryz.prog 9 tT w.heap.size k D∧tU D U k∧pT U k∧Below w.heap.size w wr) (fun i _=>U.length - (intOf i).toNat)
 case atStart=>exact ⟨0,.map [],Nat.zero_le _,rfl,World.ownsMap_made _ _ _ _,aO1 U,fun i _ hi=>by omega,(Below.refl _ _).alloc (Nat.le_refl _) _⟩
 case round=>
  obtain ⟨k,D,hk,rfl,hown,hmi,hok,hb⟩:=hrel
  have hbs:=hb.size
  have HM:=aA hmi
  have HK:=aA hok
  have HB:=aA hb
  by_cases hlt:k < U.length
  ·obtain ⟨b,rfl,e1,e2,e3⟩:=HH.out.cell k hlt
   have q1:=Below.at' hb (Nat.le_refl _) e1
   have q2:=Below.at' hb (Nat.le_refl _) e2
   have q3:=Below.at' hb (Nat.le_refl _) e3
   have hsh:=HH.out.short k hlt
   have HBAD:Hid (5 < U[k].2.2→pU U k):=fun h5=>pU.of HK.out hlt fun hu=>by have:=(hu k hlt (by omega)).1;omega
   have HODD:Hid (∀j (hj:j < U.length),j < k→U[j].1=U[k].1→U[j]≠U[k]→pU U k):=fun j hj hjk he hne=>pU.of HK.out hlt fun hu=>by
    have h2:=(hu k hlt (by omega)).2 j hjk he
    exact hne (Prod.ext he h2)
   have HNEXT:Hid (U[k].2.2≤5→(∀j (hj:j < U.length),j < k→U[j].1=U[k].1→U[j]=U[k])→pT U (k+1)∧tU (D.put (.string U[k].1.data.toList) (oO U[k])) U (k+1)):=fun h5 hs=>by
    refine ⟨fun i hi hik=>?_,aO2 HM.out hlt hs⟩
    by_cases hik':i=k
    ·subst hik'
     exact ⟨h5,fun j hj he=>by rw [hs j (by omega) hj he]⟩
    ·exact HK.out i hi (by omega)
   have hkey:keyOf Tryz.prog 9 (.string U[k].1)=some (.string U[k].1.data.toList):=keyOf_string_mk Tryz.underlying9 (by unfold maxLen;omega)
   clear e1 e2 e3 hb hmi hok
   by_cases h5:5 < U[k].2.2
   ·have HR:=aA (HBAD.out h5)
    clear HBAD HODD HNEXT hkey hown
    generalize U[k]=u at *
    obtain ⟨s,ub,m⟩:=u
    simp only at q1 q2 q3 h5
    go_wp2
    go_ret
    exact ⟨_,rfl,HR.out,HB.out.alloc hbs _⟩
   ·have h5':U[k].2.2≤5:=by omega
    have hX:=(hown.alloc (.cells #[.string U[k].1,.bool U[k].2.1,.int .i64 U[k].2.2] 97)).look_ok (Maps.string_keyed Tryz.underlying9) Tryz.underlying95 (Tryz.zeroValue97 _) (zd:=oO (⟨#[]⟩,false,0)) (zp:=[]) rfl hkey
    obtain ⟨v,ps,hrun,hv⟩:=hX
    cases hhas:Maps.has D (.string U[k].1.data.toList)
    ·rw [wJ HM.out.isMap hhas] at hv
     have hvv:=aEf hv
     subst hvv
     rw [hhas] at hrun
     have HN:=aA (HNEXT.out h5' (fun j hj hjk he=>by
      have:=(HM.out.old j hj hjk).1
      rw [he,hhas] at this
      simp at this))
     have HKEY:=aA hkey
     clear HBAD HODD HNEXT hv hhas hkey
     generalize hu:U[k]=u at *
     obtain ⟨s,ub,m⟩:=u
     simp only at q1 q2 q3 h5 h5' hsh hrun HN HKEY
     clear hu
     go_wp2_with (first
      | (at_mapUpdate;refine wpList_mapUpdate_own _ rfl _ _ _ 95 rfl 9 97 (Maps.string_keyed Tryz.underlying9) Tryz.underlying95 tT w.heap.size k D rfl ((hown.alloc _).alloc _) (by unfold maxLen;omega) _ _ (.string s.data.toList) rfl rfl (aB HKEY) (oO (s,ub,m)) [] rfl ?_)
      | go_in)
     intro w1 hown1 hgrow1
     have HO1:=aA hown1
     have HB1:=aA (((HB.out.alloc hbs (.cells #[.string s,.bool ub,.int .i64 m] 97)).alloc (by simp;omega) _).grown hgrow1 (by simp;omega) (fun x hx=>by simp at hx;omega))
     clear hown1 hgrow1 hown hrun
     go_wp2
     go_roundw
     case rel=>exact ⟨k+1,_,by omega,by go_num,HO1.out,HN.out.2,HN.out.1,HB1.out⟩
     case measure=>simp [intOf];omega
    ·obtain ⟨j,hj,hjk,hje⟩ : ∃j,∃hj:j < U.length,j < k∧U[j].1=U[k].1:=Classical.byContradiction fun hno=>by
      have:=HM.out.new U[k].1 (fun j hj hjk he=>hno ⟨j,hj,hjk,he⟩)
      rw [hhas] at this
      simp at this
     have hat:=(HM.out.old j hj hjk).2 (oO (⟨#[]⟩,false,0))
     rw [hje] at hat
     rw [hat] at hv
     have hvv:=aEf hv
     subst hvv
     rw [hhas] at hrun
     have qE:=fun wx=>aO7 U[j] U[k] wx
     have HKEY:=aA hkey
     by_cases hsame:U[j]=U[k]
     ·have hB:sA U[j] U[k]=true:=by simp [sA,hsame]
      have HN:=aA (HNEXT.out h5' (fun i hi hik he=>by
       by_cases hij:i=j
       ·subst hij;exact hsame
       ·have hi2:U[i].1=U[j].1:=he.trans hje.symm
        have:U[i]=U[j]:=by
         rcases Nat.lt_or_ge i j with hlt' | hge
         ·exact Prod.ext hi2 ((HK.out j hj hjk).2 i hlt' hi2)
         ·exact (Prod.ext hi2.symm ((HK.out i hi hik).2 j (by omega) hi2.symm)).symm
        rw [this,hsame]))
      rw [hsame] at hrun qE hB
      clear HBAD HODD HNEXT hv hhas hkey hat hsame hje
      generalize hu:U[k]=u at *
      obtain ⟨s,ub,m⟩:=u
      simp only at q1 q2 q3 h5 h5' hsh hrun HN HKEY qE
      clear hu
      go_wp2_with (first
       | (at_mapUpdate;refine wpList_mapUpdate_own _ rfl _ _ _ 95 rfl 9 97 (Maps.string_keyed Tryz.underlying9) Tryz.underlying95 tT w.heap.size k D rfl ((hown.alloc _).alloc _) (by unfold maxLen;omega) _ _ (.string s.data.toList) rfl rfl (aB HKEY) (oO (s,ub,m)) [] rfl ?_)
       | go_in)
      intro w1 hown1 hgrow1
      have HO1:=aA hown1
      have HB1:=aA (((HB.out.alloc hbs (.cells #[.string s,.bool ub,.int .i64 m] 97)).alloc (by simp;omega) _).grown hgrow1 (by simp;omega) (fun x hx=>by simp at hx;omega))
      clear hown1 hgrow1 hown hrun
      go_wp2
      go_roundw
      case rel=>exact ⟨k+1,_,by omega,by go_num,HO1.out,HN.out.2,HN.out.1,HB1.out⟩
      case measure=>simp [intOf];omega
     ·have hB:sA U[j] U[k]=false:=by simp [sA,hsame]
      have HR:=aA (HODD.out j hj hjk hje hsame)
      clear HBAD HODD HNEXT hv hhas hkey hat hje hsame HKEY
      generalize U[j]=y at *
      generalize hu:U[k]=u at *
      obtain ⟨s,ub,m⟩:=u
      obtain ⟨s',ub',m'⟩:=y
      simp only at q1 q2 q3 h5 h5' hsh hrun qE
      clear hu
      go_wp2
      go_ret
      exact ⟨_,rfl,HR.out,(HB.out.alloc hbs _).alloc (by simp;omega) _⟩
  ·have hk':k=U.length:=by omega
   subst hk'
   have HR:=aA (aO3 HK.out)
   clear hmi hok hown hb
   go_wp2
   go_ret
   exact ⟨_,rfl,Or.inl ⟨rfl,HR.out⟩,HB.out⟩
end Go.Proofs.YtbddofieljiihaaGreatDoor
