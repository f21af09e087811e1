/- What the names of literals are. The program: what the names are, each at its place. The program: the first use that cannot be. The program: AtOdds. The copy of a clause. The argument as the walks read it. -/
import Derived.Test.YthicbnejchpmgaaGreatDoorText0D
import Derived.Test.YthicbnejchpmgaaGreatDoorPCl0D
import Derived.Test.YthicbnejchpmgaaGreatDoorONum0D
import Derived.StringKeys
import Derived.Test.YthicbnejchpmgaaGreatDoorRTermD
import Derived.Deep.RegionHeld3
import Derived.Deep.SlicePairs
import Derived.SizedLaws
namespace Go.Proofs.YthicbnejchpmgaaGreatDoor
open Go.RowKit
set_option maxRecDepth 100000
abbrev Us:=ByteArray×Bool×Int
def lG (k:Nat) (n:Nd):List Us:=if aG n then [] else [(n.1,decide (k=0),n.2)]
def iE (l:List Nd):Nat→List Us
 | 0=>[]
 | k+1=>iE l k++((l[k]?).map (lG k)).getD []
def lH (c:List Lt):Nat→List Us
 | 0=>[]
 | k+1=>lH c k++((c[k]?).map fun x=>iE x.2 x.2.length).getD []
def oA (c:List Lt):List Us:=lH c c.length
theorem aEh (l:List Nd) (k:Nat) (h:k < l.length):iE l (k+1)=iE l k++lG k l[k]:=by simp [iE,h]
theorem aA0 (c:List Lt) (k:Nat) (h:k < c.length):lH c (k+1)=lH c k++iE c[k].2 c[k].2.length:=by simp [lH,h]
theorem aEi (l:List Nd) (k:Nat):(iE l k).length≤k:=by
 induction k with
 | zero=>simp [iE]
 | succ k ih=>
  simp only [iE,List.length_append]
  have:(((l[k]?).map (lG k)).getD []).length≤1:=by
   cases l[k]? with
   | none=>simp
   | some n=>simp [lG];split <;> simp
  omega
theorem aNi (c:List Lt) (k:Nat):(lH c k).length≤aP (c.take k):=by
 induction k with
 | zero=>simp [lH]
 | succ k ih=>
  by_cases h:k < c.length
  ·rw [aA0 c k h,List.take_succ_eq_append_getElem h,oO,List.length_append]
   have:=aEi c[k].2 c[k].2.length
   omega
  ·have h1:c[k]?=none:=List.getElem?_eq_none (by omega)
   have h2:c.take (k+1)=c.take k:=by rw [List.take_of_length_le (by omega),List.take_of_length_le (by omega)]
   simp only [lH,h1,h2]
   simpa using ih
def aEj (u:List Us):Prop:=∀i (h:i < u.length),u[i].2.2≤5∧∀k (hk:k < i),(u[k]'(by omega)).1=u[i].1→(u[k]'(by omega)).2=u[i].2
theorem aNj (n:Nat):((n:Int) == 0)=decide (n=0):=by
 rw [Bool.eq_iff_iff];simp
def lI (p:Pl):Us:=(p.1,p.2.1,p.2.2.1)
end Go.Proofs.YthicbnejchpmgaaGreatDoor
namespace Go.Proofs.YthicbnejchpmgaaGreatDoor
open Go.RowKit Go.Shelf
set_option maxRecDepth 100000
def fC (U:List Us):List Value:=U.flatMap fun u=>[.string u.1,.bool u.2.1,.int .i64 u.2.2]
theorem aNk (U:List Us) (x:Us):fC (U++[x])=fC U++[.string x.1,.bool x.2.1,.int .i64 x.2.2]:=by simp [fC]
theorem aA1 (U:List Us):∀k (h:k < U.length),(fC U)[k * 3]?=some (.string U[k].1)∧(fC U)[k * 3+1]?=some (.bool U[k].2.1)∧(fC U)[k * 3+2]?=some (.int .i64 U[k].2.2):=by
 induction U with
 | nil=>intro k h;simp at h
 | cons x r ih=>
  intro k h
  cases k with
  | zero=>simp [fC]
  | succ k=>
   have:=ih k (by simpa using h)
   have e1:(k+1) * 3=k * 3+3:=by omega
   rw [e1]
   simp only [fC,List.flatMap_cons,List.cons_append,List.nil_append,List.getElem_cons_succ] at this ⊢
   have e2:k * 3+3+1=k * 3+1+3:=by omega
   have e3:k * 3+3+2=k * 3+2+3:=by omega
   rw [e2,e3]
   simp only [List.getElem?_cons_succ]
   exact this
structure aEk (w:World) (a:Option Addr) (U:List Us):Prop where
 few:U.length≤1000000
 short:∀k (h:k < U.length),U[k].1.size≤140737488355328
 cell:∀k (h:k < U.length),∃b,a=some ⟨b,0,none⟩∧w.cell? ⟨b,k * 3,none⟩=some (.string U[k].1)∧w.cell? ⟨b,k * 3+1,none⟩=some (.bool U[k].2.1)∧w.cell? ⟨b,k * 3+2,none⟩=some (.int .i64 U[k].2.2)
theorem aNl {w:World} {B:Nat} {v:Value} {U:List Us} (h:w.ownsRow B 108 3 v U.length (fC U)) (hf:U.length≤1000000) (hs:∀k (h:k < U.length),U[k].1.size≤140737488355328) :
  ∃a cap,v=.slice a U.length cap∧aEk w a U:=by
 obtain ⟨h1,⟨rfl,h2⟩ | ⟨g,cap,cur,rfl,hb,hh,hc,hm,hz,ht⟩⟩:=h
 ·exact ⟨none,0,by rw [h2],hf,hs,fun k hk=>by omega⟩
 ·have ho:w.ownsRow B 108 3 (.slice (some ⟨g,0,none⟩) U.length cap) U.length (fC U):=⟨h1,Or.inr ⟨g,cap,cur,rfl,hb,hh,hc,hm,hz,ht⟩⟩
  refine ⟨_,_,rfl,hf,hs,fun k hk=>⟨g,rfl,?_,?_,?_⟩⟩
  ·rw [ho.cellAt (k * 3) (by omega),(aA1 U k hk).1]
  ·rw [ho.cellAt (k * 3+1) (by omega),(aA1 U k hk).2.1]
  ·rw [ho.cellAt (k * 3+2) (by omega),(aA1 U k hk).2.2]
theorem aEl:(Tryz.prog.info? 108).map (fun i=>(i.zero,i.size,i.bytes))=some (some (.agg #[.string ⟨#[]⟩,.bool false,.int .i64 0]),3,32):=by kernel_rfl
theorem aNm {w wm w1:World} {o v':Value} {U:List Us} {x:Us} (ho:wm.ownsRow w.heap.size 108 3 o U.length (fC U)) (hb:Below w.heap.size w wm)
  (ho':w1.ownsRow w.heap.size 108 3 v' (U.length+1) (fC U++[.string x.1,.bool x.2.1,.int .i64 x.2.2])) (hg:wm.grownBy w1 o.ownBlock) :
  w1.ownsRow w.heap.size 108 3 v' (U++[x]).length (fC (U++[x]))∧Below w.heap.size w w1:=by
 refine ⟨?_,hb.grown hg hb.size fun k e=>(bU ho k e).1⟩
 rw [aNk,List.length_append]
 exact ho'
theorem aNn (w:World) (r s x:Value) (t:TypeId) (n:Nat) (hn:n=w.heap.size):∀j u,[r,s,x][j]?=some u→(w.alloc (.cells #[r,s,x] t)).cell? ((⟨n,0,none⟩ : Addr).add j)=some u:=by
 subst hn
 intro j u hj
 match j,hj with
 | 0,hj=>simp at hj;subst hj;simp [Addr.add]
 | 1,hj=>simp at hj;subst hj;simp [Addr.add]
 | 2,hj=>simp at hj;subst hj;simp [Addr.add]
 | j+3,hj=>simp at hj
theorem aNo (s:ByteArray) (b:Bool) (x:Int):∀u∈[Value.string s,Value.bool b,Value.int .i64 x],u.oneCell'=true:=by
 intro u hu
 simp at hu
 rcases hu with rfl | rfl | rfl <;> rfl
set_option maxHeartbeats 2000000 in
theorem aNp (a:Option Addr) (cp:Nat) (c:List Lt) (w:World) (h:bS w a c) (h60:aP c≤100000) :
  Calls Tryz.prog 53 #[.slice a c.length cp] w fun e w'=>∃v,e=.returned v∧w'.ownsRow w.heap.size 108 3 v (oA c).length (fC (oA c))∧Below w.heap.size w w':=by
 obtain ⟨iU,hU,hU0,hU1,hU2⟩:=info_parts aEl
 have hf:=h.few
 have HH:=aA h
 clear h
 go_enter Tryz.func53,Tryz.ntmps53
 go_wp2
 go_loopw [3,10] (fun o i wr=>∃k:Nat,k≤c.length∧i=.int .i64 k∧wr.ownsRow w.heap.size 108 3 o (lH c k).length (fC (lH c k))∧Below w.heap.size w wr) (fun _ i _=>c.length - (intOf i).toNat)
 case atStart=>exact ⟨0,Nat.zero_le _,rfl,World.ownsRow_nil _ _ _ _,Below.refl _ _⟩
 case round=>
  obtain ⟨k,hk,rfl,ho,hb⟩:=hrel
  by_cases hlt:k < c.length
  ·obtain ⟨b,q,aa,acp,rfl,e1,f1,g1⟩:=HH.out.cell k hlt
   have e2:=Below.at' hb (Nat.le_refl _) e1
   have f2:=Below.at' hb (Nat.le_refl _) f1
   have hus:=aA0 c k hlt
   have hul:=aNi c k
   have hct:=tO c (k+1)
   rw [List.take_succ_eq_append_getElem hlt,oO] at hct
   generalize c[k]=z at *
   obtain ⟨zb,zl⟩:=z
   simp only at e2 f2 g1 hus hct
   generalize lH c k=U0 at *
   have HUS:=aA hus
   have HG:=aA g1
   have hzl:=g1.few
   have hbs:=hb.size
   clear e1 f1 g1 hus
   go_wp2
   go_loopw [3,17] (fun o j wi=>∃n:Nat,n≤zl.length∧j=.int .i64 n∧wi.ownsRow w.heap.size 108 3 o (U0++iE zl n).length (fC (U0++iE zl n))∧Below w.heap.size w wi) (fun _ j _=>zl.length - (intOf j).toNat)
   case atStart=>exact ⟨0,Nat.zero_le _,rfl,by simpa [iE] using ho.alloc _,hb.alloc hbs _⟩
   case round=>
    obtain ⟨n,hn,rfl,ho2,hb2⟩:=hrel
    by_cases hnl:n < zl.length
    ·obtain ⟨b3,o3,rfl,e3,f3⟩:=HG.out.cell n hnl
     have q3:=Below.at' hb2 (Nat.le_refl _) e3
     have q4:=Below.at' hb2 (Nat.le_refl _) f3
     have hpt:=aEh zl n hnl
     have hpl:=aEi zl n
     generalize zl[n]=nd at *
     obtain ⟨s,x⟩:=nd
     simp only at q3 q4
     have CV:=aA (fun wx=>nK s x wx)
     have hb2s:=hb2.size
     have HB2:=aA hb2
     clear e3 f3 hb2
     cases hv:s.toList.isEmpty
     ·have hus:lG n (s,x)=[(s,((n:Int) == 0),x)]:=by simp [lG,aG,hv,aNj]
      rw [hus] at hpt
      rw [hv] at CV
      have HP:=aA hpt
      have hlen:(U0++iE zl n).length≤200000:=by rw [List.length_append];omega
      have HV:Hid (U0++iE zl (n+1)=(U0++iE zl n)++[(s,((n:Int) == 0),x)]):=aA (by rw [hpt,List.append_assoc])
      clear hpt HP
      generalize U0++iE zl n=V at *
      clear hus hv
      go_wp2_with (first
       | (go_at_call 44;refine (aB CV _).mono ?_;rintro e w1 ⟨rfl,hb1⟩;obtain ⟨r1,r2,r3⟩:=gK hb1;have ho1:=aY (ho2.alloc _) hb1 (Nat.le_refl _);have HB1:=aA (HB2.out.trans (r3.mono hb2s));have h1s:=HB1.out.size;clear hb1 r3)
       | (at_builtin;refine wpList_append_own _ rfl (.tmp 25) (.tmp 33) 80 rfl w.heap.size 108 iU (.agg #[.string ⟨#[]⟩,.bool false,.int .i64 0]) 3 32 Tryz.underlying80 hU hU0 hU1 hU2 rfl (by decide) _ _ _ rfl (ho1.alloc _) ⟨w1.heap.size,0,none⟩ 1 1 [.string s,.bool ((n:Int) == 0),.int .i64 x] rfl rfl ?c1 ?c2 ?c3 ?c4 ?c5 ?_)
       | go_in)
      case c1=>exact aNn _ _ _ _ _ _ (by simp)
      case c2=>first | exact aNo _ _ _ | exact ⟨rfl,rfl,rfl⟩
      case c3=>unfold maxLen;omega
      case c4=>omega
      case c5=>exact Nat.le_trans h1s (World.grownBy_alloc _ _ none).size
      intro v' w2 ho' hg' _
      have R:=aNm (x:=(s,((n:Int) == 0),x)) (ho1.alloc _) (HB1.out.alloc h1s _) ho' hg'
      have HR:=aA R
      clear ho' hg' ho1 R
      go_wp2
      go_roundw
      case rel=>exact ⟨n+1,by omega,by go_num,by rw [HV.out];exact HR.out.1,HR.out.2⟩
      case measure=>simp [intOf];omega
     ·have hus:lG n (s,x)=[]:=by simp [lG,aG,hv]
      rw [hus,List.append_nil] at hpt
      rw [hv] at CV
      have HP:=aA hpt
      have HO:=aA ho2
      clear hpt hus hv ho2
      go_wp2_with (first
       | (go_at_call 44;refine (aB CV _).mono ?_;rintro e w1 ⟨rfl,hb1⟩;obtain ⟨r1,r2,r3⟩:=gK hb1;have HO1:=aA (aY (HO.out.alloc _) hb1 (Nat.le_refl _));have HB1:=aA (HB2.out.trans (r3.mono hb2s));clear hb1 r3)
       | go_in)
      go_roundw
      case rel=>exact ⟨n+1,by omega,by go_num,by rw [HP.out];exact HO1.out,HB1.out⟩
      case measure=>simp [intOf];omega
    ·have hn':n=zl.length:=by omega
     subst hn'
     rw [←HUS.out] at ho2
     have HO:=aA ho2
     have HB2:=aA hb2
     clear ho2 hb2 HUS
     go_wp2
     go_roundw
     case rel=>exact ⟨k+1,by omega,by go_num,HO.out,HB2.out⟩
     case measure=>simp [intOf];omega
  ·have hk':k=c.length:=by omega
   subst hk'
   have F:=aA (And.intro ho hb)
   clear ho hb
   go_wp2
   go_ret
   exact ⟨_,rfl,F.out⟩
end Go.Proofs.YthicbnejchpmgaaGreatDoor
namespace Go.Proofs.YthicbnejchpmgaaGreatDoor
open Go.RowKit Go.Shelf Go.WideMaps
set_option maxRecDepth 100000
def tZ (v:Value):Option (DataW Unit×List MemPlace):=
 match v with
 | .agg cs=>match cs.toList with
  | [.string s,.bool b,.int .i64 n]=>some (.agg [.lit (.string s.data.toList),.lit (.bool b),.lit (.int .i64 n)],[])
  | _=>none
 | _=>none
def oV (u:Us):DataW Unit:=.agg [.lit (.string u.1.data.toList),.lit (.bool u.2.1),.lit (.int .i64 u.2.2)]
theorem aEm {v:Value} {u:Us} {ps:List MemPlace} (h:tZ v=some (oV u,ps)):v=.agg #[.string u.1,.bool u.2.1,.int .i64 u.2.2]:=by
 unfold tZ at h
 split at h
 ·next cs=>
  split at h
  ·next s b n hcs=>
   have hcs':cs=#[.string s,.bool b,.int .i64 n]:=by
    have:=congrArg List.toArray hcs
    simpa using this
   subst hcs'
   simp only [oV,Option.some.injEq,Prod.mk.injEq,DataW.agg.injEq,List.cons.injEq,DataW.lit.injEq,Lit.string.injEq,Lit.bool.injEq,Lit.int.injEq,and_true,true_and] at h
   obtain ⟨⟨h1,h2,h3⟩,_⟩:=h
   have:s=u.1:=by
    obtain ⟨⟨x⟩⟩:=s
    obtain ⟨⟨⟨y⟩⟩,z⟩:=u
    simp at h1
    rw [h1]
   rw [this,h2,h3]
  ·simp at h
 ·simp at h
structure uA (D:DataW Unit) (U:List Us) (k:Nat):Prop where
 isMap:Maps.IsMap D
 old:∀j (h:j < U.length),j < k→Maps.has D (.string U[j].1.data.toList)=true∧∀z,D.atKey (.string U[j].1.data.toList) z=oV U[j]
 new:∀s:ByteArray,(∀j (h:j < U.length),j < k→U[j].1≠s)→Maps.has D (.string s.data.toList)=false
theorem aEn {s t:ByteArray} (h:s.data.toList=t.data.toList):s=t:=by
 obtain ⟨⟨x⟩⟩:=s
 obtain ⟨⟨y⟩⟩:=t
 simp at h
 rw [h]
theorem aNq (U:List Us):uA (.map []) U 0:=⟨Maps.isMap_empty,fun j _ h=>by omega,fun s _=>rfl⟩
theorem aNr {D:DataW Unit} {U:List Us} {k:Nat} (h:uA D U k) (hk:k < U.length) (hsame:∀j (hj:j < U.length),j < k→U[j].1=U[k].1→U[j]=U[k]) :
  uA (D.put (.string U[k].1.data.toList) (oV U[k])) U (k+1):=by
 have hkey:WideAt.IsKeyLit (.string U[k].1.data.toList):=trivial
 refine ⟨h.isMap.put _ _,fun j hj hjk=>?_,fun s hs=>?_⟩
 ·by_cases he:U[j].1=U[k].1
  ·have hu:U[j]=U[k]:=by
    by_cases hjk':j=k
    ·subst hjk';rfl
    ·exact hsame j hj (by omega) he
   rw [hu]
   exact ⟨Maps.has_put_same h.isMap hkey _,fun z=>Maps.atKey_put_same h.isMap hkey _ _⟩
  ·have hne:(Lit.string U[j].1.data.toList)≠.string U[k].1.data.toList:=fun e=>he (aEn (by simpa using e))
   have hjk':j < k:=by
    rcases Nat.lt_or_ge j k with h1 | h1
    ·exact h1
    ·have:j=k:=by omega
     subst this
     exact absurd rfl he
   have ho:=h.old j hj hjk'
   exact ⟨by rw [Maps.has_put_other hne];exact ho.1,fun z=>by rw [Maps.atKey_put_other hne];exact ho.2 z⟩
 ·have hne:(Lit.string s.data.toList)≠.string U[k].1.data.toList:=fun e=>hs k hk (by omega) (aEn (by simpa using e)).symm
  rw [Maps.has_put_other hne]
  exact h.new s fun j hj hjk=>hs j hj (by omega)
def qF (U:List Us) (k:Nat):Prop:=∀i (h:i < U.length),i < k→U[i].2.2≤5∧∀j (hj:j < i),(U[j]'(by omega)).1=U[i].1→(U[j]'(by omega)).2=U[i].2
theorem aNs {U:List Us} (h:qF U U.length):aEj U:=fun i hi=>h i hi hi
theorem aNt:Tryz.prog.stoodInHeld 108=false:=by kernel_rfl
theorem aNu:Tryz.prog.eqGuardType Tryz.prog.depth 108=false:=by kernel_rfl
theorem aNv:Tryz.prog.underlying 108=some (.struct (Tryz.prog.fieldsOf 108)):=by kernel_rfl
def sU (x y:Us):Bool:=decide (x=y)
theorem aNw (x y:Us) (w:World):(Op.equalIn 10000 108 (.agg #[.string x.1,.bool x.2.1,.int .i64 x.2.2]) (.agg #[.string y.1,.bool y.2.1,.int .i64 y.2.2])).run Tryz.prog w=.ok (sU x y) w:=by
 rw [show (10000:Nat)=9999+1 from rfl,run_equalIn_agg w 9999 108 _ _ aNv aNt]
 simp only [Program.fieldsOf,Tryz.underlying108]
 go_simp
 obtain ⟨s,b,n⟩:=x
 obtain ⟨t,d,m⟩:=y
 simp only [sU,vX]
 by_cases h1:s=t <;> by_cases h2:b=d <;> by_cases h3:n=m <;> simp [h1,h2,h3]
def qG (U:List Us) (r:Int):Prop:=(r=-1∧aEj U)∨∃k:Nat,k < U.length∧r=k∧qF U k∧¬qF U (k+1)
theorem qG.of {U:List Us} {k:Nat} (h:qF U k) (hk:k < U.length) (hn:¬qF U (k+1)):qG U k:=Or.inr ⟨k,hk,rfl,h,hn⟩
set_option maxHeartbeats 2000000 in
theorem aNx (a:Option Addr) (cp:Nat) (U:List Us) (w:World) (h:aEk w a U) :
  Calls Tryz.prog 31 #[.slice a U.length cp] w fun e w'=>∃r:Int,e=.returned (.int .i64 r)∧qG U r∧Below w.heap.size w w':=by
 have hf:=h.few
 have HH:=aA h
 have hmm:=@run_makeMap Tryz.prog
 have gU:=aNu
 clear h
 go_enter Tryz.func31,Tryz.ntmps31
 go_wp2
 go_loopw [11] (fun i wr=>∃(k:Nat) (D:DataW Unit),k≤U.length∧i=.int .i64 k∧wr.ownsMap Tryz.prog 9 tZ w.heap.size k D∧uA D U k∧qF U k∧Below w.heap.size w wr) (fun i _=>U.length - (intOf i).toNat)
 case atStart=>exact ⟨0,.map [],Nat.zero_le _,rfl,World.ownsMap_made _ _ _ _,aNq U,fun i _ hi=>by omega,(Below.refl _ _).alloc (Nat.le_refl _) _⟩
 case round=>
  obtain ⟨k,D,hk,rfl,hown,hmi,hok,hb⟩:=hrel
  have hbs:=hb.size
  have HM:=aA hmi
  have HK:=aA hok
  have HB:=aA hb
  by_cases hlt:k < U.length
  ·obtain ⟨b,rfl,e1,e2,e3⟩:=HH.out.cell k hlt
   have q1:=Below.at' hb (Nat.le_refl _) e1
   have q2:=Below.at' hb (Nat.le_refl _) e2
   have q3:=Below.at' hb (Nat.le_refl _) e3
   have hsh:=HH.out.short k hlt
   have HBAD:Hid (5 < U[k].2.2→qG U k):=fun h5=>qG.of HK.out hlt fun hu=>by have:=(hu k hlt (by omega)).1;omega
   have HODD:Hid (∀j (hj:j < U.length),j < k→U[j].1=U[k].1→U[j]≠U[k]→qG U k):=fun j hj hjk he hne=>qG.of HK.out hlt fun hu=>by
    have h2:=(hu k hlt (by omega)).2 j hjk he
    exact hne (Prod.ext he h2)
   have HNEXT:Hid (U[k].2.2≤5→(∀j (hj:j < U.length),j < k→U[j].1=U[k].1→U[j]=U[k])→qF U (k+1)∧uA (D.put (.string U[k].1.data.toList) (oV U[k])) U (k+1)):=fun h5 hs=>by
    refine ⟨fun i hi hik=>?_,aNr HM.out hlt hs⟩
    by_cases hik':i=k
    ·subst hik'
     exact ⟨h5,fun j hj he=>by rw [hs j (by omega) hj he]⟩
    ·exact HK.out i hi (by omega)
   have hkey:keyOf Tryz.prog 9 (.string U[k].1)=some (.string U[k].1.data.toList):=keyOf_string_mk Tryz.underlying9 (by unfold maxLen;omega)
   clear e1 e2 e3 hb hmi hok
   by_cases h5:5 < U[k].2.2
   ·have HR:=aA (HBAD.out h5)
    clear HBAD HODD HNEXT hkey hown
    generalize U[k]=u at *
    obtain ⟨s,ub,m⟩:=u
    simp only at q1 q2 q3 h5
    go_wp2
    go_ret
    exact ⟨_,rfl,HR.out,HB.out.alloc hbs _⟩
   ·have h5':U[k].2.2≤5:=by omega
    have hX:=(hown.alloc (.cells #[.string U[k].1,.bool U[k].2.1,.int .i64 U[k].2.2] 108)).look_ok (Maps.string_keyed Tryz.underlying9) Tryz.underlying106 (Tryz.zeroValue108 _) (zd:=oV (⟨#[]⟩,false,0)) (zp:=[]) rfl hkey
    obtain ⟨v,ps,hrun,hv⟩:=hX
    cases hhas:Maps.has D (.string U[k].1.data.toList)
    ·rw [wN HM.out.isMap hhas] at hv
     have hvv:=aEm hv
     subst hvv
     rw [hhas] at hrun
     have HN:=aA (HNEXT.out h5' (fun j hj hjk he=>by
      have:=(HM.out.old j hj hjk).1
      rw [he,hhas] at this
      simp at this))
     have HKEY:=aA hkey
     clear HBAD HODD HNEXT hv hhas hkey
     generalize hu:U[k]=u at *
     obtain ⟨s,ub,m⟩:=u
     simp only at q1 q2 q3 h5 h5' hsh hrun HN HKEY
     clear hu
     go_wp2_with (first
      | (at_mapUpdate;refine wpList_mapUpdate_own _ rfl _ _ _ 106 rfl 9 108 (Maps.string_keyed Tryz.underlying9) Tryz.underlying106 tZ w.heap.size k D rfl ((hown.alloc _).alloc _) (by unfold maxLen;omega) _ _ (.string s.data.toList) rfl rfl (aB HKEY) (oV (s,ub,m)) [] rfl ?_)
      | go_in)
     intro w1 hown1 hgrow1
     have HO1:=aA hown1
     have HB1:=aA (((HB.out.alloc hbs (.cells #[.string s,.bool ub,.int .i64 m] 108)).alloc (by simp;omega) _).grown hgrow1 (by simp;omega) (fun x hx=>by simp at hx;omega))
     clear hown1 hgrow1 hown hrun
     go_wp2
     go_roundw
     case rel=>exact ⟨k+1,_,by omega,by go_num,HO1.out,HN.out.2,HN.out.1,HB1.out⟩
     case measure=>simp [intOf];omega
    ·obtain ⟨j,hj,hjk,hje⟩ : ∃j,∃hj:j < U.length,j < k∧U[j].1=U[k].1:=Classical.byContradiction fun hno=>by
      have:=HM.out.new U[k].1 (fun j hj hjk he=>hno ⟨j,hj,hjk,he⟩)
      rw [hhas] at this
      simp at this
     have hat:=(HM.out.old j hj hjk).2 (oV (⟨#[]⟩,false,0))
     rw [hje] at hat
     rw [hat] at hv
     have hvv:=aEm hv
     subst hvv
     rw [hhas] at hrun
     have qE:=fun wx=>aNw U[j] U[k] wx
     have HKEY:=aA hkey
     by_cases hsame:U[j]=U[k]
     ·have hB:sU U[j] U[k]=true:=by simp [sU,hsame]
      have HN:=aA (HNEXT.out h5' (fun i hi hik he=>by
       by_cases hij:i=j
       ·subst hij;exact hsame
       ·have hi2:U[i].1=U[j].1:=he.trans hje.symm
        have:U[i]=U[j]:=by
         rcases Nat.lt_or_ge i j with hlt' | hge
         ·exact Prod.ext hi2 ((HK.out j hj hjk).2 i hlt' hi2)
         ·exact (Prod.ext hi2.symm ((HK.out i hi hik).2 j (by omega) hi2.symm)).symm
        rw [this,hsame]))
      rw [hsame] at hrun qE hB
      clear HBAD HODD HNEXT hv hhas hkey hat hsame hje
      generalize hu:U[k]=u at *
      obtain ⟨s,ub,m⟩:=u
      simp only at q1 q2 q3 h5 h5' hsh hrun HN HKEY qE
      clear hu
      go_wp2_with (first
       | (at_mapUpdate;refine wpList_mapUpdate_own _ rfl _ _ _ 106 rfl 9 108 (Maps.string_keyed Tryz.underlying9) Tryz.underlying106 tZ w.heap.size k D rfl ((hown.alloc _).alloc _) (by unfold maxLen;omega) _ _ (.string s.data.toList) rfl rfl (aB HKEY) (oV (s,ub,m)) [] rfl ?_)
       | go_in)
      intro w1 hown1 hgrow1
      have HO1:=aA hown1
      have HB1:=aA (((HB.out.alloc hbs (.cells #[.string s,.bool ub,.int .i64 m] 108)).alloc (by simp;omega) _).grown hgrow1 (by simp;omega) (fun x hx=>by simp at hx;omega))
      clear hown1 hgrow1 hown hrun
      go_wp2
      go_roundw
      case rel=>exact ⟨k+1,_,by omega,by go_num,HO1.out,HN.out.2,HN.out.1,HB1.out⟩
      case measure=>simp [intOf];omega
     ·have hB:sU U[j] U[k]=false:=by simp [sU,hsame]
      have HR:=aA (HODD.out j hj hjk hje hsame)
      clear HBAD HODD HNEXT hv hhas hkey hat hje hsame HKEY
      generalize U[j]=y at *
      generalize hu:U[k]=u at *
      obtain ⟨s,ub,m⟩:=u
      obtain ⟨s',ub',m'⟩:=y
      simp only at q1 q2 q3 h5 h5' hsh hrun qE
      clear hu
      go_wp2
      go_ret
      exact ⟨_,rfl,HR.out,(HB.out.alloc hbs _).alloc (by simp;omega) _⟩
  ·have hk':k=U.length:=by omega
   subst hk'
   have HR:=aA (aNs HK.out)
   clear hmi hok hown hb
   go_wp2
   go_ret
   exact ⟨_,rfl,Or.inl ⟨rfl,HR.out⟩,HB.out⟩
end Go.Proofs.YthicbnejchpmgaaGreatDoor
namespace Go.Proofs.YthicbnejchpmgaaGreatDoor
open Go.RowKit Go.ChangeShapes Go.WideShapes
set_option maxRecDepth 100000
theorem aNy {w:World} {a:Addr} {v:Value} (h:w.cell? (a.add (0 * 2))=some v):∃b o,a=⟨b,o,none⟩:=by
 obtain ⟨b,o,sp⟩:=a
 cases sp with
 | none=>exact ⟨b,o,rfl⟩
 | some s=>
  simp only [Addr.add,World.cell?] at h
  split at h <;> simp at h
theorem aEo (b o j:Nat):(⟨b,o,none⟩ : Addr).add j=⟨b,o+j,none⟩:=by unfold Addr.add;split <;> simp_all
theorem aNz:Tryz.prog.bytesOf 28=24:=by kernel_rfl
theorem aEp {H:Type} {P:Program} {e:TypeId} {d:DataW H}:∀{ds:List (DataW H)},d∈ds→∀n∈d.weights P e,n∈DataW.weightsAll P e ds
 | [],h,_,_=>by simp at h
 | x :: r,h,n,hn=>by
  simp only [DataW.weightsAll,List.mem_append]
  rcases List.mem_cons.1 h with rfl | h
  ·exact Or.inl hn
  ·exact Or.inr (aEp h n hn)
theorem aO0 {H:Type} {len:Nat} {D0 D1:Nat→DataW H} {sp:List (DataW H)} {i n:Nat} (hi:i < len) (hn:n∈(D0 i).weights Tryz.prog 9):n∈(DataW.slice ((List.range len).map fun i=>.agg [D0 i,D1 i]) sp).weights Tryz.prog 22:=by
 simp only [DataW.weights,Tryz.underlying22,List.mem_cons,List.mem_append]
 right;left
 refine aEp (d:=.agg [D0 i,D1 i]) (List.mem_map.2 ⟨i,List.mem_range.2 hi,rfl⟩) n ?_
 simp only [DataW.weights,Tryz.underlying28]
 exact DataW.weights_mem_each (j:=0) rfl rfl n hn
theorem aEq {H:Type} {enc:TypeId×Value→H} {w:World} {fuel:Nat} {cs:List Value} {x:DataW H×List MemPlace} (h:DataW.trod enc Tryz.prog w 0 (fun _=>true) true fuel 22 cs=some x) (hz:∀n∈x.1.weights Tryz.prog 22,n≤reachBytes) :
  ∃a l cap,cs=[.slice a (List.length l) cap]∧bQ w a l∧(a=none→cap=0):=by
 rcases Deep.open_slice_pairs Tryz.underlying22 Tryz.underlying28 (by kernel_rfl) rfl rfl (by kernel_rfl) (by kernel_rfl) h with ⟨rfl,rfl⟩ | ⟨a,len,cap,m,n,V0,V1,D0,D1,P0,P1,rfl,hb,hl,hm,hmm,rfl,hx⟩
 ·exact ⟨none,[],0,rfl,⟨by decide,fun k h=>absurd h (by simp),fun k h=>absurd h (by simp)⟩,fun _=>rfl⟩
 ·have hmc:m=cap:=by simpa using hmm
  subst hmc
  obtain ⟨f,hf⟩:=Deep.choose_lt (α:=Nd) (n:=len) (p:=fun i nd=>V0 i=.string nd.1∧V1 i=.int .i64 nd.2∧D0 i=.lit (.string nd.1.data.toList)) (fun i hi=>by
   obtain ⟨_,_,h0,h1⟩:=hx i (by omega)
   obtain ⟨s,hs,hd,_⟩:=DataW.trod_string Tryz.underlying9 h0
   obtain ⟨z,hz,_⟩:=DataW.trod_int Tryz.underlying3 h1
   exact ⟨(s,z),by simpa using hs,by simpa using hz,congrArg Prod.fst hd⟩)
  have hw:(len+(m - len)) * 24≤reachBytes:=by
   have:=hz ((((List.range len).map fun i=>DataW.agg [D0 i,D1 i]).length+((List.range (m - len)).map fun j=>DataW.agg [D0 (len+j),D1 (len+j)]).length) * Tryz.prog.bytesOf 28) (by simp only [DataW.weights,Tryz.underlying22];exact List.mem_cons_self)
   rw [aNz] at this
   simpa using this
  have hr:=reachBytes_lt
  refine ⟨some a,(List.range len).map f,m,by simp,⟨by simp;omega,fun k hk=>?_,fun k hk=>?_⟩,by simp⟩
  ·have hk':k < len:=by simpa using hk
   have hs:(f k).1.size≤reachBytes:=by
    refine hz _ (aO0 hk' ?_)
    rw [(hf k hk').2.2]
    simp [DataW.weights]
   simp
   omega
  ·have hk':k < len:=by simpa using hk
   obtain ⟨b,o,rfl⟩:=aNy (hx 0 (by omega)).1
   obtain ⟨g0,g1,_⟩:=hx k (by omega)
   rw [aEo,(hf k hk').1] at g0
   rw [aEo,(hf k hk').2.1] at g1
   exact ⟨b,o,rfl,by simpa using g0,by simpa [Nat.add_assoc] using g1⟩
end Go.Proofs.YthicbnejchpmgaaGreatDoor
