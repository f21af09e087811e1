/- The program: two lists of literals put together. The program: can literals be made ones that are among others? (all, by group) The program: can literals that hang together be made ones that are among others? The program: a matcher is made. The program: a matcher is made. The program: Covers. Pure: covering: of a clause by itself, and along. The program: IsClause. The program: Covers. -/
import Derived.Test.YtbddofieljiihaaGreatDoorCWaysI
import Derived.Lib.AppendZeros
import Derived.Deep.SlicePairs
import Derived.Laws.Tables
import Derived.Deep.Cut
import Derived.Test.YtbddofieljiihaaGreatDoorUPut1I
import Derived.Test.YtbddofieljiihaaGreatDoorXIntsI
namespace Go.Proofs.YtbddofieljiihaaGreatDoor
open Go.RowKit Go.Shelf
set_option maxRecDepth 100000
theorem aJ1 (w:World) (n cap:Nat) (z:Value) (hz:z.cells.size=2) (hn:n≤cap) (hc:cap≤maxLen) :
  (w.drew.alloc (.cells (Builtin.zeroCells z.cells n++Builtin.zeroCells z.cells (cap - n)) 74)).ownsRow w.heap.size 74 2 (.slice (some ⟨w.heap.size,0,none⟩) 0 cap) 0 []:=by
 refine ⟨by simp,.inr ⟨w.heap.size,cap,_,rfl,Nat.le_refl _,heap_alloc_new w.drew _,Nat.zero_le _,hc,?_,by simp⟩⟩
 simp only [Array.size_append,size_zeroCells,hz,←Nat.add_mul]
 congr 1
 omega
set_option maxHeartbeats 400000 in
theorem aJ2 (n:Nat) (w:World) (hn:n≤16) :
  Calls Tryz.prog 112 #[.slice none 0 0,.int .i64 n] w fun e w'=>∃v,e=.returned v∧w'.ownsRow w.heap.size 74 2 v 0 []∧Below w.heap.size w w':=by
 obtain ⟨iL,hL,hL0,hL1,hL2⟩:=info_parts qP
 by_cases h0:n=0
 ·subst h0
  go_enter Tryz.func112,Tryz.ntmps112
  go_wp2
  go_ret
  exact ⟨_,rfl,World.ownsRow_nil _ _ _ _,Below.refl _ _⟩
 ·have hge:=grownCap_ge w n 0 74
  have hle:=grownCap_le_maxLen w n 0 74 (by unfold maxLen;omega)
  have hR:=aA (Lib.run_append_nil_zeros (P:=Tryz.prog) w 24 3 24 74 iL (.agg #[.bool false,.slice none 0 0]) .i64 .i64 Tryz.underlying24 Tryz.underlying3 hL hL0 n (by omega) (by omega) (by omega) (by rw [hL2];omega))
  have HZ:=aA (aJ1 w n (grownCap w n 0 74) (.agg #[.bool false,.slice none 0 0]) rfl hge hle)
  have hgi:(0:Int)≤(grownCap w n 0 74:Int):=by omega
  have hn1:(0:Int) < (n:Int):=by omega
  have HBW:Hid (Below w.heap.size w (w.drew.alloc (.cells (Builtin.zeroCells (Value.agg #[.bool false,.slice none 0 0]).cells n++Builtin.zeroCells (Value.agg #[.bool false,.slice none 0 0]).cells (grownCap w n 0 74 - n)) 74))):=aA ((aJ (w:=w) (w1:=w.drew) ⟨1,rfl⟩).alloc (Nat.le_refl _) _)
  clear h0
  go_enter Tryz.func112,Tryz.ntmps112
  go_wp2_with (first
   | (at_builtin;refine Lib.wpList_append_run _ rfl _ _ _ _ rfl _ _ rfl rfl _ _ (aB hR) ?_)
   | go_in)
  go_ret
  exact ⟨_,rfl,HZ.out,HBW.out⟩
theorem aCa (P Q:List (Lt×Value)):aT (P++Q)=aT P++aT Q:=by simp [aT]
theorem aCb (w:World) (B:Nat) (P:List (Lt×Value)) (h:∀p∈P,nQ w B p.2 p.1.2):∀u∈aT P,u.oneCell'=true:=by
 intro u hu
 simp only [aT,List.mem_flatMap] at hu
 obtain ⟨p,hp,hu⟩:=hu
 obtain ⟨a,cap,e,_⟩:=h p hp
 simp at hu
 rcases hu with rfl | rfl
 ·rfl
 ·rw [e];rfl
theorem cJ.cells {w:World} {B b o:Nat} {c:List Lt} (h:cJ w B (some ⟨b,o,none⟩) c):∃P:List (Lt×Value),P.map Prod.fst=c∧(∀p∈P,nQ w B p.2 p.1.2)∧∀j u,(aT P)[j]?=some u→w.cell? ⟨b,o+j,none⟩=some u:=by
 obtain ⟨f,hf⟩:=Deep.choose_lt (α:=Value) (n:=c.length) (p:=fun k v=>∀hk:k < c.length,nQ w B v c[k].2∧w.cell? ⟨b,o+k * 2,none⟩=some (.bool c[k].1)∧w.cell? ⟨b,o+k * 2+1,none⟩=some v) (fun k hk=>by
  obtain ⟨b',o',aa,cap,e,_,h1,h2,h3,h4⟩:=h.cell k hk
  obtain ⟨rfl,rfl⟩ : b=b'∧o=o':=by simpa using e
  exact ⟨_,fun _=>⟨⟨aa,cap,rfl,h3,h4⟩,h1,h2⟩⟩)
 have hl:((List.range c.length).map fun k=>((c[k]?).getD (false,[]),f k)).length=c.length:=by simp
 refine ⟨(List.range c.length).map fun k=>((c[k]?).getD (false,[]),f k),?_,fun p hp=>?_,fun j u hu=>?_⟩
 ·rw [List.map_map]
  refine List.ext_getElem (by simp) fun k h1 h2=>?_
  simp [h2]
 ·obtain ⟨k,hk,rfl⟩:=List.mem_map.1 hp
  have hk':k < c.length:=by simpa using hk
  simp only [List.getElem?_eq_getElem hk',Option.getD_some]
  exact (hf k hk' hk').1
 ·have hj:j < (aT ((List.range c.length).map fun k=>((c[k]?).getD (false,[]),f k))).length:=(List.getElem?_eq_some_iff.1 hu).1
  rw [yI,hl] at hj
  have hk:j / 2 < c.length:=by omega
  obtain ⟨q1,q2⟩:=tG ((List.range c.length).map fun k=>((c[k]?).getD (false,[]),f k)) (j / 2) (by rw [hl];exact hk)
  simp [hk] at q1 q2
  obtain ⟨_,e1,e2⟩:=hf (j / 2) hk hk
  rcases Nat.mod_two_eq_zero_or_one j with h0 | h0
  ·have e:j=j / 2 * 2:=by omega
   rw [e] at hu ⊢
   rw [q1] at hu
   simp at hu
   rw [←hu]
   exact e1
  ·have e:j=j / 2 * 2+1:=by omega
   rw [e] at hu ⊢
   rw [q2] at hu
   simp at hu
   rw [←hu,←Nat.add_assoc]
   exact e2
set_option maxHeartbeats 1000000 in
theorem aJ3 (B q b1 o1 n1 b2 o2 n2:Nat) (c1 c2:List Lt) (w:World) (h1:cJ w B (some ⟨b1,o1,none⟩) c1) (h2:cJ w B (some ⟨b2,o2,none⟩) c2) (k0:w.cell? ⟨q,0,none⟩=some (.slice (some ⟨b1,o1,none⟩) c1.length n1)) (k1:w.cell? ⟨q,1,none⟩=some (.slice (some ⟨b2,o2,none⟩) c2.length n2)) :
  Calls Tryz.prog 83 #[.slice (some ⟨q,0,none⟩) 2 2] w fun e w'=>∃v,e=.returned v∧gA w B w.heap.size w' v (c1++c2)∧Below w.heap.size w w':=by
 obtain ⟨iL,hL,hL0,hL1,hL2⟩:=info_parts qP
 have f1:=h1.few
 have f2:=h2.few
 obtain ⟨P1,hP1,hA1,hc1⟩:=h1.cells
 obtain ⟨P2,hP2,hA2,hc2⟩:=h2.cells
 have hl1:P1.length=c1.length:=by rw [←hP1];simp
 have hl2:P2.length=c2.length:=by rw [←hP2];simp
 have CG:=aA (aJ2 (c1.length+c2.length) w (by omega))
 have HL1:=aA hl1
 have HL2:=aA hl2
 have HC1:=aA hc1
 have HC2:=aA hc2
 have HA1:=aA hA1
 have HA2:=aA hA2
 have HP1:=aA hP1
 have HP2:=aA hP2
 clear h1 h2 hP1 hP2 hA1 hA2 hc1 hc2 hl1 hl2
 go_enter Tryz.func83,Tryz.ntmps83
 go_wp2
 go_loop [3,11] (fun t i=>∃k m:Nat,k≤2∧i=.int .i64 k∧t=.int .i64 m∧m≤16∧((k=0∧m=0)∨(k=1∧m=c1.length)∨(k=2∧m=c1.length+c2.length))) (fun _ i=>2 - (intOf i).toNat)
 case atStart=>exact ⟨0,0,by omega,rfl,rfl,by omega,Or.inl ⟨rfl,rfl⟩⟩
 case round=>
  obtain ⟨k,m,hk,rfl,rfl,hm,hc⟩:=hrel
  rcases hc with ⟨rfl,rfl⟩ | ⟨rfl,hc⟩ | ⟨rfl,hc⟩
  ·go_wp2
   go_round
   case rel=>exact ⟨1,c1.length,by omega,by go_num,by go_num,by omega,Or.inr (Or.inl ⟨rfl,rfl⟩)⟩
   case measure=>simp [intOf]
  ·have HC:=aA hc
   clear hc
   go_wp2
   go_round
   case rel=>exact ⟨2,m+c2.length,by omega,by go_num,by go_num,by have:=HC.out;omega,Or.inr (Or.inr ⟨rfl,by rw [HC.out]⟩)⟩
   case measure=>simp [intOf]
  ·subst hc
   go_wp2_with (go_at_call 112;refine (aB CG).mono ?_;rintro e w1 ⟨v,rfl,ho,hb⟩;have HO:=aA ho;have HB:=aA hb;clear ho hb)
   go_loopw [6,27] (fun t i wr=>∃(k:Nat) (P:List (Lt×Value)),k≤2∧i=.int .i64 k∧wr.ownsRow w.heap.size 74 2 t P.length (aT P)∧Below w.heap.size w wr∧((k=0∧P=[])∨(k=1∧P=P1)∨(k=2∧P=P1++P2))) (fun _ i _=>2 - (intOf i).toNat)
   case atStart=>exact ⟨0,[],by omega,rfl,HO.out,HB.out,Or.inl ⟨rfl,rfl⟩⟩
   case round=>
   obtain ⟨k,P,hk,rfl,ho',hb',hor⟩:=hrel
   have HO':=aA ho'
   clear ho'
   rcases hor with ⟨rfl,rfl⟩ | ⟨rfl,hor⟩ | ⟨rfl,hor⟩
   ·have ho:=HO'.out
    have HCX:=aA (fun j u (h:(aT P1)[j]?=some u)=>Below.at' hb' (Nat.le_refl _) (HC1.out j u h))
    have HB':=aA hb'
    have kk:=Below.at' hb' (Nat.le_refl _) k0
    have hbs:=hb'.size
    clear hb' HO'
    go_wp2_with (first
     | (at_builtin;refine wpList_append_own _ rfl _ _ 24 rfl w.heap.size 74 iL (.agg #[.bool false,.slice none 0 0]) 2 32 Tryz.underlying24 hL hL0 hL1 hL2 rfl (by decide) _ _ _ rfl ho ⟨b1,o1,none⟩ c1.length n1 (aT P1) rfl ?d1 ?d2 ?d3 ?d4 ?d5 ?d6 ?_)
     | go_in)
    case d1=>rw [yI,HL1.out]
    case d2=>exact fun j u h=>by rw [Addr.add_lit];exact HCX.out j u h
    case d3=>exact aCb w B P1 HA1.out
    case d4=>unfold maxLen;have:=HL1.out;have:=HL2.out;simp;omega
    case d5=>have:=HL1.out;have:=HL2.out;simp;omega
    case d6=>exact hbs
    intro v' w2 ho2 hg2 _
    have HN:Hid (w2.ownsRow w.heap.size 74 2 v' ([]++P1).length (aT ([]++P1))):=aA (by
     have e:=ho2
     rw [←HL1.out,←aCa] at e
     simpa using e)
    have HBN:=aA (HB'.out.grown hg2 hbs fun k e=>(bY ho k e).1)
    clear ho2 hg2 ho
    go_wp2
    go_roundw
    case rel=>exact ⟨1,[]++P1,by omega,by go_num,HN.out,HBN.out,Or.inr (Or.inl ⟨rfl,by simp⟩)⟩
    case measure=>simp [intOf]
   ·replace hor:=hor.symm
    subst hor
    have ho:=HO'.out
    have HCX:=aA (fun j u (h:(aT P2)[j]?=some u)=>Below.at' hb' (Nat.le_refl _) (HC2.out j u h))
    have HB':=aA hb'
    have kk:=Below.at' hb' (Nat.le_refl _) k1
    have hbs:=hb'.size
    clear hb' HO'
    go_wp2_with (first
     | (at_builtin;refine wpList_append_own _ rfl _ _ 24 rfl w.heap.size 74 iL (.agg #[.bool false,.slice none 0 0]) 2 32 Tryz.underlying24 hL hL0 hL1 hL2 rfl (by decide) _ _ _ rfl ho ⟨b2,o2,none⟩ c2.length n2 (aT P2) rfl ?d1 ?d2 ?d3 ?d4 ?d5 ?d6 ?_)
     | go_in)
    case d1=>rw [yI,HL2.out]
    case d2=>exact fun j u h=>by rw [Addr.add_lit];exact HCX.out j u h
    case d3=>exact aCb w B P2 HA2.out
    case d4=>unfold maxLen;have:=HL1.out;have:=HL2.out;simp;omega
    case d5=>have:=HL1.out;have:=HL2.out;simp;omega
    case d6=>exact hbs
    intro v' w2 ho2 hg2 _
    have HN:Hid (w2.ownsRow w.heap.size 74 2 v' (P1++P2).length (aT (P1++P2))):=aA (by
     have e:=ho2
     rw [←HL2.out,←aCa] at e
     simpa using e)
    have HBN:=aA (HB'.out.grown hg2 hbs fun k e=>(bY ho k e).1)
    clear ho2 hg2 ho
    go_wp2
    go_roundw
    case rel=>exact ⟨2,P1++P2,by omega,by go_num,HN.out,HBN.out,Or.inr (Or.inr ⟨rfl,by simp⟩)⟩
    case measure=>simp [intOf]
   ·subst hor
    have HB':=aA hb'
    clear hb'
    go_wp2
    go_ret
    exact ⟨_,rfl,⟨P1++P2,by rw [List.map_append,HP1.out,HP2.out],HO'.out,fun p hp=>by rcases List.mem_append.1 hp with hp | hp;exact HA1.out p hp;exact HA2.out p hp⟩,HB'.out⟩
def yJ (n:Nat):Prop:=∀(B g:Nat) (da:Option Addr) (dcap:Nat) (d:List Lt) (L:aU) (w:World) (ca:Option Addr) (ccap:Nat) (c:List Lt),c.length≤n→bN w B g (.slice da d.length dcap) L→cJ w B da d→cJ w B ca c→c.length≤ccap→jZ d→jZ c→B≤w.heap.size→
 Calls Tryz.prog 32 #[.pointer (some ⟨g,0,none⟩),.slice ca c.length ccap] w fun e w'=>∃(r:Bool) (L':aU),e=.returned (.bool r)∧bN w' B g (.slice da d.length dcap) L'∧Fr B w w'∧(∃M,L'=L++M)∧(r=true→iF c L L'∧aAq d c L')∧(r=false→¬fC d c L)
def yK (n:Nat):Prop:=∀(B g:Nat) (da:Option Addr) (dcap:Nat) (d:List Lt) (L:aU) (w:World) (b o ccap:Nat) (c:List Lt),c.length≤n→0 < c.length→bN w B g (.slice da d.length dcap) L→cJ w B da d→cJ w B (some ⟨b,o,none⟩) c→c.length≤ccap→jZ d→jZ c→B≤w.heap.size→
 Calls Tryz.prog 53 #[.pointer (some ⟨g,0,none⟩),.slice (some ⟨b,o,none⟩) c.length ccap] w fun e w'=>∃(r:Bool) (L':aU),e=.returned (.bool r)∧bN w' B g (.slice da d.length dcap) L'∧Fr B w w'∧(∃M,L'=L++M)∧(r=true→iF c L L'∧aAq d c L')∧(r=false→¬fC d c L)
def aCc:Value→Nat
 | .slice _ n _=>n
 | _=>0
def aJ4 (d c ls:List Lt) (L:aU):Prop:=∀σ,Tm σ→gO σ L→∀l∈c,l∈ls∨(l.1,subst σ l.2)∈d
theorem jZ.of {c c':List Lt} (h:jZ c) (k:∀l∈c',l∈c):jZ c':=fun l hl=>h l (k l hl)
theorem fC.sub {d c c':List Lt} {L:aU} (h:fC d c L) (k:∀l∈c',l∈c):fC d c' L:=by
 obtain ⟨σ,h1,h2,h3⟩:=h
 exact ⟨σ,h1,h2,fun l hl=>h3 l (k l hl)⟩
theorem aJ5 {c ls G:List Lt} {L L1 L2:aU} (h:iF c L L1) (k:iF G L1 L2) (hs:∀l∈G,l∈ls) (hc:∀l∈ls,l∈c):iF c L L2:=h.trans k (fun _ hl=>hl) (fun l hl=>hc l (hs l hl))
set_option maxHeartbeats 1000000 in
theorem aCd (n:Nat) (hG:yK n):yJ n:=by
 intro B g da dcap d L w ca ccap c hn hM hD hC hcap hfd hfc hBw
 have HGS:=aA hG
 have HM:=aA hM
 have HD:=aA hD
 have HC:=aA hC
 have HFD:=aA hfd
 have HFC:=aA hfc
 have hc8:=hC.few
 clear hG hM hD hC hfd hfc
 go_enter Tryz.func32,Tryz.ntmps32
 go_wp2
 go_loopw [1] (fun v wr=>∃(ls:List Lt) (L1:aU) (la:Option Addr) (lcap:Nat),v=.slice la ls.length lcap∧ls.length≤n∧ls.length≤lcap∧cJ wr B la ls∧bN wr B g (.slice da d.length dcap) L1∧Fr B w wr∧(∀l∈ls,l∈c)∧(∃M,L1=L++M)∧(fC d c L↔fC d ls L1)∧iF c L L1∧aJ4 d c ls L1) (fun v _=>aCc v)
 case atStart=>exact ⟨c,L,ca,ccap,rfl,hn,hcap,HC.out,HM.out,Fr.refl _ _,fun _ h=>h,⟨[],by simp⟩,Iff.rfl,iF.refl _ _,fun _ _ _ l hl=>Or.inl hl⟩
 case round=>
  obtain ⟨ls,L1,la,lcap,rfl,hln,hlc,hL,hM,hF,hsub,hpre,hcov,hgr,hmb⟩:=hrel
  by_cases h0:0 < ls.length
  ·obtain ⟨b,o,_,_,rfl,_⟩:=hL.cell 0 h0
   have h0i:(0:Int) < (ls.length:Int):=by omega
   have CL:=aA (aK2 B g (.slice da d.length dcap) L1 wr b o lcap ls hM hL hlc (HFC.out.of hsub) h0 (Nat.le_trans hBw hF.size))
   have HF:=aA hF
   have HM1:=aA hM
   have HSUB:=aA hsub
   have HPRE:=aA hpre
   have HCOV:=aA hcov
   have HGR:=aA hgr
   have HMB:=aA hmb
   have hws:=Nat.le_trans hBw hF.size
   clear hL hM hF hsub hpre hcov hgr hmb
   go_wp2_with (first
    | (go_at_call 52;refine (aB CL).mono ?_;rintro e w1 ⟨G,R,ga,go,gcap,ra,rcap,rfl,hgc,hrc,hGL,hRL,hpar,hlen,hG0,hap,hb1⟩;have CG:=aA (HGS.out B g da dcap d L1 w1 ga go gcap G (by omega) hG0 (HM1.out.below hb1) (HD.out.fr (HF.out.trans (Fr.of_below hb1))) hGL hgc HFD.out (HFC.out.of fun l hl=>HSUB.out l ((hpar l).2 (Or.inl hl))) (Nat.le_trans hws hb1.size));have HB1:=aA hb1;have HRL:=aA hRL;have HPAR:=aA hpar;have HAP:=aA hap;clear hGL hRL hpar hap hb1)
    | (go_at_call 53;refine (aB CG).mono ?_;rintro e w2 ⟨r,L2,rfl,hm2,hf2,hp2,hr1,hr2⟩;have HM2:=aA hm2;have HF2:=aA hf2;have HP2:=aA hp2;have HR1:=aA hr1;have HR2:=aA hr2;clear hm2 hf2 hp2 hr1 hr2))
   ·have hr:r=false:=by first | assumption | (cases r <;> simp_all)
    subst hr
    go_ret
    refine ⟨false,L2,rfl,HM2.out,HF.out.trans ((Fr.of_below HB1.out).trans HF2.out),?_,by simp,fun _ hc=>?_⟩
    ·obtain ⟨M1,h1⟩:=HPRE.out
     obtain ⟨M2,h2⟩:=HP2.out
     exact ⟨M1++M2,by rw [h2,h1];simp⟩
    ·exact HR2.out rfl (((HCOV.out).1 hc).sub fun l hl=>(HPAR.out l).2 (Or.inl hl))
   ·have hr:r=true:=by first | assumption | (cases r <;> simp_all)
    subst hr
    go_roundw
    case rel=>
     obtain ⟨hg2,hmd⟩:=HR1.out rfl
     refine ⟨R,L2,ra,rcap,rfl,by omega,hrc,HRL.out.fr HF2.out,HM2.out,HF.out.trans ((Fr.of_below HB1.out).trans HF2.out),fun l hl=>HSUB.out l ((HPAR.out l).2 (Or.inr hl)),?_,?_,?_,?_⟩
     ·obtain ⟨M1,h1⟩:=HPRE.out
      obtain ⟨M2,h2⟩:=HP2.out
      exact ⟨M1++M2,by rw [h2,h1];simp⟩
     ·exact HCOV.out.trans (aQa HPAR.out HAP.out hg2 HM2.out.ok.look hmd)
     ·exact aJ5 HGR.out hg2 (fun l hl=>(HPAR.out l).2 (Or.inl hl)) HSUB.out
     ·intro σ hσ he l hl
      rcases HMB.out σ hσ (hg2.ext he) l hl with h | h
      ·rcases (HPAR.out l).1 h with h | h
       ·exact Or.inr (hmd σ hσ he l h)
       ·exact Or.inl h
      ·exact Or.inr h
    case measure=>simp [aCc];omega
  ·have hl0:ls=[]:=List.eq_nil_of_length_eq_zero (by omega)
   subst hl0
   have HF:=aA hF
   have HM1:=aA hM
   have HPRE:=aA hpre
   have HGR:=aA hgr
   have HMB:=aA hmb
   clear hL hM hF hsub hpre hcov hgr hmb
   go_wp2
   go_ret
   refine ⟨true,L1,rfl,HM1.out,HF.out,HPRE.out,fun _=>⟨HGR.out,fun σ hσ he l hl=>?_⟩,by simp⟩
   rcases HMB.out σ hσ he l hl with h | h
   ·simp at h
   ·exact h
theorem aJ6 (B g:Nat) (dv:Value) (L:aU) (w:World) (xb yb:Bool) (aa ba:Option Addr) (ac bc:Nat) (a b:List Nd) (hM:bN w B g dv L) (hA:eT w B aa a) (hB:eT w B ba b) (hbc:b.length≤bc) (ta:aI a 1=true) (tb:aI b 1=true) (a60:a.length≤60) (b60:b.length≤60) (hm:gY (xb,a) (yb,b) L=none) :
  ∀wx,(∃n,wx=w.drewN n)→Calls Tryz.prog 84 #[.pointer (some ⟨g,0,none⟩),.agg #[.bool xb,.slice aa a.length ac],.agg #[.bool yb,.slice ba b.length bc]] wx fun e w'=>e=.returned (.bool false)∧(∃M,bN w' B g dv (L++M))∧Fr B w w':=by
 intro wx hx
 refine (aAc B g dv L wx xb yb aa ba ac bc a b (hM.drawn hx) (hA.fr ((Fr.refl _ _).drawn hx)) (hB.fr ((Fr.refl _ _).drawn hx)) hbc ta tb a60 b60).mono ?_
 rintro e w' ⟨r,L',rfl,hm',hf,⟨M,rfl⟩,h1,h2⟩
 cases r with
 | true=>rw [hm] at h1;simp at h1
 | false=>exact ⟨rfl,⟨M,hm'⟩,((Fr.refl _ _).drawn hx).trans hf⟩
theorem aJ7 (B g:Nat) (dv:Value) (L L1:aU) (w:World) (xb yb:Bool) (aa ba:Option Addr) (ac bc:Nat) (a b:List Nd) (hM:bN w B g dv L) (hA:eT w B aa a) (hB:eT w B ba b) (hbc:b.length≤bc) (ta:aI a 1=true) (tb:aI b 1=true) (a60:a.length≤60) (b60:b.length≤60) (hm:gY (xb,a) (yb,b) L=some L1) :
  ∀wx,(∃n,wx=w.drewN n)→Calls Tryz.prog 84 #[.pointer (some ⟨g,0,none⟩),.agg #[.bool xb,.slice aa a.length ac],.agg #[.bool yb,.slice ba b.length bc]] wx fun e w'=>e=.returned (.bool true)∧bN w' B g dv L1∧Fr B w w':=by
 intro wx hx
 refine (aAc B g dv L wx xb yb aa ba ac bc a b (hM.drawn hx) (hA.fr ((Fr.refl _ _).drawn hx)) (hB.fr ((Fr.refl _ _).drawn hx)) hbc ta tb a60 b60).mono ?_
 rintro e w' ⟨r,L',rfl,hm',hf,_,h1,h2⟩
 cases r with
 | true=>
  have:=h1 rfl
  rw [hm] at this
  simp at this
  subst this
  exact ⟨rfl,hm',((Fr.refl _ _).drawn hx).trans hf⟩
 | false=>rw [hm] at h2;simp at h2
theorem cJ.take {w:World} {B b o:Nat} {c:List Lt} (h:cJ w B (some ⟨b,o,none⟩) c) (k:Nat):cJ w B (some ⟨b,o,none⟩) (c.take k):=by
 refine ⟨by have:=h.few;simp;omega,fun j hj=>?_⟩
 have hj':j < c.length:=by simp at hj;omega
 have:=h.cell j hj'
 simpa using this
theorem cJ.drop {w:World} {B b o:Nat} {c:List Lt} (h:cJ w B (some ⟨b,o,none⟩) c) (k:Nat):cJ w B (some ⟨b,o+k * 2,none⟩) (c.drop k):=by
 refine ⟨by have:=h.few;simp;omega,fun j hj=>?_⟩
 have hj':k+j < c.length:=by simp at hj;omega
 obtain ⟨b',o',aa,cap,e,hs,h1,h2,h3,h4⟩:=h.cell (k+j) hj'
 obtain ⟨rfl,rfl⟩ : b=b'∧o=o':=by simpa using e
 have ht:(c.drop k)[j]=c[k+j]:=by simp
 rw [ht]
 exact ⟨b,o+k * 2,aa,cap,rfl,hs,by rw [show o+k * 2+j * 2=o+(k+j) * 2 by omega];exact h1,by rw [show o+k * 2+j * 2+1=o+(k+j) * 2+1 by omega];exact h2,h3,h4⟩
theorem aCe (c:List Lt) (k:Nat) (h:k < c.length):∀l,l∈c↔l=c[k]∨l∈c.take k++c.drop (k+1):=by
 intro l
 have e:c=c.take k++c[k] :: c.drop (k+1):=by rw [←List.drop_eq_getElem_cons h,List.take_append_drop]
 constructor
 ·intro hl
  rw [e] at hl
  rcases List.mem_append.1 hl with hl | hl
  ·exact Or.inr (List.mem_append_left _ hl)
  ·rcases List.mem_cons.1 hl with hl | hl
   ·exact Or.inl hl
   ·exact Or.inr (List.mem_append_right _ hl)
 ·rintro (rfl | hl)
  ·exact List.getElem_mem _
  ·rcases List.mem_append.1 hl with hl | hl
   ·exact List.mem_of_mem_take hl
   ·exact List.mem_of_mem_drop hl
set_option maxHeartbeats 4000000 in
theorem aJ8 (n:Nat) (hS:yJ n):yK (n+1):=by
 intro B g da dcap d L w b o ccap c hn h0 hM hD hC hcap hfd hfc hBw
 have CT:=aA (aJm B g da dcap d L w (some ⟨b,o,none⟩) ccap c hM hD hC hfd hfc h0)
 have HS:=aA hS
 have HM:=aA hM
 have HD:=aA hD
 have HC:=aA hC
 have HFD:=aA hfd
 have HFC:=aA hfc
 have hc8:=hC.few
 have hd8:=hD.few
 clear hS hM hD hC hfd hfc
 go_enter Tryz.func53,Tryz.ntmps53
 go_wp2_with (go_at_call 82;refine (aB CT).mono ?_;rintro e w1 ⟨k,rfl,hk,hm1,hf1⟩;have HM1:=aA hm1;have HF1:=aA hf1;have hw1:=hf1.size;clear hm1 hf1)
 have hi1:(k:Int)≤(ccap:Int):=by omega
 have hi2:(k:Int)+1≤(c.length:Int):=by omega
 have hi3:(c.length:Int)≤(ccap:Int):=by omega
 have hi4:(0:Int)≤(k:Int):=by omega
 have hi5:(k:Int)+1≤(ccap:Int):=by omega
 have hi6:(0:Int)≤(k:Int)+1:=by omega
 have hi7:((k:Int)+1).toNat=k+1:=by omega
 have hw:IntKind.i64.wrap ((k:Int)+1)=(k:Int)+1:=by rw [IntKind.wrap_i64];omega
 obtain ⟨b2,o2,hra,hdr⟩ : ∃b2 o2,(if ccap=k+1 then some (⟨b,o,none⟩ : Addr) else some ⟨b,o+(k+1) * 2,none⟩)=some ⟨b2,o2,none⟩∧cJ w1 B (some ⟨b2,o2,none⟩) (c.drop (k+1)):=by
  by_cases h1:ccap=k+1
  ·have:c.drop (k+1)=[]:=List.drop_eq_nil_of_le (by omega)
   rw [this]
   exact ⟨b,o,if_pos h1,⟨by simp,fun k hk=>by simp at hk⟩⟩
  ·exact ⟨b,o+(k+1) * 2,if_neg h1,(HC.out.fr HF1.out).drop (k+1)⟩
 have hb2:Below w1.heap.size w1 (w1.alloc (.cells #[.slice (some ⟨b,o,none⟩) k ccap,.slice (some ⟨b2,o2,none⟩) (c.length - (k+1)) (ccap - (k+1))] 24)):=(Below.refl _ _).alloc (Nat.le_refl _) _
 have hbx:=qR w1 (.slice (some ⟨b,o,none⟩) k ccap) (.slice (some ⟨b2,o2,none⟩) (c.length - (k+1)) (ccap - (k+1))) 24
 have hlt1:(c.take k).length=k:=by simp;omega
 have hlt2:(c.drop (k+1)).length=c.length - (k+1):=by simp
 have CC:=aA (fun wx (hx:∃n,wx=(w1.alloc (.cells #[.slice (some ⟨b,o,none⟩) k ccap,.slice (some ⟨b2,o2,none⟩) (c.length - (k+1)) (ccap - (k+1))] 24)).drewN n)=>
  aJ3 B w1.heap.size b o ccap b2 o2 (ccap - (k+1)) (c.take k) (c.drop (k+1)) wx (((((HC.out.fr HF1.out).take k).fr (Fr.of_below hb2)).fr ((Fr.refl _ _).drawn hx))) ((hdr.fr (Fr.of_below hb2)).fr ((Fr.refl _ _).drawn hx)) (by rw [hlt1];obtain ⟨m,rfl⟩:=hx;exact hbx.1) (by rw [hlt2];obtain ⟨m,rfl⟩:=hx;exact hbx.2))
 have hrl:(c.take k++c.drop (k+1)).length+1=c.length:=by simp;omega
 have HB2:=aA hb2
 have HX1:=aA (HC.out.cell k hk)
 have HXF:=aA (HFC.out c[k] (List.getElem_mem _))
 have HMR:=aA (aCe c k hk)
 have HFR:Hid (jZ (c.take k++c.drop (k+1))):=aA (HFC.out.of fun l hl=>(aCe c k hk l).2 (Or.inr hl))
 generalize hrest:c.take k++c.drop (k+1)=rest at *
 obtain ⟨x,hx⟩ : ∃x,x=c[k]:=⟨_,rfl⟩
 rw [←hx] at HX1 HXF HMR
 clear hb2 hbx hlt1 hlt2 hdr hrest hx
 go_region_held3 (fun _=>True) (trivial) ((go_at_call 83;refine (aB CC _ (by first | exact ⟨0,rfl⟩ | exact ⟨1,rfl⟩ | exact ⟨_,rfl⟩)).mono ?_;rintro e w2 ⟨v,rfl,hrow,hb3⟩;have HB4:=aA hb3;replace hb3:=qS (W:=w1.alloc (.cells #[.slice (some ⟨b,o,none⟩) k ccap,.slice (some ⟨b2,o2,none⟩) (c.length - (k+1)) (ccap - (k+1))] 24)) (by first | exact ⟨0,rfl⟩ | exact ⟨1,rfl⟩ | exact ⟨_,rfl⟩) hb3;have HROW:=aA hrow;have HB3:=aA hb3;clear hrow hb3))
 have hB2:Below w1.heap.size w1 w2:=HB2.out.trans (HB3.out.mono (by simp))
 have hbase:Below ((w1.alloc (.cells #[.slice (some ⟨b,o,none⟩) k ccap,.slice (some ⟨b2,o2,none⟩) (c.length - (k+1)) (ccap - (k+1))] 24)).drew).heap.size ((w1.alloc (.cells #[.slice (some ⟨b,o,none⟩) k ccap,.slice (some ⟨b2,o2,none⟩) (c.length - (k+1)) (ccap - (k+1))] 24)).drew) w2:=HB4.out
 obtain ⟨ra,rcap,rfl,hrc,hRL,-⟩:=HROW.out.lits hbase (by omega)
 have HF2:Hid (Fr B w w2):=aA (HF1.out.trans (Fr.of_below hB2))
 have HM2:=aA (HM1.out.below hB2)
 have HRL:=aA hRL
 have ham:=HM2.out.among
 have hw2:=(HF2.out).size
 clear hB2 hbase hRL hra hi1 hi2 hi3 hi4 hi5 hi6 hi7 hw
 go_wp2
 go_loopw [27] (fun i wr=>∃j:Nat,j≤d.length∧i=.int .i64 j∧bN wr B g (.slice da d.length dcap) L∧Fr B w2 wr∧(∀y∈d.take j,∀L',gY x y L=some L'→¬fC d rest L')) (fun i _=>d.length - (intOf i).toNat)
 case atStart=>exact ⟨0,Nat.zero_le _,rfl,HM2.out,Fr.refl _ _,by simp⟩
 case round=>
  obtain ⟨j,hj,rfl,hM,hF,hno⟩:=hrel
  by_cases hlt:j < d.length
  ·obtain ⟨b4,o4,ya,yc,rfl,hs4,y1,y2,hyc,hY⟩:=((HD.out.fr HF2.out).fr hF).cell j hlt
   obtain ⟨hty,hy60⟩:=HFD.out d[j] (List.getElem_mem _)
   obtain ⟨b3,o3,xa,xc,e3,hs30,x10,x20,hxc,hX0⟩:=HX1.out
   obtain ⟨rfl,rfl⟩ : b=b3∧o=o3:=by simpa using e3
   have hFw:=HF2.out.trans hF
   have x1:=hFw.cell x10 hs30
   have x2:=hFw.cell x20 hs30
   have hX:=hX0.fr hFw
   have hs3:=hs30.fr (World.block_lt_of_cell? w _ x10) hFw
   obtain ⟨htx,hx60⟩:=HXF.out
   obtain ⟨ba,bcap,hbl⟩:=hM.len
   have hlb:(L.length:Int)≤60:=by have:=hM.ok.few;omega
   have htk:d.take (j+1)=d.take j++[d[j]]:=List.take_succ_eq_append_getElem hlt
   have hyd:d[j]∈d:=List.getElem_mem _
   have hki:(k:Int) < (c.length:Int):=by omega
   generalize d[j]=y at *
   obtain ⟨yb,yl⟩:=y
   obtain ⟨xb,xl⟩:=x
   simp only at y1 y2 hty hy60 hY hyc x1 x2 hX htx hx60 hxc
   have hb5:Below wr.heap.size wr (wr.alloc (.cells #[.bool yb,.slice ya yl.length yc] 74)):=(Below.refl _ _).alloc (Nat.le_refl _) _
   have hbx:=qR wr (.bool yb) (.slice ya yl.length yc) 74
   have hs5:=wP (w:=wr) (B:=B) #[.bool yb,.slice ya yl.length yc] 74 (by decide) (by decide)
   have hs6:jT (wr.alloc (.cells #[.bool yb,.slice ya yl.length yc] 74)) B b:=hs3.fr (World.block_lt_of_cell? wr _ x1) (Fr.of_below hb5)
   have x12:=Below.at' hb5 (Nat.le_refl _) x1
   have x22:=Below.at' hb5 (Nat.le_refl _) x2
   have hbl2:=Below.at' hb5 (Nat.le_refl _) hbl
   obtain ⟨hbx0,hbx1⟩:=hbx
   have hM5:=hM.below hb5
   have hX5:=hX.fr (Fr.of_below hb5)
   have hY5:=hY.fr (Fr.of_below hb5)
   have HF5:=aA (hF.trans (Fr.of_below hb5))
   have HNO:=aA hno
   have HTK:=aA htk
   have HYD:=aA hyd
   have HS5:=aA hs5
   have HS6:=aA hs6
   have hws5:=(HF5.out).size
   clear hno htk hyd hM hF hFw hs3 hs30 hs4 hs5 hs6 hX0 hX hY x10 x20 e3 x1 x2 hbl
   cases hml:gY (xb,xl) (yb,yl) L with
   | none=>
    have CM:=aA (aJ6 B g (.slice (some ⟨b4,o4,none⟩) d.length dcap) L _ xb yb xa ya xc yc xl yl hM5 hX5 hY5 hyc htx hty hx60 hy60 hml)
    have HML:=aA hml
    clear hM5 hX5 hY5 hml hyc hty hy60 htx hx60 hb5
    go_wp2_with fail
    generalize hWI:wr.alloc (.cells #[.bool yb,.slice ya yl.length yc] 74)=WI at *
    clear hWI
    first | go_region_with (go_at_call 84;refine (aB CM _ (by first | exact ⟨0,rfl⟩ | exact ⟨1,rfl⟩ | exact ⟨_,rfl⟩)).mono ?_;rintro e w3 ⟨rfl,⟨M,hm3⟩,hf3⟩;have c0:=hf3.cell x12 HS6.out;have c1:=hf3.cell x22 HS6.out;have c2:=hf3.cell hbx0 HS5.out;have c3:=hf3.cell hbx1 HS5.out;have CF:=aA (aAd B g _ L M w3 hm3);have HF6:=aA (HF5.out.trans hf3);clear hm3 hf3) | fail
    all_goals
     go_wp2_with (go_at_call 85;refine (aB CF).mono ?_;rintro e w5 ⟨rfl,hm5,hf5⟩;have HM5:=aA hm5;have HF7:=aA (HF6.out.trans hf5);clear hm5 hf5)
     go_roundw
     case rel=>exact ⟨j+1,by omega,by go_num,HM5.out,HF7.out,by
      intro y hy L' hL'
      rw [HTK.out] at hy
      rcases List.mem_append.1 hy with hy | hy
      ·exact HNO.out y hy L' hL'
      ·simp at hy
       subst hy
       rw [HML.out] at hL'
       simp at hL'⟩
     case measure=>simp [intOf];omega
   | some L1=>
    have CM:=aA (aJ7 B g (.slice (some ⟨b4,o4,none⟩) d.length dcap) L L1 _ xb yb xa ya xc yc xl yl hM5 hX5 hY5 hyc htx hty hx60 hy60 hml)
    obtain ⟨M1,hM1,hgr⟩:=aQ7 (x:=(xb,xl)) (y:=(yb,yl)) htx hty hml
    have HML:=aA hml
    have HG1:=aA hM1
    have HTX:=aA (And.intro htx hty)
    have HGV:=aA hgr
    clear hM5 hX5 hY5 hml hyc hty hy60 htx hx60 hb5 hM1 hgr
    go_wp2_with fail
    generalize hWI:wr.alloc (.cells #[.bool yb,.slice ya yl.length yc] 74)=WI at *
    clear hWI
    go_region_held3 (fun w'=>w'.cell? ⟨b,o+k * 2,none⟩=some (.bool xb)∧w'.cell? ⟨b,o+k * 2+1,none⟩=some (.slice xa xl.length xc)∧w'.cell? ⟨wr.heap.size,0,none⟩=some (.bool yb)∧w'.cell? ⟨wr.heap.size,1,none⟩=some (.slice ya yl.length yc)) (go_keep)
     (first
      | (go_at_call 84;refine (aB CM _ (by first | exact ⟨0,rfl⟩ | exact ⟨1,rfl⟩ | exact ⟨_,rfl⟩)).mono ?_;rintro e w3 ⟨rfl,hm3,hf3⟩;have c0:=hf3.cell x12 HS6.out;have c1:=hf3.cell x22 HS6.out;have c2:=hf3.cell hbx0 HS5.out;have c3:=hf3.cell hbx1 HS5.out;have hws3:=hf3.size;have CA:=aA (HS.out B g (some ⟨b4,o4,none⟩) dcap d L1 w3 ra rcap rest (by omega) hm3 (((HD.out.fr HF2.out).fr HF5.out).fr hf3) ((HRL.out.fr HF5.out).fr hf3) hrc HFD.out HFR.out (by omega));have HF3:=aA hf3;clear hm3 hf3)
      | (go_at_call 32;refine (aB CA).mono ?_;rintro e w4 ⟨r,L2,rfl,hm4,hf4,⟨M2,hM2⟩,hr1,hr2⟩;have k0:=hf4.cell c0 (HS6.out.fr (World.block_lt_of_cell? _ _ x12) HF3.out);have k1:=hf4.cell c1 (HS6.out.fr (World.block_lt_of_cell? _ _ x22) HF3.out);have k2:=hf4.cell c2 (HS5.out.fr (World.block_lt_of_cell? _ _ hbx0) HF3.out);have k3:=hf4.cell c3 (HS5.out.fr (World.block_lt_of_cell? _ _ hbx1) HF3.out);have CF:=aA (aAd B g (.slice (some ⟨b4,o4,none⟩) d.length dcap) L (M1++M2) w4 (by rw [←List.append_assoc,←HG1.out,←hM2];exact hm4));have HM4:=aA hm4;have HF6:=aA ((HF5.out.trans HF3.out).trans hf4);have HR1:=aA hr1;have HR2:=aA hr2;have HM2':=aA hM2;clear hm4 hf4 hr1 hr2 hM2))
    go_wp2_with (go_at_call 85;refine (aB CF).mono ?_;rintro e w5 ⟨rfl,hm5,hf5⟩;have HM5:=aA hm5;have HF7:=aA (HF6.out.trans hf5);clear hm5 hf5)
    ·have hr:r=true:=by first | assumption | (cases r <;> simp_all)
     subst hr
     go_ret
     obtain ⟨hg2,hmd⟩:=HR1.out rfl
     have hsp:=aAp (x:=(xb,xl)) (y:=(yb,yl)) HTX.out.1 HTX.out.2 HML.out
     refine ⟨true,L2,rfl,HM4.out,HF2.out.trans HF6.out,⟨M1++M2,by rw [HM2'.out,HG1.out];simp⟩,fun _=>⟨?_,?_⟩,by simp⟩
     ·refine iF.trans (c:=[(xb,xl)]) ⟨M1,HG1.out,fun p hp=>⟨⟨(xb,xl),by simp,(HGV.out p hp).1⟩,(HGV.out p hp).2⟩⟩ hg2 (fun l hl=>?_) (fun l hl=>(HMR.out l).2 (Or.inr hl))
      simp at hl
      rw [hl]
      exact (HMR.out _).2 (Or.inl rfl)
     ·intro σ hσ he l hl
      rcases (HMR.out l).1 hl with rfl | hl
      ·rw [((hsp σ hσ).1 (hg2.ext he)).2];exact HYD.out
      ·exact hmd σ hσ he l hl
    ·have hr:r=false:=by first | assumption | (cases r <;> simp_all)
     subst hr
     go_roundw
     case rel=>exact ⟨j+1,by omega,by go_num,HM5.out,HF7.out,by
      intro y hy L' hL'
      rw [HTK.out] at hy
      rcases List.mem_append.1 hy with hy | hy
      ·exact HNO.out y hy L' hL'
      ·simp at hy
       subst hy
       rw [HML.out] at hL'
       simp at hL'
       subst hL'
       exact HR2.out rfl⟩
     case measure=>simp [intOf];omega
  ·have htk:d.take j=d:=List.take_of_length_le (by omega)
   rw [htk] at hno
   have HM3:=aA hM
   have HF3:=aA hF
   have HN:Hid (¬fC d c L):=aA (by
    intro hc
    obtain ⟨y,hy,L',h1,h2⟩:=(aQ8 (fun l hl=>(HFD.out l hl).1) HXF.out.1 HMR.out).1 hc
    exact hno y hy L' h1 h2)
   clear htk hno hM hF
   go_wp2
   go_ret
   exact ⟨false,L,rfl,HM3.out,HF2.out.trans HF3.out,⟨[],by simp⟩,by simp,fun _=>HN.out⟩
theorem aCf:∀n,yK n
 | 0=>fun B g da dcap d L w b o ccap c hn h0=>by omega
 | n+1=>aJ8 n (aCd n (aCf n))
theorem aJ9 (n:Nat):yJ n:=aCd n (aCf n)
end Go.Proofs.YtbddofieljiihaaGreatDoor
namespace Go.Proofs.YtbddofieljiihaaGreatDoor
open Go.RowKit
set_option maxRecDepth 100000
def fT (dv:Value):Array Value:=#[dv]++Array.replicate 61 (.slice none 0 0)
def rU:Array Value:=Array.replicate 62 (.slice none 0 0)
theorem yL (dv:Value):(fT dv).size=62:=by simp [fT]
theorem aCg (dv:Value):(fT dv)[0]?=some dv:=by simp [fT]
theorem yM (dv:Value) (j:Nat) (h:j < 61):(fT dv)[1+j]?=some (.slice none 0 0):=by
 unfold fT
 rw [Array.getElem?_append_right (by simp)]
 simp [h]
theorem aJa (a:Option Addr) (n c:Nat):Tryz.prog.built 78 [(0,.slice a n c)]=some (fT (.slice a n c)):=by kernel_rfl
theorem aCh:(Tryz.prog.info? 78).map (fun i=>(i.zero,i.size))=some (some (.agg rU),62):=by kernel_rfl
theorem aJb (w:World) (cs cs':Array Value) (t:TypeId):(w.alloc (.cells cs t)).setRow w.heap.size cs'=w.alloc (.cells cs' t):=by
 unfold World.setRow World.alloc
 congr 1
 apply Array.ext
 ·simp
 ·intro i h1 h2
  simp only [Array.getElem_modify]
  by_cases hi:i < w.heap.size
  ·rw [if_neg (by omega)]
   simp [Array.getElem_push_lt hi]
  ·have hi':i=w.heap.size:=by simp at h2;omega
   subst hi'
   simp
theorem aJc (w:World):(Instr.alloc 78 true (.tuple #[])).run Tryz.prog w=.ok (.pointer (some ⟨w.heap.size,0,none⟩)) (w.alloc (.cells rU 78)):=by
 have h:=aCh
 cases hi:Tryz.prog.info? 78 with
 | none=>rw [hi] at h;simp at h
 | some i=>
  rw [hi] at h
  simp at h
  have hc:(Value.agg rU).cells=rU:=rfl
  simp [Instr.alloc,zeroValue,typeInfo,hi,h.1,newVar,newRow,hc]
theorem aJd {ops:Array Oper} {rest:List Oper} {o1 o2 o3 o4:Oper} {a:Act} {w:World} {Q:Exit→Act→World→Prop} (g1:o1.guard=none) (g2:o2.guard=none) (g3:o3.guard=none) (g4:o4.guard=none) (s0 s x y:Operand)
  (h1:o1.op=.move s0) (h2:o2.op=.build 78 #[(0,s)]) (h3:o3.op=.alloc 78) (h4:o4.op=.store 78 x y) (va:Option Addr) (n c:Nat) (hs0:a.eval s0=.slice va n c) (hs:(a.put o1.dst (.slice va n c)).eval s=.slice va n c)
  (hx:(((a.put o1.dst (.slice va n c)).put o2.dst (.agg (fT (.slice va n c)))).put o3.dst (.pointer (some ⟨w.heap.size,0,none⟩))).eval x=.pointer (some ⟨w.heap.size,0,none⟩))
  (hy:(((a.put o1.dst (.slice va n c)).put o2.dst (.agg (fT (.slice va n c)))).put o3.dst (.pointer (some ⟨w.heap.size,0,none⟩))).eval y=.agg (fT (.slice va n c)))
  (h:wpList Tryz.prog ops Q rest ((((a.put o1.dst (.slice va n c)).put o2.dst (.agg (fT (.slice va n c)))).put o3.dst (.pointer (some ⟨w.heap.size,0,none⟩))).put o4.dst undef) (w.alloc (.cells (fT (.slice va n c)) 78))) :
  wpList Tryz.prog ops Q (o1 :: o2 :: o3 :: o4 :: rest) a w:=by
 refine wpList_plain g1 fun K hK=>?_
 have e1:o1.wp Tryz.prog a w K Q:=by
  unfold Oper.wp execOp
  simp only [h1,hs0,Sem.run_pure]
  refine hK _ _ ?_
  have hb:Tryz.prog.built 78 ((#[(0,s)]:Array (Nat×Operand)).map fun (i,x)=>(i,(a.put o1.dst (.slice va n c)).eval x)).toList=some (fT (.slice va n c)):=by
   simp only [List.map_toArray,List.map_cons,List.map_nil,hs]
   exact aJa va n c
  refine wpList_build g2 78 #[(0,s)] h2 (by rw [hb];rfl) ?_
  rw [hb]
  simp only [Option.getD_some]
  refine wpList_plain g3 fun K' hK'=>?_
  unfold Oper.wp execOp
  simp only [h3,Sem.run_bind,aJc,Sem.run_pure,Result.andThen_ok]
  refine hK' _ _ ?_
  refine wpList_store_row g4 78 x y h4 w.heap.size (fT (.slice va n c)) hx hy 78 rU (heap_alloc_new w _) ?_ ?_ ?_ ?_
  ·have h:=aCh
   cases hi:Tryz.prog.info? 78 with
   | none=>rw [hi] at h;simp at h
   | some i=>rw [hi] at h;simp at h;simp [h.2,yL]
  ·simp [yL,rU]
  ·have hall:(fT (.slice va n c)).all (fun v=>v.oneCell')=true:=by
    rw [Array.all_eq_true]
    intro i hi
    rcases Nat.eq_zero_or_pos i with rfl | hp
    ·have:=aCg (.slice va n c)
     rw [Array.getElem?_eq_getElem hi] at this
     simp at this
     rw [this]
     rfl
    ·have:=yM (.slice va n c) (i - 1) (by rw [yL] at hi;omega)
     rw [show 1+(i - 1)=i by omega,Array.getElem?_eq_getElem hi] at this
     simp at this
     rw [this]
     rfl
   exact hall
  ·rw [aJb]
   exact h
 exact e1
end Go.Proofs.YtbddofieljiihaaGreatDoor
namespace Go.Proofs.YtbddofieljiihaaGreatDoor
open Go.RowKit Go.Shelf
set_option maxRecDepth 100000
theorem bN.new (w:World) (dv:Value):bN (w.alloc (.cells (fT dv) 78)) w.heap.size w.heap.size dv []:=by
 have hh:(w.alloc (.cells (fT dv) 78)).heap[w.heap.size]?=some (.cells (fT dv) 78):=heap_alloc_new w _
 have hc:∀j,(w.alloc (.cells (fT dv) 78)).cell? ⟨w.heap.size,j,none⟩=(fT dv)[j]?:=fun j=>by unfold World.cell?;simp only [hh];rfl
 refine ⟨Nat.le_refl _,⟨_,hh⟩,by rw [hc];exact aCg dv,fun x hx=>⟨_,by rw [hc];exact yM dv x (by omega),rfl⟩,⟨.slice none 0 0,by rw [hc];exact yM dv 60 (by omega),World.ownsRow_nil _ _ _ _⟩,kJ.nil⟩
def rV (c d:List Lt) (r:Bool) (e:Int):Prop:=(bG c=true∧bG d=true∧e=0∧(r=true↔c.length≤d.length∧fC d c []))∨(¬(bG c=true∧bG d=true)∧r=false∧e=5)
theorem aCi {c:List Lt} (h:bG c=true):jZ c∧c.length≤8:=by
 simp only [bG,Bool.and_eq_true,dQ,decide_eq_true_eq,List.all_eq_true] at h
 exact ⟨fun l hl=>aFb (h.1.2 l hl),h.1.1.1⟩
theorem cJ.of {w:World} {a:Option Addr} {c:List Lt} (h:bP w a c) (hc:mF w a c) (h8:c.length≤8) (hf:jZ c):cJ w w.heap.size a c:=by
 refine ⟨h8,fun k hk=>?_⟩
 obtain ⟨b,o,aa,cap,e,h1,h2,h3⟩:=h.cell k hk
 refine ⟨b,o,aa,cap,e,Or.inl (World.block_lt_of_cell? w _ h1),h1,h2,hc k hk b o aa _ cap e h2,h3,fun p hp=>?_⟩
 have hn:=aQ3 (q:=0) (hf c[k] (List.getElem_mem _)).1
 have h0:0 < c[k].2.length:=by
  rcases Nat.eq_zero_or_pos c[k].2.length with h | h
  ·exact absurd (List.eq_nil_of_length_eq_zero h) hn
  ·exact h
 obtain ⟨b',o',e',h4,_⟩:=h3.cell 0 h0
 rw [hp] at e'
 simp at e'
 rw [e']
 exact World.block_lt_of_cell? w _ h4
theorem mF.below {w w1:World} {a:Option Addr} {c:List Lt} (h:mF w a c) (hl:bP w a c) {B:Nat} (k:Below B w w1) (hB:w.heap.size≤B):mF w1 a c:=by
 intro j hj b o aa n cap e hcell
 obtain ⟨b',o',aa',cap',e',h1,h2,_⟩:=hl.cell j hj
 rw [e] at e'
 obtain ⟨rfl,rfl⟩ : b=b'∧o=o':=by simpa using e'
 rw [Below.at' k hB h2] at hcell
 obtain ⟨rfl,rfl,rfl⟩ : aa'=aa∧_=n∧cap'=cap:=by simpa using hcell
 exact h j hj b o aa' _ cap' e h2
set_option maxHeartbeats 4000000 in
theorem aCj (a1 a2:Option Addr) (c1 c2:Nat) (l1 l2:List Lt) (w:World) (h1:bP w a1 l1) (h2:bP w a2 l2) (k1:mF w a1 l1) (k2:mF w a2 l2) (hc1:l1.length≤c1) (i1:bG l1=true) (i2:bG l2=true) :
  Calls Tryz.prog 19 #[.slice a1 l1.length c1,.slice a2 l2.length c2] w fun e w'=>∃r:Bool,e=.returned (.bool r)∧(r=true↔l1.length≤l2.length∧fC l2 l1 [])∧Below w.heap.size w w':=by
 obtain ⟨f1,n1⟩:=aCi i1
 obtain ⟨f2,n2⟩:=aCi i2
 have HF1:=aA f1
 have HF2:=aA f2
 have H1:=aA h1
 have H2:=aA h2
 have K1:=aA k1
 have K2:=aA k2
 clear i1 i2 f1 f2 h1 h2 k1 k2
 go_enter Tryz.func19,Tryz.ntmps19
 go_upto_region 1 with (fail)
 apply wp_region_lit
 refine aJd rfl rfl rfl rfl _ _ _ _ rfl rfl rfl rfl a2 l2.length c2 rfl (by rfl) (by rfl) (by rfl) ?_
 have hL1:=cJ.of H1.out K1.out n1 HF1.out
 have hL2:=cJ.of H2.out K2.out n2 HF2.out
 have hbm:Below w.heap.size w (w.alloc (.cells (fT (.slice a2 l2.length c2)) 78)):=(Below.refl _ _).alloc (Nat.le_refl _) _
 have HB3:=aA hbm
 have CA:=aA (aJ9 l1.length w.heap.size w.heap.size a2 c2 l2 [] _ a1 c1 l1 (Nat.le_refl _) (bN.new w (.slice a2 l2.length c2)) (hL2.fr (Fr.of_below hbm)) (hL1.fr (Fr.of_below hbm)) hc1 HF2.out HF1.out (by simp))
 clear hL1 hL2 hbm
 by_cases hle:l1.length≤l2.length
 ·have hlei:(l1.length:Int)≤(l2.length:Int):=by omega
  go_wp2_with (go_at_call 32;refine (aB CA).mono ?_;rintro e w4 ⟨r,L',rfl,hm4,hf4,-,hr1,hr2⟩;have HM4:=aA hm4;have HB4:=aA (HB3.out.trans ((hf4.below (by simp)).mono (Nat.le_refl _)));have HR1:=aA hr1;have HR2:=aA hr2;clear hm4 hf4 hr1 hr2)
  go_ret
  refine ⟨r,rfl,?_,HB4.out⟩
  cases r with
  | true=>
   obtain ⟨hg,hmd⟩:=HR1.out rfl
   refine ⟨fun _=>⟨hle,?_⟩,fun _=>rfl⟩
   obtain ⟨σ,h1,h2,_⟩:=aQb (d:=l2) HM4.out.ok.look
   exact ⟨σ,h1,hg.ext h2,hmd σ h1 h2⟩
  | false=>exact ⟨fun h=>by simp at h,fun h=>absurd h.2 (HR2.out rfl)⟩
 ·have hlei:decide ((l1.length:Int)≤(l2.length:Int))=false:=by rw [decide_eq_false_iff_not];omega
  have hlt:(l2.length:Int) < (l1.length:Int):=by omega
  go_wp2
  go_ret
  exact ⟨false,rfl,⟨fun h=>by simp at h,fun h=>absurd h.1 hle⟩,HB3.out⟩
end Go.Proofs.YtbddofieljiihaaGreatDoor
namespace Go.Proofs.YtbddofieljiihaaGreatDoor
open Go.RowKit
set_option maxRecDepth 100000
theorem aJe {σ:Int→List Nd} (h:Tm σ):∀(l:List Nd) (k:Nat),aI l k=true→aI (subst σ l) k=true:=by
 intro l k hl
 refine aGb _ k (aSk l k (fun n _ _=>aG9 (h n.2)) (aG9 hl)) fun n hn=>?_
 unfold subst at hn
 obtain ⟨m,hm,hn⟩:=List.mem_flatMap.1 hn
 split at hn
 ·exact xD (h m.2) n hn
 ·simp at hn
  subst hn
  exact xD hl n hm
theorem aJf {c:List Lt} (h:bG c=true):fC c c []:=by
 have hσ:Tm fun x=>if 0≤x∧x < 60 then [(⟨#[]⟩,x)] else [(⟨#[]⟩,0)]:=by
  intro x
  simp only
  have key:∀y:Int,0≤y→y < 60→aI [((⟨#[]⟩ : ByteArray),y)] 1=true:=by
   intro y h0 h1
   have hv:=rE y
   rw [kI]
   unfold dG
   rw [if_pos hv,lG hv]
   simp [aI,h0,h1]
  split
  ·rename_i hx
   exact key x hx.1 hx.2
  ·exact key 0 (by omega) (by omega)
 refine ⟨_,hσ,fun x t hx=>by simp [look] at hx,fun l hl=>?_⟩
 have hn:=(jI h).term l hl
 have:subst (fun x=>if 0≤x∧x < 60 then [(⟨#[]⟩,x)] else [(⟨#[]⟩,0)]) l.2=l.2:=by
  rw [aFd (τ:=fun y=>[(⟨#[]⟩,y)]) fun n hnm hv=>?_]
  ·exact aSj l.2
  ·have hok:=xD hn.1 n hnm
   unfold dG at hok
   rw [if_pos hv] at hok
   simp at hok
   rw [if_pos hok]
 rw [this]
 exact hl
theorem aJg {x y z:List Lt} (h:fC y x []) (k:fC z y []):fC z x []:=by
 obtain ⟨σ,s1,_,s2⟩:=h
 obtain ⟨τ,t1,_,t2⟩:=k
 refine ⟨fun v=>subst τ (σ v),fun v=>aJe t1 _ 1 (s1 v),fun v t hv=>by simp [look] at hv,fun l hl=>?_⟩
 rw [←aSm]
 exact t2 _ (s2 l hl)
theorem aJh {x:List Lt} {r:Bool} {e:Int} (hx:bG x=true) (h:rV x x r e):r=true∧e=0:=by
 rcases h with ⟨_,_,e,h⟩ | ⟨h,_⟩
 ·exact ⟨h.2 ⟨Nat.le_refl _,aJf hx⟩,e⟩
 ·exact absurd ⟨hx,hx⟩ h
theorem yN {x y:List Lt} {r:Bool} {e:Int} (hx:bG x=true) (hy:bG y=true) (h:rV x y r e):e=0∧(r=true↔x.length≤y.length∧fC y x []):=by
 rcases h with ⟨_,_,e,h⟩ | ⟨h,_⟩
 ·exact ⟨e,h⟩
 ·exact absurd ⟨hx,hy⟩ h
end Go.Proofs.YtbddofieljiihaaGreatDoor
namespace Go.Proofs.YtbddofieljiihaaGreatDoor
open Go.RowKit Go.Shelf
set_option maxRecDepth 100000
set_option maxHeartbeats 400000 in
theorem aJi (a:Option Addr) (cp:Nat) (c:List Lt) (w:World) (h:bP w a c) (h60:aN c≤60) (hn:∀x∈c,oD x.2) :
  Calls Tryz.prog 31 #[.slice a c.length cp] w fun e w'=>e=.returned (.bool (decide (c=aS c)))∧Below w.heap.size w w':=by
 have HE:=aA (aV4 c hn)
 have CD:=aA (aEz a cp c w h)
 have hf:=h.few
 have hdb:=(qO c).1
 have CN:=aA (fun wx (hx:bP wx a c)=>aV7 a cp c wx hx h60)
 have HH:=aA h
 clear h hn
 by_cases hl:(bQ c).length=c.length
 ·have hle:(((bQ c).length:Int) == (c.length:Int))=true:=by rw [beq_iff_eq];omega
  have HR:Hid (decide (c=aS c)=(lO c).isSome):=aA (by rw [HE.out,hl];simp)
  clear hl
  generalize hdl:(bQ c).length=m at *
  go_enter Tryz.func31,Tryz.ntmps31
  go_wp2_with (first
   | (go_at_call 50;refine (aB CD).mono ?_;rintro e w1 ⟨v,P,rfl,hP,hA,ho,hb⟩;obtain ⟨va,vcp,rfl⟩:=aR ho;have hPl:P.length=m:=(by rw [←hdl,←hP];simp);rw [hPl];have HB:=aA hb;have hbs:=hb.size;clear hP hA ho hb hPl)
   | (go_at_call 51;refine (aB CN _ (HH.out.below HB.out (Nat.le_refl _))).mono ?_;rintro e w2 ⟨rfl,hb2⟩;have HB2:=aA (HB.out.trans (hb2.mono hbs));clear hb2))
  go_ret
  exact ⟨cO HR.out.symm,HB2.out⟩
 ·have hle:(((bQ c).length:Int) == (c.length:Int))=false:=by rw [beq_eq_false_iff_ne];omega
  have HR:Hid (decide (c=aS c)=false):=aA (by rw [HE.out];simp [hl])
  clear hl
  generalize hdl:(bQ c).length=m at *
  go_enter Tryz.func31,Tryz.ntmps31
  go_wp2_with (first
   | (go_at_call 50;refine (aB CD).mono ?_;rintro e w1 ⟨v,P,rfl,hP,hA,ho,hb⟩;obtain ⟨va,vcp,rfl⟩:=aR ho;have hPl:P.length=m:=(by rw [←hdl,←hP];simp);rw [hPl];have HB:=aA hb;clear hP hA ho hb hPl))
  go_ret
  exact ⟨cO HR.out.symm,HB.out⟩
set_option maxHeartbeats 1000000 in
theorem vL (a:Option Addr) (cp:Nat) (c:List Lt) (w:World) (h:bP w a c) (hT:gL w) :
  Calls Tryz.prog 18 #[.slice a c.length cp] w fun e w'=>e=.returned (.bool (bG c))∧Below w.heap.size w w':=by
 have hf:=h.few
 have cF:=tY a cp c w h
 have HT:=aA hT
 have HH:=aA h
 clear hT
 by_cases hfit:dQ c=true
 ·have hcount:c.length≤8∧aN c≤60:=by simpa [dQ] using hfit
  rw [hfit] at cF
  have HF:=aA cF
  have HE:Hid (bG c=((c.all fun l=>iD l.2) && decide (c=aS c))):=by unfold bG;rw [hfit];exact Bool.true_and _▸rfl
  obtain ⟨h8,h60⟩:=hcount
  clear cF hfit h
  go_enter Tryz.func18,Tryz.ntmps18
  go_wp2_with (go_at_call 29;refine (aB HF).mono ?_;rintro e w0 ⟨rfl,hb0⟩)
  go_loopw [10] (fun i wr=>∃k:Nat,k≤c.length∧i=.int .i64 k∧Below w.heap.size w wr∧((c.take k).all fun l=>iD l.2)=true) (fun i _=>c.length - (intOf i).toNat)
  case atStart=>exact ⟨0,Nat.zero_le _,rfl,hb0,rfl⟩
  case round=>
   obtain ⟨k,hk,rfl,hb,hall⟩:=hrel
   by_cases hlt:k < c.length
   ·obtain ⟨b,q,aa,acp,rfl,e1,f1,g1⟩:=HH.out.cell k hlt
    have e2:=Below.at' hb (Nat.le_refl _) e1
    have f2:=Below.at' hb (Nat.le_refl _) f1
    have HSN:Hid (((c.take (k+1)).all fun l=>iD l.2)=iD c[k].2):=by
     rw [List.take_succ_eq_append_getElem hlt,List.all_append,hall];exact Bool.and_true _▸rfl
    have HN:Hid (iD c[k].2=false→bG c=false):=fun hx=>by
     rw [HE.out,Bool.and_eq_false_iff]
     left
     rw [List.all_eq_false]
     exact ⟨c[k],List.getElem_mem _,by simp [hx]⟩
    have hbs:=hb.size
    generalize c[k]=x at *
    obtain ⟨xb,xl⟩:=x
    simp only at e2 f2 g1
    have hbx:Below w.heap.size w (wr.alloc (.cells #[.bool xb,.slice aa xl.length acp] 74)):=hb.alloc hbs _
    have cA:=aP7 aa acp xl _ (g1.below hbx (Nat.le_refl _)) (HT.out.below hbx (Nat.le_refl _))
    have HBX:=aA hbx
    clear e1 f1 hall hb g1 hbx
    cases ha:iD xl
    ·rw [ha] at cA
     have HV:=aA (HN.out ha)
     have CA:=aA cA
     clear cA ha HN HSN
     go_wp2_with (go_at_call 30;refine (aB CA).mono ?_;rintro e w1 ⟨rfl,hb1⟩;have HB1:=aA (HBX.out.trans (hb1.mono HBX.out.size));clear hb1)
     go_ret
     exact ⟨cO HV.out.symm,HB1.out⟩
    ·rw [ha] at cA
     have HV:=aA (HSN.out.trans ha)
     have CA:=aA cA
     clear cA ha HN HSN
     go_wp2_with (go_at_call 30;refine (aB CA).mono ?_;rintro e w1 ⟨rfl,hb1⟩;have HB1:=aA (HBX.out.trans (hb1.mono HBX.out.size));clear hb1)
     go_roundw
     case rel=>exact ⟨k+1,by omega,by go_num,HB1.out,HV.out⟩
     case measure=>simp [intOf];omega
   ·have hk1:c.take k=c:=List.take_of_length_le (by omega)
    rw [hk1] at hall
    have HA:Hid (bG c=decide (c=aS c)):=by rw [HE.out,hall];exact Bool.true_and _▸rfl
    have hnn:∀x∈c,oD x.2:=fun x hx=>aV5 (List.all_eq_true.1 hall x hx)
    have CO:=aA (aJi a cp c wr (HH.out.below hb (Nat.le_refl _)) h60 hnn)
    have HB:=aA hb
    have hbs:=hb.size
    clear hk1 hall hb hnn
    go_wp2_with (go_at_call 31;refine (aB CO).mono ?_;rintro e w1 ⟨rfl,hb1⟩;have HB1:=aA (HB.out.trans (hb1.mono hbs));clear hb1)
    go_ret
    exact ⟨cO HA.out.symm,HB1.out⟩
 ·have hfit':dQ c=false:=by simpa using hfit
  rw [hfit'] at cF
  have HE:Hid (bG c=false):=by unfold bG;rw [hfit'];rfl
  have HF:=aA cF
  clear cF hfit hfit' h
  go_enter Tryz.func18,Tryz.ntmps18
  go_wp2_with (go_at_call 29;refine (aB HF).mono ?_;rintro e w' ⟨rfl,hb⟩;have HB:=aA hb;clear hb)
  go_ret
  exact ⟨cO HE.out.symm,HB.out⟩
set_option maxHeartbeats 4000000 in
theorem aJj (a1 a2:Option Addr) (c1 c2:Nat) (l1 l2:List Lt) (w:World) (h1:bP w a1 l1) (h2:bP w a2 l2) (k1:mF w a1 l1) (k2:mF w a2 l2) (hc1:l1.length≤c1) (hT:gL w) :
  Calls Tryz.prog 12 #[.slice a1 l1.length c1,.slice a2 l2.length c2] w fun e w'=>∃r x,e=.returned (.tuple #[.bool r,.int .i64 x])∧rV l1 l2 r x∧Below w.heap.size w w':=by
 have CI1:=aA (vL a1 c1 l1 w h1 hT)
 have HT:=aA hT
 have H1:=aA h1
 have H2:=aA h2
 have K1:=aA k1
 have K2:=aA k2
 clear h1 h2 k1 k2 hT
 cases i1:bG l1 with
 | false=>
  have HR:Hid (rV l1 l2 false 5):=aA (Or.inr ⟨by simp [i1],rfl,rfl⟩)
  rw [i1] at CI1
  clear i1
  go_enter Tryz.func12,Tryz.ntmps12
  go_wp2_with (go_at_call 18;refine (aB CI1).mono ?_;rintro e w1 ⟨rfl,hb1⟩;have HB1:=aA hb1;clear hb1)
  go_ret2
  exact ⟨false,5,wT rfl rfl,HR.out,HB1.out⟩
 | true=>
  rw [i1] at CI1
  have CI2:=aA (fun wx (hx:Below w.heap.size w wx)=>vL a2 c2 l2 wx (H2.out.below hx (Nat.le_refl _)) (HT.out.below hx (Nat.le_refl _)))
  cases i2:bG l2 with
  | false=>
   have HR:Hid (rV l1 l2 false 5):=aA (Or.inr ⟨by simp [i2],rfl,rfl⟩)
   rw [i2] at CI2
   clear i1 i2
   go_enter Tryz.func12,Tryz.ntmps12
   go_wp2_with (first
    | (go_at_call 18;refine (aB CI2 _ HB1.out).mono ?_;rintro e w2 ⟨rfl,hb2⟩;have HB2:=aA (HB1.out.trans (hb2.mono hb1s));clear hb2)
    | (go_at_call 18;refine (aB CI1).mono ?_;rintro e w1 ⟨rfl,hb1⟩;have HB1:=aA hb1;have hb1s:=hb1.size;clear hb1))
   go_ret2
   exact ⟨false,5,wT rfl rfl,HR.out,HB2.out⟩
  | true=>
   rw [i2] at CI2
   have CO:=aA (fun wx (hx:Below w.heap.size w wx)=>aCj a1 a2 c1 c2 l1 l2 wx (H1.out.below hx (Nat.le_refl _)) (H2.out.below hx (Nat.le_refl _)) (K1.out.below H1.out hx (Nat.le_refl _)) (K2.out.below H2.out hx (Nat.le_refl _)) hc1 i1 i2)
   have HI:=aA (And.intro i1 i2)
   clear i1 i2
   go_enter Tryz.func12,Tryz.ntmps12
   go_wp2_with (first
    | (go_at_call 19;refine (aB CO _ HB2.out).mono ?_;rintro e w3 ⟨r,rfl,hr,hb3⟩;have HR:=aA hr;have HB3:=aA (HB2.out.trans (hb3.mono hb2s));clear hr hb3)
    | (go_at_call 18;refine (aB CI2 _ HB1.out).mono ?_;rintro e w2 ⟨rfl,hb2⟩;have HB2:=aA (HB1.out.trans (hb2.mono hb1s));have hb2s:=HB2.out.size;clear hb2)
    | (go_at_call 18;refine (aB CI1).mono ?_;rintro e w1 ⟨rfl,hb1⟩;have HB1:=aA hb1;have hb1s:=hb1.size;clear hb1))
   go_ret2
   exact ⟨r,0,wT rfl rfl,Or.inl ⟨HI.out.1,HI.out.2,rfl,HR.out⟩,HB3.out⟩
theorem aJk (a1 a2:Option Addr) (c1 c2:Nat) (l1 l2:List Lt) (w:World) (h1:bP w a1 l1) (h2:bP w a2 l2) (k1:mF w a1 l1) (k2:mF w a2 l2) (hc1:l1.length≤c1) (hT:gL w) :
  Calls Tryz.prog 6 #[.slice a1 l1.length c1,.slice a2 l2.length c2] w fun e w'=>∃r x,e=.returned (.tuple #[.bool r,.int .i64 x])∧rV l1 l2 r x∧Below w.heap.size w w':=by
 have C:=aA (aJj a1 a2 c1 c2 l1 l2 w h1 h2 k1 k2 hc1 hT)
 clear h1 h2 k1 k2 hT
 go_enter Tryz.func6,Tryz.ntmps6
 go_wp2_with (go_at_call 12;refine (aB C).mono ?_;rintro e w1 ⟨r,x,rfl,hr,hb⟩;have HR:=aA hr;have HB:=aA hb;clear hr hb)
 go_ret2
 exact ⟨r,x,wT rfl rfl,HR.out,HB.out⟩
end Go.Proofs.YtbddofieljiihaaGreatDoor
