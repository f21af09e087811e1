/- The program: Resolve and Factor, of any literals at any places. Refutes: small parts. Refutes: the clause to which a step leads, and whether a step is right. Refutes: a step is right. Covers, of two clauses of one literal each whose signs are not alike, and of a longer clause than the other: it does not. -/
import Derived.Test.YtbddofieljiihaaGreatDoorCConcatI
import Derived.Test.YtbddofieljiihaaGreatDoorXSr1I
namespace Go.Proofs.YtbddofieljiihaaGreatDoor
open Go.RowKit Go.Shelf Go.WideMaps
set_option maxRecDepth 100000
def aBt (c d:List Lt) (i j:Int) (a b:Nat):Prop:=∃(ha:a < c.length) (hb:b < d.length),i=a∧j=b∧c[a].1≠d[b].1
def mR (c d:List Lt) (i j:Int) (out:List Lt) (yes:Bool) (e:Int):Prop:=
 (¬(bG c=true∧bG d=true)∧out=[]∧yes=false∧e=5)∨
 (bG c=true∧bG d=true∧(((¬∃a b,aBt c d i j a b)∧out=[]∧yes=false∧e=6)∨
  ∃a b,aBt c d i j a b∧gR (aQ 0 (c.getD a default).2++aQ 1 (d.getD b default).2) 0 (c.getD a default).2.length (aW 0 [(c,a),(d,b)]) out yes e))
theorem mR.one {c d:List Lt} {i j:Int} {o o':List Lt} {y y':Bool} {e e':Int} (h:mR c d i j o y e) (h':mR c d i j o' y' e'):o=o'∧y=y'∧e=e':=by
 rcases h with ⟨h1,rfl,rfl,rfl⟩ | ⟨h1,h2,h⟩
 ·rcases h' with ⟨_,rfl,rfl,rfl⟩ | ⟨h3,h4,_⟩
  ·exact ⟨rfl,rfl,rfl⟩
  ·exact absurd ⟨h3,h4⟩ h1
 ·rcases h' with ⟨h3,_⟩ | ⟨_,_,h'⟩
  ·exact absurd ⟨h1,h2⟩ h3
  ·rcases h with ⟨h3,rfl,rfl,rfl⟩ | ⟨a,b,hp,h⟩
   ·rcases h' with ⟨_,rfl,rfl,rfl⟩ | ⟨a,b,hp,_⟩
    ·exact ⟨rfl,rfl,rfl⟩
    ·exact absurd ⟨a,b,hp⟩ h3
   ·rcases h' with ⟨h3,_⟩ | ⟨a',b',hp',h'⟩
    ·exact absurd ⟨a,b,hp⟩ h3
    ·obtain ⟨_,_,p1,p2,_⟩:=hp
     obtain ⟨_,_,q1,q2,_⟩:=hp'
     obtain rfl:a=a':=by omega
     obtain rfl:b=b':=by omega
     exact aBk h h'
def pF (S:List Lt→Bool→Int→Prop) (w:World) (e:Ending) (w':World):Prop:=
 ∃v out yes er,e=.returned (.tuple #[v,.bool yes,.int .i64 er])∧S out yes er∧bK w.heap.size w' v out∧out.length≤100∧Below w.heap.size w w'
theorem pF.none {S:List Lt→Bool→Int→Prop} {w w':World} {er:Int} (h:S [] false er) (hb:Below w.heap.size w w'):pF S w (.returned (.tuple #[.slice none 0 0,.bool false,.int .i64 er])) w':=
 ⟨_,[],false,er,rfl,h,bK.nil _ _,by simp,hb⟩
theorem aHo (a:Option Addr) (n cp:Nat) (i:Int) (w:World):Calls Tryz.prog 95 #[.slice a n cp,.int .i64 i] w fun e w'=>e=.returned (.bool (decide (0≤i∧i < n)))∧w'=w:=by
 by_cases h0:0≤i
 ·by_cases h1:i < n
  ·have:decide (0≤i∧i < n)=true:=by simp [h0,h1]
   rw [this]
   go_enter Tryz.func95,Tryz.ntmps95
   go_wp2
   go_ret
   exact ⟨rfl,rfl⟩
  ·have:decide (0≤i∧i < n)=false:=by simp [h1]
   rw [this]
   go_enter Tryz.func95,Tryz.ntmps95
   go_wp2
   go_ret
   exact ⟨rfl,rfl⟩
 ·have:decide (0≤i∧i < n)=false:=by simp [h0]
  rw [this]
  go_enter Tryz.func95,Tryz.ntmps95
  go_wp2
  go_ret
  exact ⟨rfl,rfl⟩
set_option maxHeartbeats 8000000 in
theorem aUg (a1 a2:Option Addr) (c1 c2:Nat) (c d:List Lt) (i j:Int) (w:World) (h1:bP w a1 c) (h2:bP w a2 d) (hT:gL w) :
  Calls Tryz.prog 62 #[.slice a1 c.length c1,.int .i64 i,.slice a2 d.length c2,.int .i64 j] w fun e w'=>pF (mR c d i j) w e w':=by
 have CI1:=aA (vL a1 c1 c w h1 hT)
 have HT:=aA hT
 have H1:=aA h1
 have H2:=aA h2
 clear h1 h2 hT
 cases i1:bG c with
 | false=>
  have HR:Hid (mR c d i j [] false 5):=aA (Or.inl ⟨by simp [i1],rfl,rfl,rfl⟩)
  rw [i1] at CI1
  clear i1
  go_enter Tryz.func62,Tryz.ntmps62
  go_wp2_with (go_at_call 18;refine (aB CI1).mono ?_;rintro e w1 ⟨rfl,hb1⟩;have HB1:=aA hb1;clear hb1)
  go_returns
  exact pF.none HR.out HB1.out
 | true=>
  rw [i1] at CI1
  have CI2:=aA (fun wx (hx:Below w.heap.size w wx)=>vL a2 c2 d wx (H2.out.below hx (Nat.le_refl _)) (HT.out.below hx (Nat.le_refl _)))
  cases i2:bG d with
  | false=>
   have HR:Hid (mR c d i j [] false 5):=aA (Or.inl ⟨by simp [i2],rfl,rfl,rfl⟩)
   rw [i2] at CI2
   clear i1 i2
   go_enter Tryz.func62,Tryz.ntmps62
   go_wp2_with (first
    | (go_at_call 18;refine (aB CI2 _ HB1.out).mono ?_;rintro e w2 ⟨rfl,hb2⟩;have HB2:=aA (HB1.out.trans (hb2.mono hb1s));clear hb2)
    | (go_at_call 18;refine (aB CI1).mono ?_;rintro e w1 ⟨rfl,hb1⟩;have HB1:=aA hb1;have hb1s:=hb1.size;clear hb1))
   go_returns
   exact pF.none HR.out HB2.out
  | true=>
   rw [i2] at CI2
   have HI:=aA (And.intro i1 i2)
   have P1:=aA (fun wx=>aHo a1 c.length c1 i wx)
   have P2:=aA (fun wx=>aHo a2 d.length c2 j wx)
   have HBAD:Hid ((¬∃a b,aBt c d i j a b)→mR c d i j [] false 6):=aA fun hn=>Or.inr ⟨i1,i2,Or.inl ⟨hn,rfl,rfl,rfl⟩⟩
   clear i1 i2
   by_cases hi:0≤i∧i < c.length
   ·rw [decide_eq_true hi] at P1
    obtain ⟨a,rfl⟩ : ∃a:Nat,i=a:=⟨i.toNat,by omega⟩
    have ha:a < c.length:=by omega
    by_cases hj:0≤j∧j < d.length
    ·rw [decide_eq_true hj] at P2
     obtain ⟨b,rfl⟩ : ∃b:Nat,j=b:=⟨j.toNat,by omega⟩
     have hb:b < d.length:=by omega
     have hai:(a:Int) < (c.length:Int):=by omega
     have hbi:(b:Int) < (d.length:Int):=by omega
     have haz:(0:Int)≤(a:Int):=by omega
     have hbz:(0:Int)≤(b:Int):=by omega
     obtain ⟨b1,o1,aa,ac,rfl,e1,_,_⟩:=H1.out.cell a ha
     obtain ⟨b2,o2,ba,bc,rfl,f1,_,_⟩:=H2.out.cell b hb
     by_cases hs:c[a].1=d[b].1
     ·have HR:=aA (HBAD.out (fun ⟨a',b',p1,p2,p3,p4,p5⟩=>by
       obtain rfl:a=a':=by omega
       obtain rfl:b=b':=by omega
       exact p5 hs))
      rw [hs] at e1
      clear HBAD hi hj hs
      go_enter Tryz.func62,Tryz.ntmps62
      go_upto_region 3 with (first
       | (go_at_call 18;refine (aB CI2 _ HB1.out).mono ?_;rintro e w2 ⟨rfl,hb2⟩;have HB2:=aA (HB1.out.trans (hb2.mono hb1s));clear hb2)
       | (go_at_call 18;refine (aB CI1).mono ?_;rintro e w1 ⟨rfl,hb1⟩;have HB1:=aA hb1;have hb1s:=hb1.size;clear hb1))
      have e2:=Below.at' HB2.out (Nat.le_refl _) e1
      have f2:=Below.at' HB2.out (Nat.le_refl _) f1
      go_quiet (first | (go_at_call_of 95 (Value.slice (some ⟨b1,o1,none⟩) c.length c1);exact Calls.quiet_of_same (aB P1 _)) | (go_at_call_of 95 (Value.slice (some ⟨b2,o2,none⟩) d.length c2);exact Calls.quiet_of_same (aB P2 _)))
      go_wp2
      go_returns
      exact pF.none HR.out (HB2.out.trans ((aJ ⟨_,rfl⟩).mono HB2.out.size))
     ·have hne:(c[a].1 == d[b].1)=false:=by simpa using hs
      have hcc:=jI HI.out.1
      have hdd:=jI HI.out.2
      have CR:=aA (fun (wx:World) (hx:Below w.heap.size w wx)=>aGy (some ⟨b1,o1,none⟩) (some ⟨b2,o2,none⟩) c1 c2 c d a b wx (H1.out.below hx (Nat.le_refl _)) (H2.out.below hx (Nat.le_refl _)) hcc.term hdd.term ha hb hcc.len hdd.len)
      have HR:Hid (∀v yes er w3 w4,Below w.heap.size w w3→uS w3 w3.heap.size (aQ 0 c[a].2++aQ 1 d[b].2) 0 c[a].2.length (aW 0 [(c,a),(d,b)]) v yes er w4→pF (mR c d a b) w (.returned (.tuple #[v,.bool yes,.int .i64 er])) w4):=aA fun v yes er w3 w4 hx hC=>by
       obtain ⟨out,h1,h2,h3⟩:=(hC.lift hx).out
       exact ⟨v,out,yes,er,rfl,Or.inr ⟨HI.out.1,HI.out.2,Or.inr ⟨a,b,⟨ha,hb,rfl,rfl,hs⟩,by simpa [ha,hb] using h1⟩⟩,h2,h3,(hC.lift hx).low⟩
      clear HBAD hi hj hcc hdd
      obtain ⟨ca,hca⟩ : ∃x,c[a].1=x:=⟨_,rfl⟩
      obtain ⟨db,hdb⟩ : ∃x,d[b].1=x:=⟨_,rfl⟩
      rw [hca] at e1
      rw [hdb] at f1
      rw [hca,hdb] at hne
      clear hca hdb hs
      go_enter Tryz.func62,Tryz.ntmps62
      go_upto_region 3 with (first
       | (go_at_call 18;refine (aB CI2 _ HB1.out).mono ?_;rintro e w2 ⟨rfl,hb2⟩;have HB2:=aA (HB1.out.trans (hb2.mono hb1s));clear hb2)
       | (go_at_call 18;refine (aB CI1).mono ?_;rintro e w1 ⟨rfl,hb1⟩;have HB1:=aA hb1;have hb1s:=hb1.size;clear hb1))
      have e2:=Below.at' HB2.out (Nat.le_refl _) e1
      have f2:=Below.at' HB2.out (Nat.le_refl _) f1
      go_quiet (first | (go_at_call_of 95 (Value.slice (some ⟨b1,o1,none⟩) c.length c1);exact Calls.quiet_of_same (aB P1 _)) | (go_at_call_of 95 (Value.slice (some ⟨b2,o2,none⟩) d.length c2);exact Calls.quiet_of_same (aB P2 _)))
      have hd:Below w.heap.size w (w2.drewN nq):=HB2.out.trans ((aJ (w1:=w2.drewN nq) ⟨nq,rfl⟩).mono HB2.out.size)
      have CR2:=aA (CR.out _ hd)
      have HD:=aA hd
      clear e1 f1 e2 f2 hd
      go_wp2_with (first
       | (go_at_call 96;refine (aB CR2).mono ?_)
       | go_in)
      rintro e w4 ⟨v4,y4,r4,rfl,h4⟩
      have H4:=aA (HR.out v4 y4 r4 _ w4 HD.out h4)
      clear h4
      go_wp2
      go_returns
      exact H4.out
    ·rw [decide_eq_false hj] at P2
     have HR:=aA (HBAD.out (fun ⟨a',b',p1,p2,p3,p4,_⟩=>hj (by omega)))
     clear HBAD hi hj
     go_enter Tryz.func62,Tryz.ntmps62
     go_upto_region 3 with (first
      | (go_at_call 18;refine (aB CI2 _ HB1.out).mono ?_;rintro e w2 ⟨rfl,hb2⟩;have HB2:=aA (HB1.out.trans (hb2.mono hb1s));clear hb2)
      | (go_at_call 18;refine (aB CI1).mono ?_;rintro e w1 ⟨rfl,hb1⟩;have HB1:=aA hb1;have hb1s:=hb1.size;clear hb1))
     go_quiet (first | (go_at_call_of 95 (Value.slice a1 c.length c1);exact Calls.quiet_of_same (aB P1 _)) | (go_at_call_of 95 (Value.slice a2 d.length c2);exact Calls.quiet_of_same (aB P2 _)))
     go_wp2
     go_returns
     exact pF.none HR.out (HB2.out.trans ((aJ ⟨_,rfl⟩).mono HB2.out.size))
   ·rw [decide_eq_false hi] at P1
    have HR:=aA (HBAD.out (fun ⟨a,b,p1,p2,p3,p4,_⟩=>hi (by omega)))
    clear HBAD hi
    go_enter Tryz.func62,Tryz.ntmps62
    go_upto_region 3 with (first
     | (go_at_call 18;refine (aB CI2 _ HB1.out).mono ?_;rintro e w2 ⟨rfl,hb2⟩;have HB2:=aA (HB1.out.trans (hb2.mono hb1s));clear hb2)
     | (go_at_call 18;refine (aB CI1).mono ?_;rintro e w1 ⟨rfl,hb1⟩;have HB1:=aA hb1;have hb1s:=hb1.size;clear hb1))
    go_quiet ((go_at_call 95;exact Calls.quiet_of_same (aB P1 _)))
    go_wp2
    go_returns
    exact pF.none HR.out (HB2.out.trans ((aJ ⟨_,rfl⟩).mono HB2.out.size))
theorem aBu (k n:Int) (w:World):Calls Tryz.prog 61 #[.int .i64 k,.int .i64 n] w fun e w'=>e=.returned (.bool (decide (0≤k∧k < n)))∧w'=w:=by
 by_cases h0:0≤k
 ·by_cases h1:k < n
  ·have:decide (0≤k∧k < n)=true:=by simp [h0,h1]
   rw [this]
   go_enter Tryz.func61,Tryz.ntmps61
   go_wp2
   go_ret
   exact ⟨rfl,rfl⟩
  ·have:decide (0≤k∧k < n)=false:=by simp [h1]
   rw [this]
   go_enter Tryz.func61,Tryz.ntmps61
   go_wp2
   go_ret
   exact ⟨rfl,rfl⟩
 ·have:decide (0≤k∧k < n)=false:=by simp [h0]
  rw [this]
  go_enter Tryz.func61,Tryz.ntmps61
  go_wp2
  go_ret
  exact ⟨rfl,rfl⟩
theorem aUh (x:Lt):jY x x=true:=by rw [aC9];simp
set_option maxHeartbeats 1000000 in
theorem aUi (a1 a2:Option Addr) (c1 c2:Nat) (l:List Lt) (w:World) (h1:bP w a1 l) (h2:bP w a2 l) :
  Calls Tryz.prog 40 #[.slice a1 l.length c1,.slice a2 l.length c2,.func (Fn.func 41) #[] #[]] w fun e w'=>e=.returned (.bool true)∧Below w.heap.size w w':=by
 have hfl:=h1.few
 have H1:=aA h1
 have H2:=aA h2
 clear h1 h2
 go_enter Tryz.func40,Tryz.ntmps40
 go_wp2
 go_loopw [17] (fun i wr=>∃k:Nat,k≤l.length∧i=.int .i64 k∧Below w.heap.size w wr) (fun i _=>l.length - (intOf i).toNat)
 case atStart=>exact ⟨0,Nat.zero_le _,rfl,Below.refl _ _⟩
 case round=>
  obtain ⟨k,hk,rfl,hb⟩:=hrel
  by_cases hlt:k < l.length
  ·obtain ⟨b1,o1,aa,ac,rfl,e1,e2,n1⟩:=H1.out.cell k hlt
   obtain ⟨b2,o2,ba,bc,rfl,f1,f2,n2⟩:=H2.out.cell k hlt
   have CS:=aA (fun (wx:World) (hx:Below w.heap.size w wx)=>aAb l[k].1 l[k].1 aa ba ac bc l[k].2 l[k].2 wx (n1.below hx (Nat.le_refl _)) (n2.below hx (Nat.le_refl _)))
   rw [show jY (l[k].1,l[k].2) (l[k].1,l[k].2)=true from aUh _] at CS
   generalize l[k]=x at *
   obtain ⟨xb,xl⟩:=x
   simp only at e1 e2 f1 f2 CS n1 n2
   have g1:=Below.at' hb (Nat.le_refl _) e1
   have g2:=Below.at' hb (Nat.le_refl _) e2
   have hb1:=fun X=>Below.trans hb ((Below.refl w.heap.size wr).alloc hb.size X)
   have g3:=fun X=>Below.at' (hb1 X) (Nat.le_refl _) f1
   have g4:=fun X=>Below.at' (hb1 X) (Nat.le_refl _) f2
   have hki:(k:Int) < (l.length:Int):=by omega
   have HB:=aA hb
   have HB2:=aA (fun X Y=>Below.trans (hb1 X) ((Below.refl w.heap.size (wr.alloc X)).alloc (Nat.le_trans hb.size (by simp)) Y))
   have hbs:=hb.size
   clear e1 e2 f1 f2 n1 n2 hb hb1
   generalize xl.length=xn at *
   go_wp2_with (first
    | (go_at_call 41;refine (aB CS _ (HB2.out _ _)).mono ?_;rintro e w1 ⟨rfl,hb3⟩;have HB3:=aA ((HB2.out _ _).trans (hb3.mono (HB2.out _ _).size));clear hb3)
    | go_in)
   go_roundw
   case rel=>exact ⟨k+1,by omega,by go_num,HB3.out⟩
   case measure=>simp [intOf];omega
  ·obtain rfl:k=l.length:=by omega
   have HB:=aA hb
   clear hb H1 H2
   go_wp2
   go_ret
   exact ⟨rfl,HB.out⟩
set_option maxHeartbeats 4000000 in
theorem aUj (gP nP capP a:Nat) (va:Value) (sa:Option Addr) (sn sc:Nat) (oa:Option Addr) (n c:Nat) (w:World) (hc:w.cell? ⟨gP,a,none⟩=some (.slice oa n c)) (ha:a < nP) :
  Calls Tryz.prog 39 #[.slice (some ⟨gP,0,none⟩) nP capP,va,.agg #[.int .i64 1,.int .i64 a,.int .i64 0,.int .i64 0,.int .i64 0,.slice sa sn sc]] w fun e w'=>e=.returned (.tuple #[.slice oa n c,.bool true])∧Below w.heap.size w w':=by
 have CI:=aA (fun wx=>aBu (a:Int) (nP:Int) wx)
 rw [decide_eq_true (show (0:Int)≤(a:Int)∧(a:Int) < (nP:Int) by omega)] at CI
 have hai:(a:Int) < (nP:Int):=by omega
 have hcx:=fun X=>Below.at' ((Below.refl w.heap.size w).alloc (Nat.le_refl _) X) (Nat.le_refl _) hc
 have HB:=aA (fun X=>(Below.refl w.heap.size w).alloc (Nat.le_refl _) X)
 clear hc
 go_enter Tryz.func39,Tryz.ntmps39
 go_wp2_with (first
  | (go_at_call 61;refine (aB CI _).mono ?_;rintro e wx ⟨rfl,hwx⟩;rw [hwx];clear hwx wx)
  | go_in)
 go_returns
 exact ⟨rfl,HB.out _⟩
set_option maxHeartbeats 8000000 in
theorem aUk (pa:Option Addr) (pn pc gs n cap a b i j:Nat) (sa:Option Addr) (sn sc:Nat) (oa ob:Option Addr) (ca cb:Nat) (c d out:List Lt) (w:World) (ha:a < n) (hb:b < n) (c1:w.cell? ⟨gs,a * 6+5,none⟩=some (.slice oa c.length ca)) (c2:w.cell? ⟨gs,b * 6+5,none⟩=some (.slice ob d.length cb)) (h1:bP w oa c) (h2:bP w ob d) (hT:gL w) (hR:mR c d i j out true 0) (ho:bG out=true) :
  Calls Tryz.prog 39 #[.slice pa pn pc,.slice (some ⟨gs,0,none⟩) n cap,.agg #[.int .i64 2,.int .i64 a,.int .i64 b,.int .i64 i,.int .i64 j,.slice sa sn sc]] w fun e w'=>∃ra rc,e=.returned (.tuple #[.slice ra out.length rc,.bool true])∧bP w' ra out∧Below w.heap.size w w':=by
 have CI1:=aA (fun wx=>aBu (a:Int) (n:Int) wx)
 have CI2:=aA (fun wx=>aBu (b:Int) (n:Int) wx)
 rw [decide_eq_true (show (0:Int)≤(a:Int)∧(a:Int) < (n:Int) by omega)] at CI1
 rw [decide_eq_true (show (0:Int)≤(b:Int)∧(b:Int) < (n:Int) by omega)] at CI2
 have hai:(a:Int) < (n:Int):=by omega
 have hbi:(b:Int) < (n:Int):=by omega
 obtain ⟨w1,hw1,hb1,hx1,hs1⟩ : ∃w1,w.alloc (.cells #[.int .i64 2,.int .i64 a,.int .i64 b,.int .i64 i,.int .i64 j,.slice sa sn sc] 54)=w1∧Below w.heap.size w w1∧w1.heap[w.heap.size]?=some (.cells #[.int .i64 2,.int .i64 a,.int .i64 b,.int .i64 i,.int .i64 j,.slice sa sn sc] 54 (0,0))∧w1.heap.size=w.heap.size+1:=⟨_,rfl,(Below.refl _ w).alloc (Nat.le_refl _) _,World.alloc_heap_new w _,by simp⟩
 have k1:=Below.at' hb1 (Nat.le_refl _) c1
 have k2:=Below.at' hb1 (Nat.le_refl _) c2
 have x0:w1.cell? ⟨w.heap.size,0,none⟩=some (.int .i64 2):=by simp [World.cell?,hx1]
 have x1:w1.cell? ⟨w.heap.size,1,none⟩=some (.int .i64 a):=by simp [World.cell?,hx1]
 have x2:w1.cell? ⟨w.heap.size,2,none⟩=some (.int .i64 b):=by simp [World.cell?,hx1]
 have x3:w1.cell? ⟨w.heap.size,3,none⟩=some (.int .i64 i):=by simp [World.cell?,hx1]
 have x4:w1.cell? ⟨w.heap.size,4,none⟩=some (.int .i64 j):=by simp [World.cell?,hx1]
 have CR:=aA (fun (wx:World) (hx:∃m,wx=w1.drewN m)=>(aUg oa ob ca cb c d i j wx (by obtain ⟨m,rfl⟩:=hx;exact (h1.below hb1 (Nat.le_refl _)).below (aJ ⟨m,rfl⟩) (Nat.le_refl _)) (by obtain ⟨m,rfl⟩:=hx;exact (h2.below hb1 (Nat.le_refl _)).below (aJ ⟨m,rfl⟩) (Nat.le_refl _)) (by obtain ⟨m,rfl⟩:=hx;exact (hT.below hb1 (Nat.le_refl _)).below (aJ ⟨m,rfl⟩) (Nat.le_refl _))).mono (R':=fun e w2=>∃ra rc,e=.returned (.tuple #[.slice ra out.length rc,.bool true,.int .i64 0])∧bP w2 ra out∧Below w.heap.size w w2∧Below w1.heap.size w1 w2) (fun e w2 he=>by
  obtain ⟨m,rfl⟩:=hx
  obtain ⟨v2,o2,yes,er,rfl,hsp,hcm,_,hb2⟩:=he
  obtain ⟨rfl,rfl,rfl⟩:=hsp.one hR
  obtain ⟨ra,rc,rfl,_,hl,_⟩:=hcm.lits (jI ho)
  exact ⟨ra,rc,rfl,hl,hb1.trans (((aJ ⟨m,rfl⟩).trans hb2).mono hb1.size),(aJ ⟨m,rfl⟩).trans hb2⟩))
 clear c1 c2 h1 h2 hT hR ho hx1 hs1
 go_enter Tryz.func39,Tryz.ntmps39
 go_upto_region 1 with (fail)
 clear hw1
 go_upto_region 9 with (first
  | (go_at_call_of 61 (Value.int IntKind.i64 (a:Int));refine (aB CI1 _).mono ?_;rintro e wx ⟨rfl,hwx⟩;rw [hwx];clear hwx wx)
  | (go_at_call_of 61 (Value.int IntKind.i64 (b:Int));refine (aB CI2 _).mono ?_;rintro e wx ⟨rfl,hwx⟩;rw [hwx];clear hwx wx)
  | go_in)
 generalize c.length=cn at *
 generalize d.length=dn at *
 go_region_held3 (fun w'=>w'.cell? ⟨w.heap.size,1,none⟩=some (.int .i64 a)∧w'.cell? ⟨w.heap.size,2,none⟩=some (.int .i64 b)∧w'.cell? ⟨w.heap.size,3,none⟩=some (.int .i64 i)∧w'.cell? ⟨w.heap.size,4,none⟩=some (.int .i64 j)∧w'.cell? ⟨gs,a * 6+5,none⟩=some (.slice oa cn ca)∧w'.cell? ⟨gs,b * 6+5,none⟩=some (.slice ob dn cb)) (first | trivial | go_keep)
  (first
   | (go_at_call 62;refine (aB CR _ (by first | exact ⟨0,rfl⟩ | exact ⟨1,rfl⟩ | exact ⟨_,rfl⟩)).mono ?_;rintro e w2 ⟨ra,rc,rfl,hl2,hb2,hb3⟩;have HL2:=aA hl2;have HB2:=aA hb2;have y1:=Below.at' hb3 (Nat.le_refl _) x1;have y2:=Below.at' hb3 (Nat.le_refl _) x2;have y3:=Below.at' hb3 (Nat.le_refl _) x3;have y4:=Below.at' hb3 (Nat.le_refl _) x4;have y5:=Below.at' hb3 (Nat.le_refl _) k1;have y6:=Below.at' hb3 (Nat.le_refl _) k2;clear hl2 hb2 hb3)
   | go_in)
 go_wp2
 go_returns
 exact ⟨_,_,rfl,HL2.out,HB2.out⟩
set_option maxHeartbeats 4000000 in
theorem aUl (vc va:Value) (r a b i j:Nat) (sa:Option Addr) (sc:Nat) (out:List Lt) (w:World) (hs:bP w sa out) (hf:dQ out=true)
  (hg:∀wx,Below w.heap.size w wx→Calls Tryz.prog 39 #[vc,va,.agg #[.int .i64 r,.int .i64 a,.int .i64 b,.int .i64 i,.int .i64 j,.slice sa out.length sc]] wx fun e w'=>∃ra rc,e=.returned (.tuple #[.slice ra out.length rc,.bool true])∧bP w' ra out∧Below wx.heap.size wx w') :
  Calls Tryz.prog 23 #[vc,va,.agg #[.int .i64 r,.int .i64 a,.int .i64 b,.int .i64 i,.int .i64 j,.slice sa out.length sc]] w fun e w'=>e=.returned (.bool true)∧Below w.heap.size w w':=by
 obtain ⟨w1,hw1,hb1,hx1,hs1⟩ : ∃w1,w.alloc (.cells #[.int .i64 r,.int .i64 a,.int .i64 b,.int .i64 i,.int .i64 j,.slice sa out.length sc] 54)=w1∧Below w.heap.size w w1∧w1.heap[w.heap.size]?=some (.cells #[.int .i64 r,.int .i64 a,.int .i64 b,.int .i64 i,.int .i64 j,.slice sa out.length sc] 54 (0,0))∧w1.heap.size=w.heap.size+1:=⟨_,rfl,(Below.refl _ w).alloc (Nat.le_refl _) _,World.alloc_heap_new w _,by simp⟩
 have x0:w1.cell? ⟨w.heap.size,0,none⟩=some (.int .i64 r):=by simp [World.cell?,hx1]
 have x1:w1.cell? ⟨w.heap.size,1,none⟩=some (.int .i64 a):=by simp [World.cell?,hx1]
 have x2:w1.cell? ⟨w.heap.size,2,none⟩=some (.int .i64 b):=by simp [World.cell?,hx1]
 have x3:w1.cell? ⟨w.heap.size,3,none⟩=some (.int .i64 i):=by simp [World.cell?,hx1]
 have x4:w1.cell? ⟨w.heap.size,4,none⟩=some (.int .i64 j):=by simp [World.cell?,hx1]
 have x5:w1.cell? ⟨w.heap.size,5,none⟩=some (.slice sa out.length sc):=by simp [World.cell?,hx1]
 have CG:=aA (hg w1 hb1)
 have CF:=aA (fun (ra:Option Addr) (rc:Nat) (wx:World) (hl:bP wx ra out)=>tY ra rc out wx hl)
 rw [hf] at CF
 have CE:=aA (fun (ra:Option Addr) (rc:Nat) (wx:World) (hl:bP wx ra out) (hb:Below w.heap.size w wx)=>aUi ra sa rc sc out wx hl (hs.below hb (Nat.le_refl _)))
 have HB1:=aA hb1
 clear hg hs hf hx1 hb1
 go_enter Tryz.func23,Tryz.ntmps23
 go_upto_region 1 with (fail)
 clear hw1
 go_wp2_with (first
  | (go_at_call 39;refine (aB CG).mono ?_;rintro e w2 ⟨ra,rc,rfl,hl2,hb2⟩;have y5:=Below.at' hb2 (Nat.le_refl _) x5;have HL2:=aA hl2;have HB2:=aA (HB1.out.trans (hb2.mono HB1.out.size));clear hl2 hb2)
  | (go_at_call 29;refine (aB CF ra rc _ HL2.out).mono ?_;rintro e w3 ⟨rfl,hb3⟩;have z5:=Below.at' hb3 (Nat.le_refl _) y5;have HL3:=aA (HL2.out.below hb3 (Nat.le_refl _));have HB3:=aA (HB2.out.trans (hb3.mono HB2.out.size));clear hb3)
  | (go_at_call 40;refine (aB CE ra rc _ HL3.out HB3.out).mono ?_;rintro e w4 ⟨rfl,hb4⟩;have HB4:=aA (HB3.out.trans (hb4.mono HB3.out.size));clear hb4)
  | go_in)
 go_ret
 exact ⟨rfl,HB4.out⟩
end Go.Proofs.YtbddofieljiihaaGreatDoor
