/- The program: variables as keys of a map; rows of numbers that grow. The program: where a variable stood first. The program: the leader that a node gets. -/
import Derived.Test.YtbddofieljiihaaGreatDoorONumI
import Derived.Lib.AppendZerosOnto
import Derived.DeepKeys4
import Derived.Test.YtbddofieljiihaaGreatDoorPTermI
import Derived.Deep.RegionLaw
namespace Go.Proofs.YtbddofieljiihaaGreatDoor
open Go.RowKit Go.Shelf Go.WideMaps
set_option maxRecDepth 100000
theorem aS6:laidOutB Tryz.prog=true:=by kernel_rfl
theorem uO:Maps.Keyed Tryz.prog 194:=Maps.Keyed.of_law (deep_law_laid aS6 (m:=2) (by decide) (of_decide_eq_true (by kernel_rfl)) (by kernel_rfl) (by kernel_rfl))
def nI (o x:Int):Value:=.agg #[.int .i64 o,.int .i64 x]
theorem aS7 (n:Nat) (o x:Int) (wo:(Lit.int .i64 o).wf=true) (wx:(Lit.int .i64 x).wf=true):Tryz.prog.keyLits (n+1+1) 194 [.int .i64 o,.int .i64 x]=some [.int .i64 o,.int .i64 x]:=by
 have hc:Tryz.prog.cellsOf 194=2:=by kernel_rfl
 have hci:Tryz.prog.cellsOf 3=1:=by kernel_rfl
 unfold Program.keyLits
 simp only [Tryz.underlying194,hc]
 simp [List.mapM_cons,Program.keyLits,Tryz.underlying3,hci,wo,wx]
theorem aS8 (o x:Int) (ho : -1000000000≤o∧o≤1000000000) (hx : -1000000000≤x∧x≤1000000000):∃kl,keyOf Tryz.prog 194 (nI o x)=some kl:=by
 have hk:Tryz.prog.keyType 194=true:=by kernel_rfl
 have hc:Tryz.prog.cellsOf 194=2:=by kernel_rfl
 have hs:Tryz.prog.types.size+1=(Tryz.prog.types.size - 1)+1+1:=by
  have:0 < Tryz.prog.types.size:=of_decide_eq_true (by kernel_rfl)
  omega
 have hform:(nI o x).formed Tryz.prog 194=true:=by
  unfold Value.formed nI
  simp only [Tryz.underlying194,hc]
  rfl
 unfold keyOf
 simp only [Tryz.underlying194,hk,hform,Bool.and_self,if_true]
 rw [hs]
 have:=aS7 (Tryz.prog.types.size - 1) o x (aA1 ho.1 ho.2) (aA1 hx.1 hx.2)
 exact ⟨_,by rw [show (nI o x).cells.toList=[.int .i64 o,.int .i64 x] from rfl,this];rfl⟩
theorem aG4 (k:Nat):(Builtin.zeroCells (Value.int .i64 0).cells k).toList=List.replicate k (.int .i64 0):=by
 apply List.ext_getElem?
 intro j
 have h1:(Value.int .i64 0).cells=#[.int .i64 0]:=rfl
 rw [h1]
 by_cases hj:j < k
 ·simp [Builtin.zeroCells,hj,Nat.mod_one]
 ·simp [Builtin.zeroCells,hj]
theorem aG5 (w:World) (ty:TypeId) (base:Nat) (v:Value) (n k:Nat) (xs:List Value) (hown:w.ownsRow base 3 1 v n xs) (hv:v.ownBlock≠none) (hk:0 < k) (hb:n+k≤1000000) (hbase:base≤w.heap.size) :
  ∃v' w',(Builtin.append_ #[31,3] ty #[v,.int .i64 k]).run Tryz.prog w=.ok v' w'∧w'.ownsRow base 3 1 v' (n+k) (xs++List.replicate k (.int .i64 0))∧w.grownBy w' v.ownBlock∧(v'.ownBlock=v.ownBlock∨v'.ownBlock=some w.heap.size):=by
 obtain ⟨i,hi,hz,hs,hy⟩:=info_parts qM
 have hlen:(xs++List.replicate k (Value.int .i64 0)).length=(n+k) * 1:=by rw [List.length_append,hown.1];simp
 rcases hown.2 with ⟨rfl,rfl⟩ | ⟨g,cap,cur,rfl,hbg,hg,hnc,hcm,hcs,htake⟩
 ·exact absurd rfl hv
 ·by_cases hroom:n+k≤cap
  ·have hst:=run_storeCells_at Tryz.prog g n 3 (List.replicate k (Value.int .i64 0)) 0 cur w hg (by simp;omega) (by intro u hu;rw [List.eq_of_mem_replicate hu];rfl)
   have hw:IntKind.i64.wrap (k:Int)=k:=by rw [IntKind.wrap_i64];omega
   have hneg:¬((k:Int) < 0):=by omega
   have h48i:¬(281474976710656 < (k:Int) * 8):=by omega
   have hk0:k≠0:=by omega
   refine ⟨.slice (some ⟨g,0,none⟩) (n+k) cap,w.setRow g (cur.toList.take n++List.replicate k (Value.int .i64 0)++cur.toList.drop (n+k)).toArray,?_,⟨hlen,.inr ⟨g,cap,_,rfl,hbg,setRow_heap w g cur _ 3 _ hg,hroom,hcm,?_,?_⟩⟩,⟨rfl,rfl,rfl,by simp,fun j _ hj=>setRow_other w g j _ (fun e=>hj (by simp [Value.ownBlock,e]))⟩,Or.inl rfl⟩
   ·simp [Builtin.append_,run_underlying Tryz.underlying31,run_underlying Tryz.underlying3,sizeOf,typeInfo,zeroValue,hi,hz,hs,hy,asInt,asIntOf,hw,hneg,h48i,hroom,hk0,Addr.add_lit,aG4]
    rw [hst]
    simp
   ·simp
    omega
   ·rw [Nat.mul_one] at htake ⊢
    have hx:xs.length=n:=by have:=hown.1;omega
    rw [htake,←show (xs++List.replicate k (Value.int .i64 0)).length=n+k by simp [hx]]
    exact List.take_left
  ·have holds:∀j u,xs[j]?=some u→w.cell? ((⟨g,0,none⟩ : Addr).add j)=some u:=hown.cells (g:=g) rfl
   have hf:=run_firstCells_some (P:=Tryz.prog) w.drew i.size n ⟨g,0,none⟩ n cap xs (by rw [hs];exact hown.1) (fun j u hu=>holds j u hu)
   have hr:=Go.Lib.run_append_grow_zeros (P:=Tryz.prog) w 31 3 ty 3 i (.int .i64 0) .i64 .i64 Tryz.underlying31 Tryz.underlying3 hi hz (some ⟨g,0,none⟩) n cap xs hf k hk (by omega) (by omega) (by omega) (by rw [hy];omega) (growslice_fits (by omega) (by rw [hy];omega))
   have hge:=grownCap_ge w (n+k) cap 3
   have hcm':grownCap w (n+k) cap 3≤maxLen:=grownCap_le_maxLen w (n+k) cap 3 (by unfold maxLen;omega)
   refine ⟨_,_,hr,⟨hlen,.inr ⟨w.heap.size,_,_,rfl,hbase,heap_alloc_new w.drew _,hge,hcm',?_,?_⟩⟩,⟨rfl,rfl,rfl,by simp,fun j hj _=>Below.heap_alloc w.drew _ j hj⟩,Or.inr rfl⟩
   ·simp [size_zeroCells,hown.1,Value.cells]
    omega
   ·rw [Nat.mul_one]
    simp only [Array.toList_append,aG4]
    rw [←show (xs++List.replicate k (Value.int .i64 0)).length=n+k by rw [hlen];omega]
    exact List.take_left
abbrev Tg:=Int×Nd
def eM (o x:Int) (p:Tg):Bool:=aH p.2 && (decide (p.1=o) && decide (p.2.2=x))
def gQ (M:List Tg) (o x:Int):Option Nat:=M.findIdx? (eM o x)
theorem aB9 (M:List Tg) (p:Tg) (o x:Int):gQ (M++[p]) o x=(gQ M o x).or (if eM o x p then some M.length else none):=by
 unfold gQ
 rw [List.findIdx?_append]
 congr 1
 by_cases h:eM o x p=true <;> simp [h]
def lJ (M:List Tg) (o:Int) (n:Nd):Nat:=if aH n then (gQ M o n.2).getD M.length else M.length
structure lK (D:DataW Unit) (M:List Tg):Prop where
 tidy:Maps.Tidy D
 old:∀o x kl p,keyOf Tryz.prog 194 (nI o x)=some kl→gQ M o x=some p→Maps.has D kl=true∧∀z,D.atKey kl z=.lit (.int .i64 p)
 new:∀o x kl,keyOf Tryz.prog 194 (nI o x)=some kl→gQ M o x=none→Maps.has D kl=false
theorem lK.start:lK (.map []) []:=⟨⟨[],rfl,by simp⟩,fun o x kl p _ h=>by simp [gQ] at h,fun _ _ _ _ _=>rfl⟩
theorem lK.skip {D:DataW Unit} {M:List Tg} (h:lK D M) {p:Tg} (hp:aH p.2=false∨gQ M p.1 p.2.2≠none):lK D (M++[p]):=by
 have key:∀o x,gQ (M++[p]) o x=gQ M o x:=by
  intro o x
  rw [aB9]
  cases hf:gQ M o x with
  | some q=>rfl
  | none=>
   have:eM o x p=false:=by
    rcases hp with hp | hp
    ·simp [eM,hp]
    ·by_cases e:eM o x p=true
     ·simp [eM] at e
      rw [e.2.1,e.2.2] at hp
      exact absurd hf hp
     ·simpa using e
   simp [this]
 exact ⟨h.tidy,fun o x kl q hk hq=>h.old o x kl q hk (by rw [←key];exact hq),fun o x kl hk hq=>h.new o x kl hk (by rw [←key];exact hq)⟩
theorem aS9 {o x o' x':Int} (h:nI o x=nI o' x'):o=o'∧x=x':=by simpa [nI] using h
theorem lK.put {D:DataW Unit} {M:List Tg} (h:lK D M) {o:Int} {n:Nd} (hv:aH n=true) (hf:gQ M o n.2=none) {kl:Lit} (hk:keyOf Tryz.prog 194 (nI o n.2)=some kl) :
  lK (D.put kl (.lit (.int .i64 M.length))) (M++[(o,n)]):=by
 have hkey:=uO.key hk
 have hne:∀o' x' kl',keyOf Tryz.prog 194 (nI o' x')=some kl'→¬(o'=o∧x'=n.2)→kl'≠kl:=by
  rintro o' x' kl' hk' hn rfl
  exact hn (aS9 (uO.inj hk' hk))
 have hiv:∀o' x',eM o' x' (o,n)=true↔(o'=o∧x'=n.2):=by
  intro o' x'
  simp [eM,hv]
  constructor
  ·rintro ⟨rfl,rfl⟩;exact ⟨rfl,rfl⟩
  ·rintro ⟨rfl,rfl⟩;exact ⟨rfl,rfl⟩
 refine ⟨h.tidy.put hkey _,fun o' x' kl' q hk' hq=>?_,fun o' x' kl' hk' hq=>?_⟩
 ·rw [aB9] at hq
  by_cases he:o'=o∧x'=n.2
  ·obtain ⟨rfl,rfl⟩:=he
   rw [hf,(hiv _ _).2 ⟨rfl,rfl⟩] at hq
   simp at hq
   subst hq
   rw [hk] at hk'
   simp at hk'
   subst hk'
   exact ⟨Maps.has_put_same h.tidy.isMap hkey _,fun z=>Maps.atKey_put_same h.tidy.isMap hkey _ _⟩
  ·have hq':gQ M o' x'=some q:=by
    cases hfo:gQ M o' x' with
    | some r=>rw [hfo] at hq;simpa using hq
    | none=>
     rw [hfo] at hq
     have:eM o' x' (o,n)=false:=by rw [←Bool.not_eq_true,hiv];exact he
     simp [this] at hq
   have ho:=h.old o' x' kl' q hk' hq'
   have hn:=hne o' x' kl' hk' he
   exact ⟨by rw [Maps.has_put_other hn];exact ho.1,fun z=>by rw [Maps.atKey_put_other hn];exact ho.2 z⟩
 ·rw [aB9] at hq
  by_cases he:o'=o∧x'=n.2
  ·rw [(hiv _ _).2 he] at hq
   cases hfo:gQ M o' x' with
   | some r=>rw [hfo] at hq;simp at hq
   | none=>rw [hfo] at hq;simp at hq
  ·have hq':gQ M o' x'=none:=by
    cases hfo:gQ M o' x' with
    | some r=>rw [hfo] at hq;simp at hq
    | none=>rfl
   rw [Maps.has_put_other (hne o' x' kl' hk' he)]
   exact h.new o' x' kl' hk' hq'
theorem aBa {k:TypeId} {mp n:Nat} {D:DataW Unit} {a b:World} (h:a.ownsMap Tryz.prog k eR mp n D) (hb:b.heap[mp]?=a.heap[mp]?):b.ownsMap Tryz.prog k eR mp n D:=by
 obtain ⟨es,clock,hh,hr⟩:=h
 exact ⟨es,clock,by rw [hb];exact hh,hr⟩
theorem aBb {k:TypeId} {mp n:Nat} {D:DataW Unit} {a:World} (h:a.ownsMap Tryz.prog k eR mp n D):mp < a.heap.size:=by
 obtain ⟨es,clock,hh,_⟩:=h
 exact (Array.getElem?_eq_some_iff.1 hh).1
theorem oX {k:TypeId} {mp n:Nat} {D:DataW Unit} {a b:World} (h:a.ownsMap Tryz.prog k eR mp n D) (hb:Below a.heap.size a b):b.ownsMap Tryz.prog k eR mp n D:=aBa h (hb.block mp (aBb h))
set_option maxHeartbeats 2000000 in
theorem aSa (tb mp nm cn:Nat) (an:Option Addr) (D:DataW Unit) (M:List Tg) (o:Int) (s:ByteArray) (x:Int) (w:World) (c0:w.cell? ⟨tb,0,none⟩=some (.slice an M.length cn)) (c4:w.cell? ⟨tb,4,none⟩=some (.map (some mp)))
  (hown:w.ownsMap Tryz.prog 194 eR mp nm D) (hD:lK D M) (hn:nm≤M.length) (hM:M.length≤1000000) (ho : -1000000000≤o∧o≤1000000000) (hx : -1000000000≤x∧x≤1000000000) :
  Calls Tryz.prog 134 #[.pointer (some ⟨tb,0,none⟩),.int .i64 o,.agg #[.string s,.int .i64 x]] w fun e w'=>∃nm' D',e=.returned (.int .i64 (lJ M o (s,x)))∧w'.ownsMap Tryz.prog 194 eR mp nm' D'∧lK D' (M++[(o,(s,x))])∧nm'≤M.length+1∧w.grownBy w' (some mp):=by
 have htb:tb < w.heap.size:=World.block_lt_of_cell? w _ c4
 have CV:=aA (fun wx=>nE s x wx)
 by_cases hv:s.toList.isEmpty=true
 ·have hvb:aH (s,x)=true:=hv
  rw [hv] at CV
  obtain ⟨kl,hkey⟩:=aS8 o x ho hx
  have HO:=aA hown
  have HD:=aA hD
  have HK:=aA hkey
  clear hown hD hv ho hx
  go_enter Tryz.func134,Tryz.ntmps134
  go_wp2_with (first
   | (go_at_call 49;refine (aB CV _).mono ?_;rintro e w1 ⟨rfl,hb1⟩;have hb:Below w.heap.size w w1:=((Below.refl _ _).alloc (Nat.le_refl _) _).trans (hb1.mono (by simp));have k0:=Below.at' hb (Nat.le_refl _) c0;have k4:=Below.at' hb (Nat.le_refl _) c4;have x1:w1.cell? ⟨w.heap.size,1,none⟩=some (.int .i64 x):=Below.at' hb1 (Nat.le_refl _) (by simp);have HB:=aA hb;clear hb hb1)
   | go_in)
  have hbk:Below w1.heap.size w1 (w1.alloc (.cells #[.int .i64 o,.int .i64 x] 194)):=(Below.refl _ _).alloc (Nat.le_refl _) _
  have q0:=Below.at' hbk (Nat.le_refl _) k0
  have q4:=Below.at' hbk (Nat.le_refl _) k4
  have hwk:w.heap.size≤w1.heap.size:=HB.out.size
  have HB2:=aA (HB.out.trans (hbk.mono hwk))
  have v0:(w1.alloc (.cells #[.int .i64 o,.int .i64 x] 194)).cell? ⟨w1.heap.size,0,none⟩=some (.int .i64 o):=by simp
  have v1:(w1.alloc (.cells #[.int .i64 o,.int .i64 x] 194)).cell? ⟨w1.heap.size,1,none⟩=some (.int .i64 x):=by simp
  generalize w1.alloc (.cells #[.int .i64 o,.int .i64 x] 194)=w2 at *
  have HO2:=aA (oX HO.out HB2.out)
  clear k0 k4 x1 hbk hkey c0 c4
  cases hf:gQ M o x with
  | some p=>
   have hol:=HD.out.old o x kl p HK.out hf
   have HR:Hid (lJ M o (s,x)=p):=aA (by unfold lJ;rw [hvb];simp [hf])
   have HD2:=aA (HD.out.skip (p:=(o,(s,x))) (Or.inr (by simp [hf])))
   have hrun:∀wx:World,wx.ownsMap Tryz.prog 194 eR mp nm D→(Instr.lookup 174 (.map (some mp)) (.agg #[.int .i64 o,.int .i64 x]) true).run Tryz.prog wx=.ok (.tuple #[.int .i64 p,.bool true]) wx:=fun wx hx=>by
    obtain ⟨v,ps,h1,h2⟩:=hx.look_ok uO Tryz.underlying174 (Tryz.zeroValue3 _) (zd:=.lit (.int .i64 0)) (zp:=[]) rfl HK.out
    rw [hol.2] at h2
    have h3:=wL h2
    subst h3
    rw [hol.1] at h1
    exact h1
   have hr0:=hrun w2 HO2.out
   have hr1:=fun d=>hrun (w2.drewN d) (oX HO2.out (aJ ⟨d,rfl⟩))
   clear hol hf hvb hrun
   go_quiet (fail)
   go_wp2
   go_ret
   have hb3:=HB2.out.trans ((aJ (w1:=w2.drewN nq) ⟨nq,rfl⟩).mono HB2.out.size)
   exact ⟨nm,D,sX (by rw [HR.out]),oX HO.out hb3,HD2.out,by omega,fF hb3⟩
  | none=>
   have hnw:=HD.out.new o x kl HK.out hf
   have HR:Hid (lJ M o (s,x)=M.length):=aA (by unfold lJ;rw [hvb];simp [hf])
   have HD2:=aA (HD.out.put hvb hf HK.out)
   have hrun:∀wx:World,wx.ownsMap Tryz.prog 194 eR mp nm D→(Instr.lookup 174 (.map (some mp)) (.agg #[.int .i64 o,.int .i64 x]) true).run Tryz.prog wx=.ok (.tuple #[.int .i64 0,.bool false]) wx:=fun wx hx=>by
    obtain ⟨v,ps,h1,h2⟩:=hx.look_ok uO Tryz.underlying174 (Tryz.zeroValue3 _) (zd:=.lit (.int .i64 0)) (zp:=[]) rfl HK.out
    rw [wJ HD.out.tidy.isMap hnw] at h2
    have h3:=wL h2
    subst h3
    rw [hnw] at h1
    exact h1
   have hr0:=hrun w2 HO2.out
   have hr1:=fun d=>hrun (w2.drewN d) (oX HO2.out (aJ ⟨d,rfl⟩))
   clear hnw hf hvb hrun
   go_quiet (fail)
   go_wp2
   obtain ⟨w3,hr3,hown3,hg3⟩:=(oX HO2.out (aJ (w1:=w2.drewN (nq+1)) ⟨_,rfl⟩)).update uO Tryz.underlying174 (by unfold maxLen;omega) (key:=.agg #[.int .i64 o,.int .i64 x]) (val:=.int .i64 M.length) (aB HK) (d:=.lit (.int .i64 M.length)) (ps:=[]) rfl
   have HO3:=aA hown3
   have HG3:=aA hg3
   clear hown3 hg3 hr0 hr1
   go_region
   all_goals
    go_wp2
    go_ret
    exact ⟨nm+1,_,sX (by rw [HR.out]),HO3.out,HD2.out,by omega,(fF (HB2.out.trans ((aJ (w1:=w2.drewN (nq+1)) ⟨_,rfl⟩).mono HB2.out.size))).trans HG3.out⟩
 ·have hvb:aH (s,x)=false:=by simpa [aH] using hv
  rw [show s.toList.isEmpty=false by simpa using hv] at CV
  have HR:Hid (lJ M o (s,x)=M.length):=aA (by unfold lJ;rw [hvb];rfl)
  have HD:=aA (hD.skip (p:=(o,(s,x))) (Or.inl hvb))
  have HO:=aA hown
  clear hown hD hv hvb ho hx
  go_enter Tryz.func134,Tryz.ntmps134
  go_wp2_with (first
   | (go_at_call 49;refine (aB CV _).mono ?_;rintro e w1 ⟨rfl,hb1⟩;have HB1:=aA hb1;clear hb1)
   | go_in)
  go_ret
  have hb:Below w.heap.size w w1:=((Below.refl _ _).alloc (Nat.le_refl _) _).trans (HB1.out.mono (by simp))
  exact ⟨nm,D,sX (by rw [HR.out]),oX HO.out hb,HD.out,by omega,fF hb⟩
end Go.Proofs.YtbddofieljiihaaGreatDoor
