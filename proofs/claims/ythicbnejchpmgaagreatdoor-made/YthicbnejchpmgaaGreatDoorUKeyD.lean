/- The program: variables as keys of a map; rows of numbers that grow. The program: where a variable stood first. The program: the leader that a node gets. -/
import Derived.Test.YthicbnejchpmgaaGreatDoorONumD
import Derived.Lib.AppendZerosOnto
import Derived.DeepKeys4
import Derived.Test.YthicbnejchpmgaaGreatDoorShelfD
namespace Go.Proofs.YthicbnejchpmgaaGreatDoor
open Go.RowKit Go.Shelf Go.WideMaps
set_option maxRecDepth 100000
theorem aQo:laidOutB Tryz.prog=true:=by kernel_rfl
theorem uP:Maps.Keyed Tryz.prog 100:=Maps.Keyed.of_law (deep_law_laid aQo (m:=2) (by decide) (of_decide_eq_true (by kernel_rfl)) (by kernel_rfl) (by kernel_rfl))
def nM (o x:Int):Value:=.agg #[.int .i64 o,.int .i64 x]
theorem aQp (n:Nat) (o x:Int) (wo:(Lit.int .i64 o).wf=true) (wx:(Lit.int .i64 x).wf=true):Tryz.prog.keyLits (n+1+1) 100 [.int .i64 o,.int .i64 x]=some [.int .i64 o,.int .i64 x]:=by
 have hc:Tryz.prog.cellsOf 100=2:=by kernel_rfl
 have hci:Tryz.prog.cellsOf 3=1:=by kernel_rfl
 unfold Program.keyLits
 simp only [Tryz.underlying100,hc]
 simp [List.mapM_cons,Program.keyLits,Tryz.underlying3,hci,wo,wx]
theorem aQq (o x:Int) (ho : -1000000000≤o∧o≤1000000000) (hx : -1000000000≤x∧x≤1000000000):∃kl,keyOf Tryz.prog 100 (nM o x)=some kl:=by
 have hk:Tryz.prog.keyType 100=true:=by kernel_rfl
 have hc:Tryz.prog.cellsOf 100=2:=by kernel_rfl
 have hs:Tryz.prog.types.size+1=(Tryz.prog.types.size - 1)+1+1:=by
  have:0 < Tryz.prog.types.size:=of_decide_eq_true (by kernel_rfl)
  omega
 have hform:(nM o x).formed Tryz.prog 100=true:=by
  unfold Value.formed nM
  simp only [Tryz.underlying100,hc]
  rfl
 unfold keyOf
 simp only [Tryz.underlying100,hk,hform,Bool.and_self,if_true]
 rw [hs]
 have:=aQp (Tryz.prog.types.size - 1) o x (zQ ho.1 ho.2) (zQ hx.1 hx.2)
 exact ⟨_,by rw [show (nM o x).cells.toList=[.int .i64 o,.int .i64 x] from rfl,this];rfl⟩
theorem aFq (k:Nat):(Builtin.zeroCells (Value.int .i64 0).cells k).toList=List.replicate k (.int .i64 0):=by
 apply List.ext_getElem?
 intro j
 have h1:(Value.int .i64 0).cells=#[.int .i64 0]:=rfl
 rw [h1]
 by_cases hj:j < k
 ·simp [Builtin.zeroCells,hj,Nat.mod_one]
 ·simp [Builtin.zeroCells,hj]
theorem aFr (w:World) (ty:TypeId) (base:Nat) (v:Value) (n k:Nat) (xs:List Value) (hown:w.ownsRow base 3 1 v n xs) (hv:v.ownBlock≠none) (hk:0 < k) (hb:n+k≤1000000) (hbase:base≤w.heap.size) :
  ∃v' w',(Builtin.append_ #[31,3] ty #[v,.int .i64 k]).run Tryz.prog w=.ok v' w'∧w'.ownsRow base 3 1 v' (n+k) (xs++List.replicate k (.int .i64 0))∧w.grownBy w' v.ownBlock∧(v'.ownBlock=v.ownBlock∨v'.ownBlock=some w.heap.size):=by
 obtain ⟨i,hi,hz,hs,hy⟩:=info_parts qY
 have hlen:(xs++List.replicate k (Value.int .i64 0)).length=(n+k) * 1:=by rw [List.length_append,hown.1];simp
 rcases hown.2 with ⟨rfl,rfl⟩ | ⟨g,cap,cur,rfl,hbg,hg,hnc,hcm,hcs,htake⟩
 ·exact absurd rfl hv
 ·by_cases hroom:n+k≤cap
  ·have hst:=run_storeCells_at Tryz.prog g n 3 (List.replicate k (Value.int .i64 0)) 0 cur w hg (by simp;omega) (by intro u hu;rw [List.eq_of_mem_replicate hu];rfl)
   have hw:IntKind.i64.wrap (k:Int)=k:=by rw [IntKind.wrap_i64];omega
   have hneg:¬((k:Int) < 0):=by omega
   have h48i:¬(281474976710656 < (k:Int) * 8):=by omega
   have hk0:k≠0:=by omega
   refine ⟨.slice (some ⟨g,0,none⟩) (n+k) cap,w.setRow g (cur.toList.take n++List.replicate k (Value.int .i64 0)++cur.toList.drop (n+k)).toArray,?_,⟨hlen,.inr ⟨g,cap,_,rfl,hbg,setRow_heap w g cur _ 3 _ hg,hroom,hcm,?_,?_⟩⟩,⟨rfl,rfl,rfl,by simp,fun j _ hj=>setRow_other w g j _ (fun e=>hj (by simp [Value.ownBlock,e]))⟩,Or.inl rfl⟩
   ·simp [Builtin.append_,run_underlying Tryz.underlying31,run_underlying Tryz.underlying3,sizeOf,typeInfo,zeroValue,hi,hz,hs,hy,asInt,asIntOf,hw,hneg,h48i,hroom,hk0,Addr.add_lit,aFq]
    rw [hst]
    simp
   ·simp
    omega
   ·rw [Nat.mul_one] at htake ⊢
    have hx:xs.length=n:=by have:=hown.1;omega
    rw [htake,←show (xs++List.replicate k (Value.int .i64 0)).length=n+k by simp [hx]]
    exact List.take_left
  ·have holds:∀j u,xs[j]?=some u→w.cell? ((⟨g,0,none⟩ : Addr).add j)=some u:=hown.cells (g:=g) rfl
   have hf:=run_firstCells_some (P:=Tryz.prog) w.drew i.size n ⟨g,0,none⟩ n cap xs (by rw [hs];exact hown.1) (fun j u hu=>holds j u hu)
   have hr:=Go.Lib.run_append_grow_zeros (P:=Tryz.prog) w 31 3 ty 3 i (.int .i64 0) .i64 .i64 Tryz.underlying31 Tryz.underlying3 hi hz (some ⟨g,0,none⟩) n cap xs hf k hk (by omega) (by omega) (by omega) (by rw [hy];omega) (growslice_fits (by omega) (by rw [hy];omega))
   have hge:=grownCap_ge w (n+k) cap 3
   have hcm':grownCap w (n+k) cap 3≤maxLen:=grownCap_le_maxLen w (n+k) cap 3 (by unfold maxLen;omega)
   refine ⟨_,_,hr,⟨hlen,.inr ⟨w.heap.size,_,_,rfl,hbase,heap_alloc_new w.drew _,hge,hcm',?_,?_⟩⟩,⟨rfl,rfl,rfl,by simp,fun j hj _=>Below.heap_alloc w.drew _ j hj⟩,Or.inr rfl⟩
   ·simp [size_zeroCells,hown.1,Value.cells]
    omega
   ·rw [Nat.mul_one]
    simp only [Array.toList_append,aFq]
    rw [←show (xs++List.replicate k (Value.int .i64 0)).length=n+k by rw [hlen];omega]
    exact List.take_left
abbrev Tg:=Int×Nd
def eK (o x:Int) (p:Tg):Bool:=aG p.2 && (decide (p.1=o) && decide (p.2.2=x))
def gX (M:List Tg) (o x:Int):Option Nat:=M.findIdx? (eK o x)
theorem aB1 (M:List Tg) (p:Tg) (o x:Int):gX (M++[p]) o x=(gX M o x).or (if eK o x p then some M.length else none):=by
 unfold gX
 rw [List.findIdx?_append]
 congr 1
 by_cases h:eK o x p=true <;> simp [h]
def lO (M:List Tg) (o:Int) (n:Nd):Nat:=if aG n then (gX M o n.2).getD M.length else M.length
structure lP (D:DataW Unit) (M:List Tg):Prop where
 tidy:Maps.Tidy D
 old:∀o x kl p,keyOf Tryz.prog 100 (nM o x)=some kl→gX M o x=some p→Maps.has D kl=true∧∀z,D.atKey kl z=.lit (.int .i64 p)
 new:∀o x kl,keyOf Tryz.prog 100 (nM o x)=some kl→gX M o x=none→Maps.has D kl=false
theorem lP.start:lP (.map []) []:=⟨⟨[],rfl,by simp⟩,fun o x kl p _ h=>by simp [gX] at h,fun _ _ _ _ _=>rfl⟩
theorem lP.skip {D:DataW Unit} {M:List Tg} (h:lP D M) {p:Tg} (hp:aG p.2=false∨gX M p.1 p.2.2≠none):lP D (M++[p]):=by
 have key:∀o x,gX (M++[p]) o x=gX M o x:=by
  intro o x
  rw [aB1]
  cases hf:gX M o x with
  | some q=>rfl
  | none=>
   have:eK o x p=false:=by
    rcases hp with hp | hp
    ·simp [eK,hp]
    ·by_cases e:eK o x p=true
     ·simp [eK] at e
      rw [e.2.1,e.2.2] at hp
      exact absurd hf hp
     ·simpa using e
   simp [this]
 exact ⟨h.tidy,fun o x kl q hk hq=>h.old o x kl q hk (by rw [←key];exact hq),fun o x kl hk hq=>h.new o x kl hk (by rw [←key];exact hq)⟩
theorem aQr {o x o' x':Int} (h:nM o x=nM o' x'):o=o'∧x=x':=by simpa [nM] using h
theorem lP.put {D:DataW Unit} {M:List Tg} (h:lP D M) {o:Int} {n:Nd} (hv:aG n=true) (hf:gX M o n.2=none) {kl:Lit} (hk:keyOf Tryz.prog 100 (nM o n.2)=some kl) :
  lP (D.put kl (.lit (.int .i64 M.length))) (M++[(o,n)]):=by
 have hkey:=uP.key hk
 have hne:∀o' x' kl',keyOf Tryz.prog 100 (nM o' x')=some kl'→¬(o'=o∧x'=n.2)→kl'≠kl:=by
  rintro o' x' kl' hk' hn rfl
  exact hn (aQr (uP.inj hk' hk))
 have hiv:∀o' x',eK o' x' (o,n)=true↔(o'=o∧x'=n.2):=by
  intro o' x'
  simp [eK,hv]
  constructor
  ·rintro ⟨rfl,rfl⟩;exact ⟨rfl,rfl⟩
  ·rintro ⟨rfl,rfl⟩;exact ⟨rfl,rfl⟩
 refine ⟨h.tidy.put hkey _,fun o' x' kl' q hk' hq=>?_,fun o' x' kl' hk' hq=>?_⟩
 ·rw [aB1] at hq
  by_cases he:o'=o∧x'=n.2
  ·obtain ⟨rfl,rfl⟩:=he
   rw [hf,(hiv _ _).2 ⟨rfl,rfl⟩] at hq
   simp at hq
   subst hq
   rw [hk] at hk'
   simp at hk'
   subst hk'
   exact ⟨Maps.has_put_same h.tidy.isMap hkey _,fun z=>Maps.atKey_put_same h.tidy.isMap hkey _ _⟩
  ·have hq':gX M o' x'=some q:=by
    cases hfo:gX M o' x' with
    | some r=>rw [hfo] at hq;simpa using hq
    | none=>
     rw [hfo] at hq
     have:eK o' x' (o,n)=false:=by rw [←Bool.not_eq_true,hiv];exact he
     simp [this] at hq
   have ho:=h.old o' x' kl' q hk' hq'
   have hn:=hne o' x' kl' hk' he
   exact ⟨by rw [Maps.has_put_other hn];exact ho.1,fun z=>by rw [Maps.atKey_put_other hn];exact ho.2 z⟩
 ·rw [aB1] at hq
  by_cases he:o'=o∧x'=n.2
  ·rw [(hiv _ _).2 he] at hq
   cases hfo:gX M o' x' with
   | some r=>rw [hfo] at hq;simp at hq
   | none=>rw [hfo] at hq;simp at hq
  ·have hq':gX M o' x'=none:=by
    cases hfo:gX M o' x' with
    | some r=>rw [hfo] at hq;simp at hq
    | none=>rfl
   rw [Maps.has_put_other (hne o' x' kl' hk' he)]
   exact h.new o' x' kl' hk' hq'
theorem aB2 {k:TypeId} {mp n:Nat} {D:DataW Unit} {a b:World} (h:a.ownsMap Tryz.prog k eT mp n D) (hb:b.heap[mp]?=a.heap[mp]?):b.ownsMap Tryz.prog k eT mp n D:=by
 obtain ⟨es,clock,hh,hr⟩:=h
 exact ⟨es,clock,by rw [hb];exact hh,hr⟩
theorem aB3 {k:TypeId} {mp n:Nat} {D:DataW Unit} {a:World} (h:a.ownsMap Tryz.prog k eT mp n D):mp < a.heap.size:=by
 obtain ⟨es,clock,hh,_⟩:=h
 exact (Array.getElem?_eq_some_iff.1 hh).1
theorem pH {k:TypeId} {mp n:Nat} {D:DataW Unit} {a b:World} (h:a.ownsMap Tryz.prog k eT mp n D) (hb:Below a.heap.size a b):b.ownsMap Tryz.prog k eT mp n D:=aB2 h (hb.block mp (aB3 h))
set_option maxHeartbeats 2000000 in
theorem aQs (tb mp nm cn:Nat) (an:Option Addr) (D:DataW Unit) (M:List Tg) (o:Int) (s:ByteArray) (x:Int) (w:World) (c0:w.cell? ⟨tb,0,none⟩=some (.slice an M.length cn)) (c4:w.cell? ⟨tb,4,none⟩=some (.map (some mp)))
  (hown:w.ownsMap Tryz.prog 100 eT mp nm D) (hD:lP D M) (hn:nm≤M.length) (hM:M.length≤1000000) (ho : -1000000000≤o∧o≤1000000000) (hx : -1000000000≤x∧x≤1000000000) :
  Calls Tryz.prog 24 #[.pointer (some ⟨tb,0,none⟩),.int .i64 o,.agg #[.string s,.int .i64 x]] w fun e w'=>∃nm' D',e=.returned (.int .i64 (lO M o (s,x)))∧w'.ownsMap Tryz.prog 100 eT mp nm' D'∧lP D' (M++[(o,(s,x))])∧nm'≤M.length+1∧w.grownBy w' (some mp):=by
 have htb:tb < w.heap.size:=World.block_lt_of_cell? w _ c4
 have CV:=aA (fun wx=>nK s x wx)
 by_cases hv:s.toList.isEmpty=true
 ·have hvb:aG (s,x)=true:=hv
  rw [hv] at CV
  obtain ⟨kl,hkey⟩:=aQq o x ho hx
  have HO:=aA hown
  have HD:=aA hD
  have HK:=aA hkey
  clear hown hD hv ho hx
  go_enter Tryz.func24,Tryz.ntmps24
  go_wp2_with (first
   | (go_at_call 44;refine (aB CV _).mono ?_;rintro e w1 ⟨rfl,hb1⟩;have hb:Below w.heap.size w w1:=((Below.refl _ _).alloc (Nat.le_refl _) _).trans (hb1.mono (by simp));have k0:=Below.at' hb (Nat.le_refl _) c0;have k4:=Below.at' hb (Nat.le_refl _) c4;have x1:w1.cell? ⟨w.heap.size,1,none⟩=some (.int .i64 x):=Below.at' hb1 (Nat.le_refl _) (by simp);have HB:=aA hb;clear hb hb1)
   | go_in)
  have hbk:Below w1.heap.size w1 (w1.alloc (.cells #[.int .i64 o,.int .i64 x] 100)):=(Below.refl _ _).alloc (Nat.le_refl _) _
  have q0:=Below.at' hbk (Nat.le_refl _) k0
  have q4:=Below.at' hbk (Nat.le_refl _) k4
  have hwk:w.heap.size≤w1.heap.size:=HB.out.size
  have HB2:=aA (HB.out.trans (hbk.mono hwk))
  have v0:(w1.alloc (.cells #[.int .i64 o,.int .i64 x] 100)).cell? ⟨w1.heap.size,0,none⟩=some (.int .i64 o):=by simp
  have v1:(w1.alloc (.cells #[.int .i64 o,.int .i64 x] 100)).cell? ⟨w1.heap.size,1,none⟩=some (.int .i64 x):=by simp
  generalize w1.alloc (.cells #[.int .i64 o,.int .i64 x] 100)=w2 at *
  have HO2:=aA (pH HO.out HB2.out)
  clear k0 k4 x1 hbk hkey c0 c4
  cases hf:gX M o x with
  | some p=>
   have hol:=HD.out.old o x kl p HK.out hf
   have HR:Hid (lO M o (s,x)=p):=aA (by unfold lO;rw [hvb];simp [hf])
   have HD2:=aA (HD.out.skip (p:=(o,(s,x))) (Or.inr (by simp [hf])))
   have hrun:∀wx:World,wx.ownsMap Tryz.prog 100 eT mp nm D→(Instr.lookup 58 (.map (some mp)) (.agg #[.int .i64 o,.int .i64 x]) true).run Tryz.prog wx=.ok (.tuple #[.int .i64 p,.bool true]) wx:=fun wx hx=>by
    obtain ⟨v,ps,h1,h2⟩:=hx.look_ok uP Tryz.underlying58 (Tryz.zeroValue3 _) (zd:=.lit (.int .i64 0)) (zp:=[]) rfl HK.out
    rw [hol.2] at h2
    have h3:=wO h2
    subst h3
    rw [hol.1] at h1
    exact h1
   have hr0:=hrun w2 HO2.out
   have hr1:=fun d=>hrun (w2.drewN d) (pH HO2.out (aN ⟨d,rfl⟩))
   clear hol hf hvb hrun
   go_quiet (fail)
   go_wp2
   go_ret
   have hb3:=HB2.out.trans ((aN (w1:=w2.drewN nq) ⟨nq,rfl⟩).mono HB2.out.size)
   exact ⟨nm,D,tM (by rw [HR.out]),pH HO.out hb3,HD2.out,by omega,fH hb3⟩
  | none=>
   have hnw:=HD.out.new o x kl HK.out hf
   have HR:Hid (lO M o (s,x)=M.length):=aA (by unfold lO;rw [hvb];simp [hf])
   have HD2:=aA (HD.out.put hvb hf HK.out)
   have hrun:∀wx:World,wx.ownsMap Tryz.prog 100 eT mp nm D→(Instr.lookup 58 (.map (some mp)) (.agg #[.int .i64 o,.int .i64 x]) true).run Tryz.prog wx=.ok (.tuple #[.int .i64 0,.bool false]) wx:=fun wx hx=>by
    obtain ⟨v,ps,h1,h2⟩:=hx.look_ok uP Tryz.underlying58 (Tryz.zeroValue3 _) (zd:=.lit (.int .i64 0)) (zp:=[]) rfl HK.out
    rw [wN HD.out.tidy.isMap hnw] at h2
    have h3:=wO h2
    subst h3
    rw [hnw] at h1
    exact h1
   have hr0:=hrun w2 HO2.out
   have hr1:=fun d=>hrun (w2.drewN d) (pH HO2.out (aN ⟨d,rfl⟩))
   clear hnw hf hvb hrun
   go_quiet (fail)
   go_wp2
   obtain ⟨w3,hr3,hown3,hg3⟩:=(pH HO2.out (aN (w1:=w2.drewN (nq+1)) ⟨_,rfl⟩)).update uP Tryz.underlying58 (by unfold maxLen;omega) (key:=.agg #[.int .i64 o,.int .i64 x]) (val:=.int .i64 M.length) (aB HK) (d:=.lit (.int .i64 M.length)) (ps:=[]) rfl
   have HO3:=aA hown3
   have HG3:=aA hg3
   clear hown3 hg3 hr0 hr1
   go_region
   all_goals
    go_wp2
    go_ret
    exact ⟨nm+1,_,tM (by rw [HR.out]),HO3.out,HD2.out,by omega,(fH (HB2.out.trans ((aN (w1:=w2.drewN (nq+1)) ⟨_,rfl⟩).mono HB2.out.size))).trans HG3.out⟩
 ·have hvb:aG (s,x)=false:=by simpa [aG] using hv
  rw [show s.toList.isEmpty=false by simpa using hv] at CV
  have HR:Hid (lO M o (s,x)=M.length):=aA (by unfold lO;rw [hvb];rfl)
  have HD:=aA (hD.skip (p:=(o,(s,x))) (Or.inl hvb))
  have HO:=aA hown
  clear hown hD hv hvb ho hx
  go_enter Tryz.func24,Tryz.ntmps24
  go_wp2_with (first
   | (go_at_call 44;refine (aB CV _).mono ?_;rintro e w1 ⟨rfl,hb1⟩;have HB1:=aA hb1;clear hb1)
   | go_in)
  go_ret
  have hb:Below w.heap.size w w1:=((Below.refl _ _).alloc (Nat.le_refl _) _).trans (HB1.out.mono (by simp))
  exact ⟨nm,D,tM (by rw [HR.out]),pH HO.out hb,HD.out,by omega,fH hb⟩
end Go.Proofs.YthicbnejchpmgaaGreatDoor
