/- The program: the clauses are brought to order. Pure: the places of a text are the uses of its names; its variables' numbers; its sizes. The program: Read. The program's Read from outside; the answer is one. The search is started: each clause of the text comes to wait. -/
import Derived.Test.YtbddofieljiihaaGreatDoorGLitsI
import Derived.Test.YtbddofieljiihaaGreatDoorXSr3I
import Derived.Test.YtbddofieljiihaaGreatDoorXSr5I
namespace Go.Proofs.YtbddofieljiihaaGreatDoor
open Go.RowKit Go.WideMaps
set_option maxRecDepth 100000
def aM8 (CV:List Pc) (w:World) (e:Ending) (w':World):Prop:=
 ∃v QV at' er,e=.returned (.tuple #[v,.int .i64 at',.int .i64 er])∧wY (CV.map gJ) (QV.map fun p=>p.1.map Prod.fst) at' er∧jB w.heap.size w' v QV∧Below w.heap.size w w'
structure zD (CV:List Pc) (w:World) (k:Nat) (v:Value) (wr:World) (QV:List (List (Lt×Value)×Value)):Prop where
 le:k≤CV.length
 made:QV.map (fun p=>p.1.map Prod.fst)=(CV.take k).map fun p=>aS (p.1.2.map Prod.fst)
 good:∀j h,j < k→¬nX (CV.map gJ) j h
 mem:jB w.heap.size wr v QV
 low:Below w.heap.size w wr
theorem aDl {CV:List Pc} {k:Nat} (h:k < CV.length) (h':k < (CV.map gJ).length):nX (CV.map gJ) k h'↔(40≤k∨dQ (aS (CV[k].1.2.map Prod.fst))=false):=by
 unfold nX
 rw [List.getElem_map]
 exact Iff.rfl
theorem aM9 {α:Type} {f:α→Option Nat} {l:List α} (h:(l.map f).Nodup):(l.filterMap f).Nodup:=by
 unfold List.Nodup at h ⊢
 rw [List.pairwise_map] at h
 refine List.Pairwise.filterMap f (fun a a' hr b hb b' hb' e=>hr ?_) h
 subst e
 rw [hb,hb']
section
variable {CV:List Pc} {w wr:World} {k:Nat} {v:Value} {QV:List (List (Lt×Value)×Value)}
theorem aDm {w1 w2:World} {B:Nat} {c:List Lt} {vo:Value} {nb:Nat} {Q:List (Lt×Value)} (hO:sI w1 c vo nb Q w2) (hB:B≤w1.heap.size) (hs:∀x∈c,dI x.2) (hc:aN c≤100000) (hl:c.length≤100000) :
  nW w2 B (Q,vo)∧((∀q∈Q,dI q.1.2)∧aN (Q.map Prod.fst)≤1000000∧Q.length≤1000000)∧bP w2 (some ⟨nb,0,none⟩) (aS c):=by
 obtain ⟨o1,o2,o3⟩:=aRg c hs
 have hql:Q.length=(aS c).length:=by rw [←hO.made];simp
 have hr:nW w2 B (Q,vo):=by
  refine ⟨?_,fun q hq=>fS (hO.atoms q hq) hB⟩
  rw [hO.val,hql]
  exact fS hO.row hB
 have hsh:∀q∈Q,dI q.1.2:=fun q hq=>o1 q.1 (by rw [←hO.made];exact List.mem_map.2 ⟨q,hq,rfl⟩)
 have hct:aN (Q.map Prod.fst)≤1000000:=by rw [hO.made];omega
 refine ⟨hr,⟨hsh,hct,by omega⟩,?_⟩
 obtain ⟨a,cap,hv,hlit⟩:=aAu (P:=Q) hr.1 hr.2 hsh hct (by omega)
 rw [hO.val] at hv
 simp at hv
 rw [←hO.made]
 rw [hv.1]
 exact hlit
theorem aMa {w2 w3 w4:World} {c:List Lt} {vo v':Value} {nb:Nat} {Q:List (Lt×Value)} {X Y:Obj} (h:zD CV w k v wr QV) (hk:k < CV.length) (hcv:CV[k].1.2.map Prod.fst=c) (hO:sI (wr.alloc X) c vo nb Q w2) (hb3:Below w2.heap.size w2 w3) (hs:∀x∈c,dI x.2) (hc:aN c≤100000) (hl:c.length≤100000) (hgood:k < 40∧dQ (aS c)=true) (ho:w4.ownsRow w.heap.size 24 1 v' (QV.length+1) (QV.map Prod.snd++[vo])) (hg:(w3.alloc Y).grownBy w4 v.ownBlock) :
  zD CV w (k+1) v' w4 (QV++[(Q,vo)]):=by
 have hz:=h.low.size
 have hA:=(Below.refl wr.heap.size wr).alloc (Nat.le_refl _) X
 have hz2:=hO.low.size
 have hz3:=hb3.size
 have hn3:Below w2.heap.size w2 (w3.alloc Y):=hb3.alloc hz3 Y
 simp at hz2
 have hch:Below wr.heap.size wr (w3.alloc Y):=(hA.trans (hO.low.mono (by simp))).trans (hn3.mono (by omega))
 have hrow:=aZ h.mem.mem.1 hch (Nat.le_refl _)
 obtain ⟨hcl,hsm,_⟩:=aDm (B:=w.heap.size) hO (by simp;omega) hs hc hl
 have hvb:vo.ownBlock=some nb:=by rw [hO.val];rfl
 have hnb:wr.heap.size < nb+1:=by
  have:=(bY hO.row nb rfl).1
  simp at this
  omega
 refine ⟨hk,?_,fun j hj hjk=>?_,⟨⟨?_,fun p hp=>?_⟩,?_,?_⟩,?_⟩
 ·rw [List.map_append,h.made,List.map_singleton,List.take_succ_eq_append_getElem hk,List.map_append,List.map_singleton,hO.made,hcv]
 ·by_cases hjk':j=k
  ·subst hjk'
   rw [aDl hk,hcv,hgood.2]
   rintro (h1 | h1)
   ·omega
   ·simp at h1
  ·exact h.good j hj (by omega)
 ·rw [List.length_append,List.map_append,List.map_singleton]
  exact ho
 ·rcases List.mem_append.1 hp with hp | hp
  ·obtain ⟨h1,h2⟩:=h.mem.mem.2 p hp
   refine ⟨⟨?_,fun q hq=>?_⟩,h2⟩
   ·have:=aZ h1.1 hch (Nat.le_refl _)
    exact this.kept hg (eV this hrow (by decide))
   ·have:=aZ (h1.2 q hq) hch (Nat.le_refl _)
    exact this.kept hg (eV this hrow (by decide))
  ·simp at hp
   subst hp
   refine ⟨⟨?_,fun q hq=>?_⟩,hsm⟩
   ·have:=aZ hcl.1 hn3 (Nat.le_refl _)
    exact this.kept hg (eV this hrow (by decide))
   ·have:=aZ (hcl.2 q hq) hn3 (Nat.le_refl _)
    exact this.kept hg (eV this hrow (by decide))
 ·rw [List.map_append,List.map_singleton,List.nodup_append]
  refine ⟨h.mem.once,by simp,fun a ha b hb=>?_⟩
  simp at hb
  subst hb
  obtain ⟨p,hp,rfl⟩:=List.mem_map.1 ha
  rw [hvb]
  intro e
  have:=(bY (h.mem.mem.2 p hp).1.1 nb e).2
  omega
 ·rw [List.flatMap_append,List.flatMap_singleton,List.nodup_append]
  refine ⟨h.mem.atoms,aM9 hO.once,fun a ha b hb=>?_⟩
  obtain ⟨p,hp,ha⟩:=List.mem_flatMap.1 ha
  obtain ⟨q,hq,hqa⟩:=List.mem_filterMap.1 ha
  obtain ⟨q',hq',hqb⟩:=List.mem_filterMap.1 hb
  intro e
  subst e
  have h1:=(bY ((h.mem.mem.2 p hp).1.2 q hq) a hqa).2
  have h2:=(bY (hO.atoms q' hq') a hqb).1
  simp at h2
  omega
 ·exact (h.low.trans (hch.mono hz)).grown hg (by have:=hch.size;omega) (fun j e=>(bY hrow j e).1)
set_option maxHeartbeats 4000000 in
theorem aMb {B:Nat} {vC:Value} (h:eO B w vC CV) (hs:∀p∈CV,zC p) (hv:∀p∈CV,∀q∈p.1.2,sG q.1.2) (hl:CV.length≤1000000) :
  Calls Tryz.prog 28 #[vC] w fun e w'=>aM8 CV w e w':=by
 obtain ⟨iM,hM,hM0,hM1,hM2⟩:=info_parts aR9
 obtain ⟨va,vac,rfl⟩:=aR h.row
 have HH:=aA h
 have HS:=aA hs
 have HV:=aA hv
 clear h hs hv
 go_enter Tryz.func28,Tryz.ntmps28
 go_wp2
 go_loopw [5,11] (fun o i wr=>∃(k:Nat) (QV:List (List (Lt×Value)×Value)),i=.int .i64 k∧zD CV w k o wr QV) (fun _ i _=>CV.length - (intOf i).toNat)
 case atStart=>exact ⟨0,[],rfl,⟨Nat.zero_le _,rfl,fun j h hj=>by omega,jB.nil _ _,Below.refl _ _⟩⟩
 case round=>
  obtain ⟨k,QV,rfl,hL⟩:=hrel
  have hk:=hL.le
  have hz:=hL.low.size
  obtain ⟨oa,oc,rfl⟩:=aR hL.mem.mem.1
  have hQl:QV.length=k:=by
   have:=congrArg List.length hL.made
   simp at this
   omega
  have hq1:QV.length≤1000000:=by omega
  clear hQl
  by_cases hlt:k < CV.length
  ·have hm:CV[k]∈CV:=List.getElem_mem _
   have hsm:=HS.out _ hm
   obtain ⟨aa,cap,hv,hlit⟩:=aAu (P:=CV[k].1.2) (HH.out.each _ hm).1 (HH.out.each _ hm).2 hsm.short (by have:=hsm.count;omega) (by have:=hsm.len;omega)
   obtain ⟨gC,cC,hva⟩:=sM HH.out.row (by omega)
   simp at hva
   obtain ⟨rfl,rfl⟩:=hva
   have e1:w.cell? ⟨gC,k * 2,none⟩=some (.int .i64 CV[k].1.1):=by rw [HH.out.row.cellAt _ (by omega),(vW CV k hlt).1]
   have e2:w.cell? ⟨gC,k * 2+1,none⟩=some (.slice aa CV[k].1.2.length cap):=by rw [HH.out.row.cellAt _ (by omega),(vW CV k hlt).2,hv]
   have f1:=Below.at' hL.low (Nat.le_refl _) e1
   have f2:=Below.at' hL.low (Nat.le_refl _) e2
   have hcnt:=hsm.count
   have hln:=hsm.len
   have hpl:(CV[k].1.2.map Prod.fst).length=CV[k].1.2.length:=by simp
   rw [←hpl] at f2 hln
   have hsh:∀x∈CV[k].1.2.map Prod.fst,dI x.2:=fun x hx=>by obtain ⟨q,hq,rfl⟩:=List.mem_map.1 hx;exact hsm.short q hq
   have hvo:∀x∈CV[k].1.2.map Prod.fst,sG x.2:=fun x hx=>by obtain ⟨q,hq,rfl⟩:=List.mem_map.1 hx;exact HV.out _ hm q hq
   have hbad:=aDl hlt (by simpa using hlt)
   obtain ⟨c,hcv⟩ : ∃c,CV[k].1.2.map Prod.fst=c:=⟨_,rfl⟩
   obtain ⟨at0,hat⟩ : ∃a,CV[k].1.1=a:=⟨_,rfl⟩
   rw [hcv] at f2 hln hcnt hsh hvo hbad hlit
   rw [hat] at f1
   have HBAD:Hid (40≤k∨dQ (aS c)=false→wY (CV.map gJ) [] at0 4):=aA fun hx=>Or.inl ⟨k,by simpa using hlt,hbad.2 hx,hL.good,rfl,by rw [List.getElem_map];simp [gJ,hat],rfl⟩
   have HPUT:=aA (fun (w2 w3 w4:World) (vo v':Value) (nb:Nat) (Q:List (Lt×Value)) (X Y:Obj) hO hb3 hg ho hgr=>aMa (w2:=w2) (w3:=w3) (w4:=w4) (vo:=vo) (v':=v') (nb:=nb) (Q:=Q) (X:=X) (Y:=Y) hL hlt hcv hO hb3 hsh hcnt hln hg ho hgr)
   have CO:=aA (fun wx (hx:bP wx aa c)=>aEv aa cap c wx hx hvo hcnt hln)
   have HOC:=aA (fun (w1 w2:World) (vo:Value) (nb:Nat) (Q:List (Lt×Value)) (hO:sI w1 c vo nb Q w2)=>(aDm (B:=0) hO (Nat.zero_le _) hsh hcnt hln).2.2)
   have HLI:=aA (hlit.below hL.low (Nat.le_refl _))
   have HR:=aA hL.mem.mem.1
   have HL:=aA hL
   clear e1 e2 hv hsm hm hpl hbad hcv hat hL hlit hsh hvo
   have X0:Hid ((wr.alloc (.cells #[.int .i64 at0,.slice aa c.length cap] 100)).cell? ⟨wr.heap.size,0,none⟩=some (.int .i64 at0)):=aA (by simp)
   by_cases h40:k < 40
   ·cases hfit:dQ (aS c) with
    | false=>
     have HBR:=aA (HBAD.out (Or.inr hfit))
     have CF:=aA (fun wx nb (hx:bP wx (some ⟨nb,0,none⟩) (aS c))=>tY (some ⟨nb,0,none⟩) (aS c).length (aS c) wx hx)
     rw [hfit] at CF
     clear HPUT HBAD hfit
     go_wp2_with (first
      | (go_at_call 29;refine (CF.out _ nb (HOC.out _ _ _ _ _ HO.out)).mono ?_;rintro e w3 ⟨rfl,hb3⟩;have HB3:=aA hb3;have x3:=Below.at' hb3 (Nat.le_refl _) x0;have HR3:=aA (aZ HR2.out hb3 (Nat.le_refl _));have hz3:=hb3.size;clear hb3)
      | (go_at_call 46;refine (CO.out _ (HLI.out.below ((Below.refl _ _).alloc (Nat.le_refl _) _) (Nat.le_refl _))).mono ?_;rintro e w2 ⟨vo,nb,Q,rfl,hO⟩;have hvo:=hO.val;subst hvo;have x0:=Below.at' hO.low (Nat.le_refl _) X0.out;have HO:=aA hO;have HB2:=aA (HL.out.low.trans (((Below.refl wr.heap.size wr).alloc (Nat.le_refl _) (.cells #[.int .i64 at0,.slice aa c.length cap] 100)).mono hz |>.trans (hO.low.mono (by simp;omega))));have HR2:=aA (aZ (HR.out.alloc _) hO.low (Nat.le_refl _));have hz2:=hO.low.size;simp at hz2;clear hO)
      | go_in)
     go_quiet (fail)
     go_wp2
     go_returns
     exact ⟨_,[],at0,4,rfl,HBR.out,jB.nil _ _,(HB2.out.trans (HB3.out.mono (by omega))).trans ((aJ ⟨_,rfl⟩).mono (by omega))⟩
    | true=>
     have CF:=aA (fun wx nb (hx:bP wx (some ⟨nb,0,none⟩) (aS c))=>tY (some ⟨nb,0,none⟩) (aS c).length (aS c) wx hx)
     rw [hfit] at CF
     have HP2:=aA (fun w2 w3 w4 vo v' nb Q X Y hO hb3 ho hgr=>HPUT.out w2 w3 w4 vo v' nb Q X Y hO hb3 ⟨h40,hfit⟩ ho hgr)
     clear HPUT HBAD hfit
     go_wp2_with (first
      | (at_builtin;refine wpList_append_own _ rfl (.tmp 28) (.tmp 30) 38 rfl w.heap.size 24 iM (.slice none 0 0) 1 24 Tryz.underlying38 hM hM0 hM1 hM2 rfl (by decide) _ _ _ rfl (HR3.out.alloc _) ⟨_,0,none⟩ 1 1 [.slice (some ⟨nb,0,none⟩) (aS c).length (aS c).length] rfl rfl (oH w3 _ _ _ rfl) (by intro u hu;simp at hu;subst hu;rfl) (by unfold maxLen;omega) (by omega) (by simp;omega) ?_;intro v4 w4 ho4 hg4 _;have HL4:=aA (HP2.out _ _ _ _ _ _ _ _ _ HO.out HB3.out ho4 hg4);clear ho4 hg4)
      | (go_at_call 29;refine (CF.out _ nb (HOC.out _ _ _ _ _ HO.out)).mono ?_;rintro e w3 ⟨rfl,hb3⟩;have HB3:=aA hb3;have x3:=Below.at' hb3 (Nat.le_refl _) x0;have HR3:=aA (aZ HR2.out hb3 (Nat.le_refl _));have hz3:=hb3.size;clear hb3)
      | (go_at_call 46;refine (CO.out _ (HLI.out.below ((Below.refl _ _).alloc (Nat.le_refl _) _) (Nat.le_refl _))).mono ?_;rintro e w2 ⟨vo,nb,Q,rfl,hO⟩;have hvo:=hO.val;subst hvo;have x0:=Below.at' hO.low (Nat.le_refl _) X0.out;have HO:=aA hO;have HB2:=aA (HL.out.low.trans (((Below.refl wr.heap.size wr).alloc (Nat.le_refl _) (.cells #[.int .i64 at0,.slice aa c.length cap] 100)).mono hz |>.trans (hO.low.mono (by simp;omega))));have HR2:=aA (aZ (HR.out.alloc _) hO.low (Nat.le_refl _));have hz2:=hO.low.size;simp at hz2;clear hO)
      | go_in)
     go_roundw
     case rel=>exact ⟨k+1,_,by go_num,HL4.out⟩
     case measure=>simp [intOf];omega
   ·have HBR:=aA (HBAD.out (Or.inl (by omega)))
    clear HPUT HBAD
    go_wp2_with (first
     | (go_at_call 46;refine (CO.out _ (HLI.out.below ((Below.refl _ _).alloc (Nat.le_refl _) _) (Nat.le_refl _))).mono ?_;rintro e w2 ⟨vo,nb,Q,rfl,hO⟩;have hvo:=hO.val;subst hvo;have x0:=Below.at' hO.low (Nat.le_refl _) X0.out;have HO:=aA hO;have HB2:=aA (HL.out.low.trans (((Below.refl wr.heap.size wr).alloc (Nat.le_refl _) (.cells #[.int .i64 at0,.slice aa c.length cap] 100)).mono hz |>.trans (hO.low.mono (by simp;omega))));have HR2:=aA (aZ (HR.out.alloc _) hO.low (Nat.le_refl _));have hz2:=hO.low.size;simp at hz2;clear hO)
     | go_in)
    go_quiet (fail)
    go_wp2
    go_returns
    exact ⟨_,[],at0,4,rfl,HBR.out,jB.nil _ _,HB2.out.trans ((aJ ⟨_,rfl⟩).mono (by omega))⟩
  ·have hk':k=CV.length:=by omega
   have HF:Hid (wY (CV.map gJ) (QV.map fun p=>p.1.map Prod.fst) 0 0):=aA (Or.inr ⟨fun j hj=>hL.good j hj (by simp at hj;omega),by rw [hL.made,hk',List.take_length,List.map_map];rfl,rfl,rfl⟩)
   have HL:=aA hL
   clear hL hk'
   go_wp2
   go_returns
   exact ⟨_,QV,0,0,rfl,HF.out,HL.out.mem,HL.out.low⟩
end
def gV:Nat→List Nd→List Us
 | _,[]=>[]
 | k,n :: r=>kZ k n++gV (k+1) r
theorem aDn (a b:List Nd):∀k,gV k (a++b)=gV k a++gV (k+a.length) b:=by
 induction a with
 | nil=>intro k;simp [gV]
 | cons x r ih=>intro k;simp only [List.cons_append,gV,ih,List.append_assoc,List.length_cons];rw [show k+1+r.length=k+(r.length+1) by omega]
theorem aMc (l:List Nd):∀k,k≤l.length→gW l k=gV 0 (l.take k):=by
 intro k
 induction k with
 | zero=>intro _;simp [gW,gV]
 | succ k ih=>
  intro hk
  rw [aEa l k hk,ih (by omega),List.take_succ_eq_append_getElem hk,aDn]
  simp [gV,Nat.min_eq_left (show k≤l.length by omega)]
theorem aMd (c:List Lt):∀k,k≤c.length→lA c k=(c.take k).flatMap fun x=>gV 0 x.2:=by
 intro k
 induction k with
 | zero=>intro _;simp [lA]
 | succ k ih=>
  intro hk
  rw [zV c k hk,ih (by omega),List.take_succ_eq_append_getElem hk,List.flatMap_append,List.flatMap_singleton,aMc _ _ (Nat.le_refl _),List.take_length]
theorem vZ (c:List Lt):nR c=c.flatMap fun x=>gV 0 x.2:=by
 unfold nR
 rw [aMd c _ (Nat.le_refl _),List.take_length]
def kV (m:Nat) (l:List Nd):Prop:=∀n∈l,aH n=true→0≤n.2∧n.2≤m
theorem kV.mono {m m':Nat} {l:List Nd} (h:kV m l) (hm:m≤m'):kV m' l:=fun n hn hv=>by have:=h n hn hv;omega
theorem kV.append {m:Nat} {a b:List Nd} (h:kV m a) (k:kV m b):kV m (a++b):=fun n hn=>by
 rcases List.mem_append.1 hn with hn | hn
 ·exact h n hn
 ·exact k n hn
theorem aDo (l:List ByteArray) (x:ByteArray):0≤kF l x∧kF l x≤(nH l x).length:=by
 have:=aPq l x
 unfold kF nH
 split
 ·simp;omega
 ·omega
theorem aDp {α:Type} (f:α→α) (p:α) (b:List α):∀a:List α,(a++[p]++b).modify a.length f=a++[f p]++b:=by
 intro a
 induction a with
 | nil=>rfl
 | cons x r ih=>simp only [List.cons_append,List.length_cons,List.modify_succ_cons,ih]
theorem aDq (a b:List Pl) (p:Pl) (n:Nat):nV (a++[p]++b) a.length n=a++[(p.1,p.2.1,(n:Int),p.2.2.2)]++b:=aDp _ _ _ _
theorem aDr (a b:List Nd) (p:Nd) (n:Nat):dF (a++[p]++b) a.length n=a++[(p.1,(n:Int))]++b:=aDp _ _ _ _
structure aDs (st st':aV) (l l':List Nd) (Q:List Pl) (M:List Nd):Prop where
 pl:st'.places=st.places++Q
 nd:l'=l++M
 us:Q.map lB=gV l.length M
 vs:kV st'.vars.length M
 ps:∀p∈Q,0≤p.2.2.2
theorem aMe {T:List Tk} (hN:∀i,(aD T i).kind=110→(aD T i).txt.toList.isEmpty=false):∀f,(∀atom st l st' l',bZ T f atom st l=.ok (st',l')→atom=decide (l.length=0)→∃Q M,aDs st st' l l' Q M)∧
  (∀st l n st' l' n',dN T f st l n=.ok (st',l',n')→0 < l.length→∃Q M,aDs st st' l l' Q M):=by
 intro f
 induction f with
 | zero=>exact ⟨fun atom st l st' l' h=>by simp [bZ] at h,fun st l n st' l' n' h=>by simp [dN] at h⟩
 | succ f ih=>
  obtain ⟨ih1,ih2⟩:=ih
  constructor
  ·intro atom st l st' l' h ha
   rw [bZ] at h
   split at h
   ·simp only [Except.ok.injEq,Prod.mk.injEq] at h
    obtain ⟨rfl,rfl⟩:=h
    refine ⟨[],[(⟨#[]⟩,kF st.vars (aD T st.i).txt)],by simp,rfl,?_,?_,fun p hp=>by simp at hp⟩
    ·simp [gV,kZ,aH]
    ·intro n hn _
     simp at hn
     subst hn
     exact aDo _ _
   ·split at h
    ·simp at h
    ·rename_i hk110
     simp only [ne_eq,Decidable.not_not] at hk110
     have hne:=hN _ hk110
     have huse:∀m:Int,kZ l.length ((aD T st.i).txt,m)=[((aD T st.i).txt,atom,m)]:=by
      intro m
      unfold kZ aH
      simp only
      rw [hne,ha]
      rfl
     have hvar:∀m:Int,aH ((aD T st.i).txt,m)=false:=fun m=>hne
     split at h
     ·split at h
      ·simp at h
      ·rename_i st1 l1 n1 hq
       simp only [Except.ok.injEq,Prod.mk.injEq] at h
       obtain ⟨rfl,rfl⟩:=h
       obtain ⟨Q,M,hp⟩:=ih2 _ _ _ _ _ _ hq (by simp)
       have hpl:=hp.pl
       have hnd:=hp.nd
       have hus:=hp.us
       have hps:=hp.ps
       simp only at hpl
       refine ⟨((aD T st.i).txt,atom,(n1:Int),((aD T st.i).pos:Int)) :: Q,((aD T st.i).txt,(n1:Int)) :: M,?_,?_,?_,?_,fun p hp=>?_⟩
       ·simp only
        rw [hpl,aDq]
        simp
       ·rw [hnd,aDr]
        simp
       ·rw [List.map_cons,hus,gV,huse]
        simp [lB]
       ·intro n hn hv
        rcases List.mem_cons.1 hn with rfl | hn
        ·rw [hvar] at hv;cases hv
        ·exact hp.vs n hn hv
       ·rcases List.mem_cons.1 hp with rfl | hp
        ·simp
        ·exact hps p hp
     ·simp only [Except.ok.injEq,Prod.mk.injEq] at h
      obtain ⟨rfl,rfl⟩:=h
      refine ⟨[((aD T st.i).txt,atom,0,((aD T st.i).pos:Int))],[((aD T st.i).txt,0)],rfl,rfl,?_,?_,fun p hp=>by simp at hp;subst hp;simp⟩
      ·rw [gV,huse]
       rfl
      ·intro n hn hv
       simp at hn
       subst hn
       rw [hvar] at hv
       cases hv
  ·intro st l n st' l' n' h hl
   rw [dN] at h
   split at h
   ·simp at h
   ·rename_i st1 l1 hp
    obtain ⟨Q,M,q⟩:=ih1 _ _ _ _ _ hp (decide_eq_false (by omega)).symm
    have hon:=(sK T f).1 _ _ _ _ _ hp
    have q1:=q.pl
    have q2:=q.nd
    have q3:=q.us
    simp only at q1
    split at h
    ·have hl1:0 < l1.length:=by omega
     have hon2:=(sK T f).2 _ _ _ _ _ _ h
     obtain ⟨Q2,M2,r⟩:=ih2 _ _ _ _ _ _ h hl1
     refine ⟨Q++Q2,M++M2,?_,?_,?_,?_,fun p hp=>(List.mem_append.1 hp).elim (q.ps p) (r.ps p)⟩
     ·rw [r.pl,q1,List.append_assoc]
     ·rw [r.nd,q2,List.append_assoc]
     ·rw [List.map_append,q3,r.us,aDn,q2,List.length_append]
     ·exact (q.vs.mono (by omega)).append r.vs
    ·split at h
     ·simp only [Except.ok.injEq,Prod.mk.injEq] at h
      obtain ⟨rfl,rfl,rfl⟩:=h
      exact ⟨Q,M,q1,q2,q3,q.vs,q.ps⟩
     ·simp at h
theorem aMf {T:List Tk} (hN:∀i,(aD T i).kind=110→(aD T i).txt.toList.isEmpty=false):∀f st c st' c',fG T f st c=.ok (st',c')→(∀x∈c,kV st.vars.length x.2)→∃Q C,st'.places=st.places++Q∧c'=c++C∧Q.map lB=nR C∧(∀x∈c',kV st'.vars.length x.2)∧st.vars.length≤st'.vars.length∧st.i≤st'.i∧st'.vars.length+st.i≤st.vars.length+st'.i∧∀p∈Q,0≤p.2.2.2:=by
 intro f
 induction f with
 | zero=>intro st c st' c' h;simp [fG] at h
 | succ f ih=>
  intro st c st' c' h hv
  cases hq:bZ T (T.length+1) true (iH T st) [] with
  | error p=>rw [aAv hq] at h;simp at h
  | ok r=>
   obtain ⟨s2,l2⟩:=r
   obtain ⟨q1,q2,q3,q4⟩:=aAy T st
   obtain ⟨Q,M,hp⟩:=(aMe hN (T.length+1)).1 _ _ _ _ _ hq rfl
   have hon:=(sK T (T.length+1)).1 _ _ _ _ _ hq
   have hpl:=hp.pl
   have hnd:=hp.nd
   have hus:=hp.us
   rw [q4] at hpl
   rw [q3] at hon
   simp only [List.nil_append] at hnd
   subst hnd
   have hv2:∀x∈c++[(decide ((aD T st.i).kind=126),l2)],kV s2.vars.length x.2:=by
    intro x hx
    rcases List.mem_append.1 hx with hx | hx
    ·exact (hv x hx).mono (by omega)
    ·simp at hx;subst hx;exact hp.vs
   by_cases hk:(aD T s2.i).kind=124
   ·rw [aAw hq hk] at h
    obtain ⟨Q2,C2,r1,r2,r3,r4,r5,r6,r7,r8⟩:=ih _ _ _ _ h hv2
    simp only at r1 r5 r6 r7
    refine ⟨Q++Q2,(decide ((aD T st.i).kind=126),l2) :: C2,?_,?_,?_,r4,by omega,by omega,by omega,fun p hq'=>(List.mem_append.1 hq').elim (hp.ps p) (r8 p)⟩
    ·rw [r1,hpl,List.append_assoc]
    ·rw [r2,List.append_assoc];rfl
    ·rw [List.map_append,hus,r3,vZ,vZ,List.flatMap_cons];rfl
   ·rw [aAx hq hk] at h
    simp only [Except.ok.injEq,Prod.mk.injEq] at h
    obtain ⟨rfl,rfl⟩:=h
    refine ⟨Q,[(decide ((aD T st.i).kind=126),l2)],hpl,rfl,?_,hv2,by omega,by omega,by omega,hp.ps⟩
    rw [hus,vZ,List.flatMap_singleton]
    rfl
theorem aMg {T:List Tk} (hN:∀i,(aD T i).kind=110→(aD T i).txt.toList.isEmpty=false) {st st':aV} {c:List Lt} (h:kH T st=.ok (st',c)):∃Q,st'.places=st.places++Q∧Q.map lB=nR c∧(∀x∈c,kV st'.i x.2)∧∀p∈Q,0≤p.2.2.2:=by
 unfold kH at h
 cases hq:kG T st with
 | error p=>rw [hq] at h;simp at h
 | ok r=>
  obtain ⟨s1,c1⟩:=r
  rw [hq] at h
  simp only at h
  split at h
  ·simp only [Except.ok.injEq,Prod.mk.injEq] at h
   obtain ⟨rfl,rfl⟩:=h
   unfold kG at hq
   split at hq
   ·simp only [Except.ok.injEq,Prod.mk.injEq] at hq
    obtain ⟨rfl,rfl⟩:=hq
    exact ⟨[],by simp,rfl,fun x hx=>by simp at hx,fun p hp=>by simp at hp⟩
   ·obtain ⟨Q,C,r1,r2,r3,r4,r5,r6,r7,r8⟩:=aMf hN _ _ _ _ _ hq (fun x hx=>by simp at hx)
    simp only [List.nil_append] at r2
    subst r2
    simp only [List.length_nil] at r7
    exact ⟨Q,r1,r3,fun x hx=>(r4 x hx).mono (by simp;omega),r8⟩
  ·simp at h
structure aDt (T:List Tk) (c:List Lt):Prop where
 short:∀x∈c,dI x.2
 count:aN c≤T.length
 len:c.length≤T.length
 vars:∀x∈c,kV T.length x.2
theorem aMh {L T:List Tk} {brk:Int} (ht:TL L T brk) (hx:uG L T) (hN:∀i,(aD T i).kind=110→(aD T i).txt.toList.isEmpty=false):∀f st cs st' cs',gM T f st cs=.ok (st',cs')→st.i < T.length→∃Q C,st'.places=st.places++Q∧cs'=cs++C∧Q.map lB=(C.flatMap fun p=>nR p.2)∧(∀p∈C,aDt T p.2)∧st'.i < T.length∧st.i+C.length≤st'.i∧st'.places.length+st.i≤st.places.length+st'.i∧∀p∈Q,0≤p.2.2.2:=by
 intro f
 induction f with
 | zero=>intro st cs st' cs' h;simp [gM] at h
 | succ f ih=>
  intro st cs st' cs' h hi
  rw [gM] at h
  split at h
  ·simp only [Except.ok.injEq,Prod.mk.injEq] at h
   obtain ⟨rfl,rfl⟩:=h
   exact ⟨[],[],by simp,by simp,rfl,fun p hp=>by simp at hp,hi,by simp,by omega,fun p hp=>by simp at hp⟩
  ·split at h
   ·simp at h
   ·rename_i s1 c hq
    obtain ⟨o1,o2,o3,o4,o5,o6,o7⟩:=aFr ht hx hq hi
    obtain ⟨Q,p1,p2,p3,p4⟩:=aMg hN hq
    obtain ⟨Q2,C,r1,r2,r3,r4,r5,r6,r7,r8⟩:=ih _ _ _ _ h o3
    refine ⟨Q++Q2,((aD T st.i).pos,c) :: C,?_,?_,?_,?_,r5,by simp;omega,by omega,fun p hp=>(List.mem_append.1 hp).elim (p4 p) (r8 p)⟩
    ·rw [r1,p1,List.append_assoc]
    ·rw [r2,List.append_assoc];rfl
    ·rw [List.map_append,p2,r3,List.flatMap_cons]
    ·intro p hp
     rcases List.mem_cons.1 hp with rfl | hp
     ·exact ⟨o1,o4,o5,fun x hx=>(p3 x hx).mono (by omega)⟩
     ·exact r4 p hp
theorem aDu {x:ByteArray} (h:0 < x.size):x.toList.isEmpty=false:=by
 cases he:x.toList.isEmpty with
 | false=>rfl
 | true=>
  rw [List.isEmpty_iff] at he
  have:x=⟨#[]⟩:=vH.1 (by rw [he];simp)
  subst this
  rw [sN] at h
  omega
theorem aDv {x:ByteArray} (h:dW x=true):0 < x.size:=by
 rcases Nat.eq_zero_or_pos x.size with hx | hx
 ·unfold dW at h
  rw [yD _ _ _ _ (by omega)] at h
  simp at h
 ·exact hx
theorem aMi (s:ByteArray):∀f name p n e,eI s f name p=some (n,e)→0 < n.size:=by
 intro f
 induction f with
 | zero=>intro name p n e h;simp [eI] at h
 | succ f ih=>
  intro name p n e h
  rw [eI] at h
  split at h
  ·split at h
   ·split at h
    ·rename_i hn
     simp only [Option.some.injEq,Prod.mk.injEq] at h
     rw [←h.1]
     exact aDv hn
    ·simp at h
   ·split at h
    ·split at h
     ·exact ih _ _ _ _ h
     ·simp at h
    ·split at h
     ·simp at h
     ·exact ih _ _ _ _ h
  ·simp at h
theorem aMj {s:ByteArray} {k e:Nat} {t:Tk} (hk:k < s.size) (h:dZ s k=.tok t e) (h110:t.kind=110):0 < t.txt.size:=by
 unfold dZ at h
 split at h
 ·rename_i hl
  split at h
  ·cases h
  ·simp only [Nx.tok.injEq] at h
   rw [←h.1]
   simp only
   have hin:=yZ hl
   have hr:=wQ hk hin
   have hb:=aAf s (s.size - (k+1)) (k+1)
   have hb2:k+1≤dH s (k+1)∧(k+1≤s.size→dH s (k+1)≤s.size):=hb
   rw [hr,ByteArray.size_extract]
   omega
 ·split at h
  ·split at h
   ·rename_i n e' hq
    simp only [Nx.tok.injEq] at h
    rw [←h.1]
    exact aMi s _ _ _ _ _ hq
   ·cases h
  ·split at h
   ·split at h
    ·simp only [Nx.tok.injEq] at h
     rw [←h.1] at h110
     simp at h110
    ·cases h
   ·split at h
    ·rename_i hm
     simp only [Nx.tok.injEq] at h
     rw [←h.1] at h110
     simp only at h110
     rw [h110] at hm
     simp [nF] at hm
    ·cases h
theorem aMk (s:ByteArray):∀f k,∀t∈(bU s f k).1,t.kind=110→0 < t.txt.size:=by
 intro f
 induction f with
 | zero=>intro k;simp [bU]
 | succ f ih=>
  intro k
  rw [bU]
  split
  ·rename_i hk
   split
   ·exact ih _
   ·split
    ·exact ih _
    ·split
     ·rename_i t e ht
      intro u hu
      rcases List.mem_cons.1 hu with rfl | hu
      ·exact aMj hk ht
      ·exact ih _ u hu
     ·simp
  ·intro t ht h110
   simp at ht
   rw [ht] at h110
   simp at h110
theorem aMl (s:ByteArray) (q i:Nat) (h:(aD (dR s q) i).kind=110):(aD (dR s q) i).txt.toList.isEmpty=false:=by
 refine aDu ?_
 have key:∀t∈dR s q,t.kind=110→0 < t.txt.size:=by
  intro t ht
  unfold dR dM at ht
  rcases List.mem_append.1 ht with ht | ht
  ·exact aMk s _ _ t ht
  ·generalize (bU s (s.size+1 - q) q).2=b at ht
   cases b with
   | none=>simp at ht
   | some p=>
    simp at ht
    rw [ht]
    intro h
    simp at h
 unfold aD at h ⊢
 by_cases hl:i < (dR s q).length
 ·rw [List.getD_eq_getElem?_getD,List.getElem?_eq_getElem hl,Option.getD_some] at h ⊢
  exact key _ (List.getElem_mem _) h
 ·rw [List.getD_eq_getElem?_getD,List.getElem?_eq_none (by omega)] at h
  exact absurd h (by decide)
def RdQ (s:ByteArray) (w:World) (e:Ending) (w':World):Prop:=
 ∃v QV at' er,e=.returned (.tuple #[v,.int .i64 at',.int .i64 er])∧nY s (QV.map fun p=>p.1.map Prod.fst) at' er∧jB w.heap.size w' v QV∧Below w.heap.size w w'
theorem jB.mono {B B':Nat} {w:World} {v:Value} {QV:List (List (Lt×Value)×Value)} (h:jB B w v QV) (hB:B'≤B):jB B' w v QV:=
 ⟨⟨fS h.mem.1 hB,fun p hp=>⟨⟨fS (h.mem.2 p hp).1.1 hB,fun q hq=>fS ((h.mem.2 p hp).1.2 q hq) hB⟩,(h.mem.2 p hp).2⟩⟩,h.once,h.atoms⟩
theorem zE (P:List Pl) (k:Nat):pT (P.map lB) k↔∀j hj,j < k→¬nG P j hj:=by
 constructor
 ·intro h j hj hjk hb
  obtain ⟨h1,h2⟩:=h j (by simpa using hj) hjk
  simp only [List.getElem_map,lB] at h1 h2
  rcases hb with hb | ⟨i,hi,hb1,hb2⟩
  ·omega
  ·have:=h2 i hi hb1
   simp at this
   rcases hb2 with h | h
   ·exact h this.1
   ·exact h this.2
 ·intro h i hi hik
  have hi':i < P.length:=by simpa using hi
  have hb:=h i hi' hik
  simp only [nG,not_or,not_exists] at hb
  refine ⟨by simp [lB];omega,fun k hk he=>?_⟩
  have hc:=hb.2 k hk
  simp only [List.getElem_map,lB] at he ⊢
  simp only [aAi,not_and,not_or,Decidable.not_not] at hc
  have:=hc he
  rw [this.1,this.2]
theorem aMm {P:List Pl} {r:Int} (h:pU (P.map lB) r):(r=-1∧tZ P (-1))∨∃k,∃hk:k < P.length,r=k∧tZ P P[k].2.2.2:=by
 rcases h with ⟨rfl,hu⟩ | ⟨k,hk,rfl,h1,h2⟩
 ·refine Or.inl ⟨rfl,Or.inl ⟨rfl,fun i hi=>?_⟩⟩
  exact (zE P P.length).1 (fun i hi _=>hu i hi) i hi hi
 ·have hk':k < P.length:=by simpa using hk
  rw [zE P k] at h1
  rw [zE P (k+1)] at h2
  refine Or.inr ⟨k,hk',rfl,Or.inr ⟨k,hk',?_,h1,rfl⟩⟩
  refine Classical.byContradiction fun hn=>h2 fun j hj hjk=>?_
  by_cases hj':j=k
  ·subst hj';exact hn
  ·exact h1 j hj (by omega)
theorem aMn (P:List Pl) (k:Nat) (h:k < P.length):(lH P)[k]?=some (.int .i64 P[k].2.2.2):=by
 unfold lH
 rw [List.getElem?_map,List.getElem?_eq_getElem h]
 rfl
theorem aMo (CV:List Pc):eP CV=(CV.map gJ).flatMap fun p=>nR p.2:=by
 unfold eP
 induction CV with
 | nil=>rfl
 | cons x r ih=>rw [List.flatMap_cons,ih,List.map_cons,List.flatMap_cons];rfl
theorem aMp {s:ByteArray} (hs:s.size≤3000) {st:aV} {cs:List (Nat×List Lt)} (h:gM (dR s 0) ((dR s 0).length+1) ⟨0,[],[]⟩ []=.ok (st,cs)) (h0:0 < (dR s 0).length) (hl:(dR s 0).length≤3002) {CV:List Pc} (hcv:CV.map gJ=cs) :
  eP CV=st.places.map lB∧(∀p∈CV,zC p)∧(∀p∈CV,∀q∈p.1.2,sG q.1.2)∧CV.length≤3002∧st.places.length≤3002∧(∀p∈st.places,0≤p.2.2.2)∧∀u∈eP CV,u.1.size≤1000000:=by
 obtain ⟨Q,C,r1,r2,r3,r4,r5,r6,r7,r8⟩:=aMh (aFn s (by omega)) (aAt s (by omega)) (aMl s 0) _ _ _ _ _ h h0
 simp only [List.nil_append] at r1 r2
 simp only [List.length_nil,Nat.zero_add,Nat.add_zero] at r6 r7
 change st.i < (dR s 0).length at r5
 have hc:∀p∈CV,aDt (dR s 0) (p.1.2.map Prod.fst):=fun p hp=>r4 (gJ p) (by rw [←r2,←hcv];exact List.mem_map.2 ⟨p,hp,rfl⟩)
 have hlen:CV.length=C.length:=by rw [←r2,←hcv];simp
 have hu:eP CV=st.places.map lB:=by rw [aMo,hcv,r2,r1,r3]
 refine ⟨hu,fun p hp=>⟨fun q hq=>(hc p hp).short q.1 (List.mem_map.2 ⟨q,hq,rfl⟩),by have:=(hc p hp).count;omega,by have:=(hc p hp).len;simp at this;omega⟩,fun p hp q hq n hn hv=>?_,by omega,by omega,by rw [r1];exact r8,?_⟩
 ·have:=(hc p hp).vars q.1 (List.mem_map.2 ⟨q,hq,rfl⟩) n hn hv
  omega
 ·intro u hu'
  unfold eP at hu'
  obtain ⟨p,hp,hup⟩:=List.mem_flatMap.1 hu'
  rw [vZ] at hup
  obtain ⟨x,hx,hux⟩:=List.mem_flatMap.1 hup
  have hsx:=(hc p hp).short x hx
  have key:∀(l:List Nd) k,(∀n∈l,n.1.size≤1000000)→∀u∈gV k l,u.1.size≤1000000:=by
   intro l
   induction l with
   | nil=>intro k _ u hu;simp [gV] at hu
   | cons n r ih=>
    intro k hl u hu
    rw [gV] at hu
    rcases List.mem_append.1 hu with hu | hu
    ·unfold kZ at hu
     split at hu
     ·simp at hu
     ·simp at hu
      subst hu
      exact hl n (List.mem_cons_self ..)
    ·exact ih _ (fun y hy=>hl y (List.mem_cons_of_mem _ hy)) u hu
  exact key x.2 0 hsx u hux
set_option maxHeartbeats 4000000 in
theorem zF (s:ByteArray) (w:World) (hs0:s.size≤140737488355328):Calls Tryz.prog 15 #[.string s] w fun e w'=>RdQ s w e w':=by
 by_cases h3:3000 < s.size
 ·have hi:(3000:Int) < (s.size:Int):=by omega
  go_enter Tryz.func15,Tryz.ntmps15
  go_wp2
  go_returns
  exact ⟨_,[],0,1,rfl,Or.inl ⟨h3,rfl,rfl,rfl⟩,jB.nil _ _,Below.refl _ _⟩
 ·have hi:¬(3000:Int) < (s.size:Int):=by omega
  have hs:s.size≤3000:=by omega
  have hl:(dR s 0).length≤3002:=by
   have:=aFm s (s.size+1) 0
   show (dM (bU s (s.size+1) 0)).length≤3002
   unfold dM
   split <;> simp <;> omega
  have CN:=aA (aLv s w hs)
  have hx:=(aAt s (by omega)).small
  have ht:=aFn s (by omega)
  have hxx:=aAt s (by omega)
  have CT:=aA (fun w1 pb g (h:pO w.heap.size w1 pb s (dR s 0) ⟨0,[],[]⟩ g (.slice none 0 0) (.slice none 0 0) []) (hB:w.heap.size≤w1.heap.size)=>aLm (fun i=>aLd s 0 i) hx hs (by omega) (fun st st' c hq hlt=>by have:=aFr ht hxx hq hlt;omega) h hB (Nat.zero_le _) (Nat.zero_le _))
  have HALL:Hid (sJ s=gM (dR s 0) ((dR s 0).length+1) ⟨0,[],[]⟩ []):=aA rfl
  clear hx ht hxx
  cases hq:gM (dR s 0) ((dR s 0).length+1) ⟨0,[],[]⟩ [] with
  | error p=>
   rw [List.map_nil,hq] at CT
   rw [hq] at HALL
   clear hq
   go_enter Tryz.func15,Tryz.ntmps15
   go_wp2_with (first
    | (go_at_call 25;refine (CT.out _ _ _ HT1.out HB1.out.size).mono ?_;rintro e w2 ⟨hb2,i2,vC2,vP2,vM2,rfl,hp2,hpos⟩;obtain ⟨left2,hbx2,_⟩:=hp2.box;have d2:=hbx2.c2;rw [hpos] at d2;have HB2:=aA (HB1.out.trans hb2);clear hb2 hp2 hpos hbx2)
    | (go_at_call 24;refine (aB CN).mono ?_;rintro e w1 ⟨pb,g,rfl,hb1,ht1⟩;have HB1:=aA hb1;have HT1:=aA ht1;clear hb1 ht1)
    | go_in)
   go_quiet (fail)
   go_wp2
   go_returns
   refine ⟨_,[],p,2,rfl,Or.inr ⟨hs,?_⟩,jB.nil _ _,HB2.out.trans ((aJ ⟨_,rfl⟩).mono HB2.out.size)⟩
   rw [HALL.out]
   exact ⟨rfl,rfl,rfl⟩
  | ok y=>
   obtain ⟨st,cs⟩:=y
   rw [List.map_nil,hq] at CT
   rw [hq] at HALL
   have HK:=aA (fun (h0:0 < (dR s 0).length) (CV:List Pc) (hcv:CV.map gJ=cs)=>aMp hs hq h0 hl hcv)
   clear hq
   go_enter Tryz.func15,Tryz.ntmps15
   go_upto_region 6 with (first
    | (go_at_call 25;refine (CT.out _ _ _ HT1.out HB1.out.size).mono ?_;rintro e w2 ⟨hb2,vC2,vP2,CV,rfl,ht2,hcv⟩;have HB2:=aA (HB1.out.trans hb2);have HT2:=aA ht2;have HCV:=aA hcv;clear hb2 ht2 hcv)
    | (go_at_call 24;refine (aB CN).mono ?_;rintro e w1 ⟨pb,g,rfl,hb1,ht1⟩;have HB1:=aA hb1;have HT1:=aA ht1;clear hb1 ht1)
    | go_in)
   clear CN CT
   obtain ⟨vM2,hpp⟩:=HT2.out.pp
   obtain ⟨left2,hbx,hBp⟩:=hpp.box
   have d4:=hbx.c4
   have d5:=hbx.c5
   obtain ⟨k1,k2,k3,k4,k5,k6,k7⟩:=HK.out (Nat.lt_of_le_of_lt (Nat.zero_le _) hpp.lt) CV HCV.out
   have CU:=aA (aLs HT2.out.cs d4 k2 (by omega) (by rw [k1];simp;omega))
   have CS:=aA (fun wx (hx:Below w2.heap.size w2 wx)=>aMb (HT2.out.cs.below hx) k2 k3 (by omega))
   obtain ⟨va,vac,hva⟩:=aR HT2.out.cs.row
   obtain ⟨pa,pac,hpa⟩:=aR HT2.out.places
   have HPL:=aA HT2.out.places
   subst hva
   subst hpa
   have HUN:Hid (eP CV=st.places.map lB):=aA k1
   have HPS:=aA k6
   have hUf:(eP CV).length≤1000000:=by rw [k1];simp;omega
   have hUs:∀k (h:k < (eP CV).length),(eP CV)[k].1.size≤140737488355328:=fun k h=>Nat.le_trans (k7 _ (List.getElem_mem _)) (by omega)
   have HUS:=aA hUs
   have hz2:=HB2.out.size
   clear k1 k2 k3 k6 k7 hUs HK hbx hpp HT1 HB1
   go_upto_region 7 with (first
    | (go_at_call 26;refine (aO8 ua uc (eP CV) w3 HUI.out).mono ?_;rintro e w4 ⟨r,rfl,hr,hb4⟩;have HR:=aA hr;have HB4:=aA (HB3.out.trans (hb4.mono HB3.out.size));clear hr hb4)
    | (go_at_call 27;refine (aB CU).mono ?_;rintro e w3 ⟨v3,rfl,ho3,hb3⟩;obtain ⟨ua,uc,rfl,hui⟩:=aNw ho3 hUf HUS.out;have HUI:=aA hui;have HB3:=aA hb3;clear ho3 hb3 hui)
    | go_in)
   have hz4:=HB4.out.size
   have g4:=Below.at' HB4.out (Nat.le_refl _) d4
   have g5:=Below.at' HB4.out (Nat.le_refl _) d5
   have hr:=HR.out
   rw [HUN.out] at hr
   clear HR CU d4 d5
   rcases aMm hr with ⟨rfl,hnm⟩ | ⟨k,hk,rfl,hnm⟩
   ·have HNM:=aA hnm
    clear hr hnm
    go_wp2_with (first
     | (go_at_call 28;refine (CS.out _ HB4.out).mono ?_;rintro e w5 ⟨v5,QV,at5,er5,rfl,hm5,ho5,hb5⟩;have HM5:=aA hm5;have HO5:=aA ho5;have HB5:=aA hb5;clear hm5 ho5 hb5)
     | go_in)
    go_returns
    refine ⟨_,QV,at5,er5,rfl,Or.inr ⟨hs,?_⟩,HO5.out.mono (by omega),HB2.out.trans ((HB4.out.mono hz2).trans (HB5.out.mono (by omega)))⟩
    rw [HALL.out]
    refine ⟨-1,HNM.out,Or.inr ⟨by omega,?_⟩⟩
    rw [←HCV.out]
    exact HM5.out
   ·have HNM:=aA hnm
    have h0:=HPS.out _ (List.getElem_mem hk)
    obtain ⟨gp,gc,hgp⟩:=sM HPL.out (by omega)
    simp at hgp
    obtain ⟨rfl,rfl⟩:=hgp
    have c5:w2.cell? ⟨gp,k,none⟩=some (.int .i64 st.places[k].2.2.2):=by rw [HPL.out.cellAt _ (by omega),aMn _ k hk]
    have q5:=Below.at' HB4.out (Nat.le_refl _) c5
    clear hr hnm CS c5
    generalize st.places[k].2.2.2=pk at *
    go_wp2
    go_quiet (fail)
    go_wp2
    go_returns
    refine ⟨_,[],pk,3,rfl,Or.inr ⟨hs,?_⟩,jB.nil _ _,(HB2.out.trans (HB4.out.mono hz2)).trans ((aJ ⟨_,rfl⟩).mono (by omega))⟩
    rw [HALL.out]
    exact ⟨pk,HNM.out,Or.inl ⟨h0,rfl,rfl,rfl⟩⟩
theorem aMq (s:ByteArray) (w:World) (hs0:s.size≤140737488355328):Calls Tryz.prog 9 #[.string s] w fun e w'=>RdQ s w e w':=by
 have CS:=aA (zF s w hs0)
 go_enter Tryz.func9,Tryz.ntmps9
 go_wp2_with (first
  | (go_at_call 15;refine (aB CS).mono ?_;rintro e w1 ⟨v,QV,at1,er1,rfl,h1,h2,h3⟩;have H1:=aA h1;have H2:=aA h2;have H3:=aA h3;clear h1 h2 h3)
  | go_in)
 go_returns
 exact ⟨_,QV,at1,er1,rfl,H1.out,H2.out,H3.out⟩
end Go.Proofs.YtbddofieljiihaaGreatDoor
namespace Go.Proofs.YtbddofieljiihaaGreatDoor
open Go.RowKit Go.Shelf Go.WideMaps
set_option maxRecDepth 100000
structure oL (B:Nat) (w:World) (v:Value) (P:List (List Lt×Value)):Prop where
 row:w.ownsRow B 24 1 v P.length (P.map Prod.snd)
 cl:∀p∈P,bK B w p.2 p.1
theorem oL.kps {S:List TypeId} {B:Nat} {w w':World} {v:Value} {P:List (List Lt×Value)} (h:oL B w v P) (k:cG S w w') (h1:24∉S) (h2:74∉S) (h3:106∉S):oL B w' v P:=
 ⟨k.row h.row h1,fun p hp=>k.clause (h.cl p hp) h2 h3⟩
theorem oL.cell {B:Nat} {w:World} {v:Value} {P:List (List Lt×Value)} (h:oL B w v P) {k:Nat} (hk:k < P.length):∃g cap ad cp,v=.slice (some ⟨g,0,none⟩) P.length cap∧P[k].2=.slice ad P[k].1.length cp∧w.cell? ⟨g,k,none⟩=some (.slice ad P[k].1.length cp)∧bK B w (.slice ad P[k].1.length cp) P[k].1:=by
 have hc:=h.cl P[k] (List.getElem_mem hk)
 obtain ⟨ad,cp,e⟩:=hc.shape
 obtain ⟨h1,⟨_,e1⟩ | ⟨g,cap,cur,rfl,hb,hh,hr⟩⟩:=h.row
 ·omega
 ·refine ⟨g,cap,ad,cp,rfl,e,?_,by rw [←e];exact hc⟩
  rw [h.row.cellAt k (by omega),List.getElem?_map,List.getElem?_eq_getElem hk,←e]
  rfl
def iY (P:List (List Lt)):List (aG×Int):=P.mapIdx fun a c=>(⟨1,a,0,0,0,c⟩,0)
theorem aMr (P:List (List Lt)) (k:Nat) (hk:k < P.length):(iY P).take (k+1)=(iY P).take k++[(⟨1,k,0,0,0,P[k]⟩,0)]:=by
 rw [List.take_add_one]
 simp [iY,hk]
def rW (B:Nat) (w0:World) (sb hp:Nat) (P:List (List Lt)) (k:Nat) (W:World):Prop:=
 ∃v' L' n',bC B W sb hp v' (.slice none 0 0) (.slice none 0 0) L' n' [] [] false∧bR ((iY P).take k) [] 0 false L' n' false∧Mv bM B w0 W
def aMs (B:Nat) (w0:World) (P:List (List Lt)) (e:Ending) (W:World):Prop:=
 ∃sb hp,e=.returned (.pointer (some ⟨sb,0,none⟩))∧rW B w0 sb hp P P.length W
set_option maxHeartbeats 4000000 in
theorem aMt (B:Nat) (v:Value) (P:List (List Lt×Value)) (w:World) (h:oL B w v P) (hi:∀p∈P,bG p.1=true) (hl:P.length≤1000) (hB:B≤w.heap.size) :
  Calls Tryz.prog 20 #[v] w fun e w'=>aMs B w (P.map Prod.fst) e w':=by
 obtain ⟨va,vc,rfl⟩:=aR h.row
 have CN:=aA (aVv B w hB)
 have HH:=aA h
 have HI:=aA hi
 clear h hi
 go_enter Tryz.func20,Tryz.ntmps20
 go_wp2_with (first
  | (go_at_call 33;refine (aB CN).mono ?_;rintro e w1 ⟨rfl,hp1,hb1⟩;have HP1:=aA hp1;have HB1:=aA hb1;clear hp1 hb1)
  | go_in)
 have hb2:Below w1.heap.size w1 (w1.alloc (.cells #[.pointer (some ⟨w.heap.size,0,none⟩),.int .i64 0,.slice none 0 0,.slice none 0 0,.bool false] 85)):=(Below.refl _ w1).alloc (Nat.le_refl _) _
 have hS0:bC B (w1.alloc (.cells #[.pointer (some ⟨w.heap.size,0,none⟩),.int .i64 0,.slice none 0 0,.slice none 0 0,.bool false] 85)) w1.heap.size w.heap.size (.slice none 0 0) (.slice none 0 0) (.slice none 0 0) [] 0 [] [] false:=
  ⟨World.alloc_heap_new w1 _,HP1.out.below hb2,⟨World.ownsRow_nil _ _ _ _,fun p hp=>by simp at hp⟩,World.ownsRow_nil _ _ _ _,fun x hx=>by simp at hx,Nat.le_trans hB HB1.out.size⟩
 have hm0:Mv bM B w (w1.alloc (.cells #[.pointer (some ⟨w.heap.size,0,none⟩),.int .i64 0,.slice none 0 0,.slice none 0 0,.bool false] 85)):=(Mv.of_below HB1.out).trans (Mv.of_below hb2)
 have H0:Hid (rW B w w1.heap.size w.heap.size (P.map Prod.fst) 0 (w1.alloc (.cells #[.pointer (some ⟨w.heap.size,0,none⟩),.int .i64 0,.slice none 0 0,.slice none 0 0,.bool false] 85))):=aA ⟨_,_,_,hS0,by simp [bR],hm0⟩
 clear hS0 hm0 hb2 CN HP1
 go_loopw [11] (fun i wr=>∃k:Nat,i=.int .i64 k∧k≤P.length∧rW B w w1.heap.size w.heap.size (P.map Prod.fst) k wr) (fun i _=>P.length - (intOf i).toNat)
 case atStart=>exact ⟨0,rfl,Nat.zero_le _,H0.out⟩
 case round=>
  obtain ⟨k,rfl,hk,v',L',n',hS,hTk,hM⟩:=hrel
  by_cases hlt:k < P.length
  ·obtain ⟨g,cap,ad,cp,hv,_,hcell,hcm⟩:=(HH.out.kps hM.kps (by decide) (by decide) (by decide)).cell hlt
   simp at hv
   obtain ⟨rfl,rfl⟩:=hv
   have hic:=HI.out _ (List.getElem_mem hlt)
   have hn:=jI hic
   have hfit:dQ P[k].1=true:=by
    simp only [bG,Bool.and_eq_true] at hic
    exact hic.1.1
   have hll:=bR.len _ hTk
   have hkF:((iY (P.map Prod.fst)).take k).length≤k:=List.length_take_le _ _
   simp at hll
   have hki:(k:Int) < (P.length:Int):=by omega
   have hgt:=aMr (P.map Prod.fst) k (by simpa using hlt)
   simp only [List.getElem_map] at hgt
   have hBr:B≤wr.heap.size:=Nat.le_trans hB hM.size
   have HNX:Hid (∀v2 L2 n2 w2,bC B w2 w1.heap.size w.heap.size v2 (.slice none 0 0) (.slice none 0 0) L2 n2 [] [] false→bR [(⟨1,k,0,0,0,P[k].1⟩,0)] L' n' false L2 n2 false→Mv bM B wr w2→rW B w w1.heap.size w.heap.size (P.map Prod.fst) (k+1) w2):=aA fun v2 L2 n2 w2 x1 x2 x3=>⟨v2,L2,n2,x1,by rw [hgt];exact bR.snoc _ hTk x2,hM.trans x3⟩
   cases hid:oE P[k].1
   ·have CW:=aA (aHf B w1.heap.size w.heap.size v' _ _ L' n' [] [] false ⟨1,k,0,0,0,P[k].1⟩ ad cp wr hS hcm hn hid (by omega) (by omega) hBr)
    have HT:Hid (bR [(⟨1,k,0,0,0,P[k].1⟩,0)] L' n' false (gF L'.length (L'++[dP ⟨1,k,0,0,0,P[k].1⟩ ad cp n']) L'.length) (n'+1) false):=aA (by
     unfold bR
     rw [if_neg (by simp [hfit]),if_neg (by simp [hid])]
     exact ⟨ad,cp,rfl,rfl,rfl⟩)
    unfold nN at CW
    simp only at CW
    clear hS hcm hn hic hfit hll hkF hgt hM hTk H0
    generalize P[k].1.length=cl at *
    go_wp2_with (first
     | (go_at_call 35;refine (aB CW).mono ?_;rintro e w5 ⟨⟨u,rfl⟩,v5,hS5,hm5⟩;have G:=aA (HNX.out _ _ _ _ hS5 HT.out hm5);clear hS5 hm5)
     | go_in)
    go_roundw
    case rel=>exact ⟨k+1,by go_num,by omega,G.out⟩
    case measure=>simp [intOf];omega
   ·have CW:=aA (aHe B w1.heap.size ⟨1,k,0,0,0,P[k].1⟩ ad cp wr hcm hn hid)
    have HT:Hid (bR [(⟨1,k,0,0,0,P[k].1⟩,0)] L' n' false L' n' false):=aA (by
     unfold bR
     rw [if_neg (by simp [hfit]),if_pos hid]
     exact ⟨rfl,rfl,rfl⟩)
    have HS:=aA hS
    unfold nN at CW
    simp only at CW
    clear hS hcm hn hic hfit hll hkF hgt hM hTk H0
    generalize P[k].1.length=cl at *
    go_wp2_with (first
     | (go_at_call 35;refine (aB CW).mono ?_;rintro e w5 ⟨⟨u,rfl⟩,hb5⟩;have G:=aA (HNX.out _ _ _ _ (HS.out.below hb5) HT.out (Mv.of_below hb5));clear hb5)
     | go_in)
    go_roundw
    case rel=>exact ⟨k+1,by go_num,by omega,G.out⟩
    case measure=>simp [intOf];omega
  ·obtain rfl:k=P.length:=by omega
   have HF:Hid (rW B w w1.heap.size w.heap.size (P.map Prod.fst) P.length wr):=aA ⟨_,_,_,hS,hTk,hM⟩
   clear hS hTk hM
   go_wp2
   go_ret
   exact ⟨_,_,rfl,by simpa using HF.out⟩
end Go.Proofs.YtbddofieljiihaaGreatDoor
