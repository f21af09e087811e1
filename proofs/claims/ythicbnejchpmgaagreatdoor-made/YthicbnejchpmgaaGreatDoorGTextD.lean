/- The program's parser: a text. The program: what the names of a whole text are. The document's parser: a term that begins with a name, and the contract of term at every fuel. The document: the tokens of a text. The document's Read. The program: the clauses are brought to order. Pure: the places of a text are the uses of its names; its variables' numbers; its sizes. The program's parser is made. The program: Read. -/
import Derived.Test.YthicbnejchpmgaaGreatDoorGPartsD
import Derived.Test.YthicbnejchpmgaaGreatDoorPUse0D
import Derived.Laws.AppendOwnNone
import Derived.Test.YthicbnejchpmgaaGreatDoorONumberD
namespace Go.Proofs.YthicbnejchpmgaaGreatDoor
open Go.RowKit Go.WideMaps
set_option maxRecDepth 100000
def aKi (B pb:Nat) (w:World) (s:ByteArray) (T:List Tk) (g:Nat) (r:Except Nat (aV×List (Nat×List Lt))) (e:Ending) (w':World):Prop:=
 Below B w w'∧
  match r with
  | .ok (s1,cs)=>∃vC vP CV,e=.returned (.bool true)∧pW B w' pb s T s1 g vC vP CV∧CV.map gS=cs
  | .error p=>∃i vC vP vM,e=.returned (.bool false)∧cL B w' pb s T i g vC vP vM∧(aE T i).pos=p
structure TLq (B pb:Nat) (w:World) (s:ByteArray) (T:List Tk) (g:Nat) (r:Except Nat (aV×List (Nat×List Lt))) (k:Nat) (wr:World) (st:aV) (vC vP:Value) (CV:List Pc):Prop where
 t:pW B wr pb s T st g vC vP CV
 low:Below B w wr
 eq:r=jG T k st (CV.map gS)
 fuel:T.length < st.i+k
 pl:st.places.length≤st.i
 few:CV.length≤st.i
set_option maxHeartbeats 4000000 in
theorem aKj {B pb:Nat} {w:World} {s:ByteArray} {T:List Tk} {g:Nat} {vC vP:Value} {CV:List Pc} {st:aV} (hT:∀i,(aE T i).kind∈fO) (hx:∀i,(aE T i).txt.size≤1000000) (hs:s.size≤3000) (hTl:T.length≤1000000) (hC:∀st st' c,mK T st=.ok (st',c)→st.i < T.length→st.i < st'.i∧st'.places.length≤st.places.length+(st'.i - st.i)) (h:pW B w pb s T st g vC vP CV) (hBw:B≤w.heap.size) (hp1:st.places.length≤st.i) (hc1:CV.length≤st.i) :
  Calls Tryz.prog 30 #[.pointer (some ⟨pb,0,none⟩)] w fun e w'=>aKi B pb w s T g (jG T (T.length+1) st (CV.map gS)) e w':=by
 have H0:Hid (TLq B pb w s T g (jG T (T.length+1) st (CV.map gS)) (T.length+1) w st vC vP CV):=aA ⟨h,Below.refl _ _,rfl,by omega,hp1,hc1⟩
 obtain ⟨R,hR⟩ : ∃R,jG T (T.length+1) st (CV.map gS)=R:=⟨_,rfl⟩
 rw [hR] at H0
 simp only [hR]
 have HT:=aA hT
 have HX:=aA hx
 have HC:=aA hC
 clear h hR hT hx hp1 hc1 hC
 go_enter Tryz.func30,Tryz.ntmps30
 go_wp2
 go_loopg [] (T.length+1) (fun k wr=>∃st' vC' vP' CV',TLq B pb w s T g R k wr st' vC' vP' CV')
 case atStart=>exact ⟨st,vC,vP,CV,H0.out⟩
 case round=>
  clear H0
  obtain ⟨st',vC',vP',CV',hL⟩:=hrel
  obtain ⟨vM,hpp⟩:=hL.t.pp
  have hlt:=hpp.lt
  obtain ⟨left,hb,hBp⟩:=hpp.box
  have hfu:=hL.fuel
  have hpl:=hL.pl
  have hfew:=hL.few
  have hz:=hL.low.size
  have d1:=hb.c1
  obtain ⟨k',rfl⟩ : ∃k',gk=k'+1:=⟨gk - 1,by omega⟩
  by_cases h101:(aE T st'.i).kind=101
  ·rw [h101,show cU 101=-1 from rfl] at d1
   have HR:Hid (R=.ok (st',CV'.map gS)):=aA (by rw [hL.eq,jG,if_pos h101])
   have HL:=aA hL
   clear hL hb hpp
   go_wp2_with fail
   go_ret
   refine ⟨HL.out.low,?_⟩
   rw [HR.out]
   exact ⟨_,_,_,rfl,HL.out.t,rfl⟩
  ·have hne:(cU (aE T st'.i).kind != -1)=true:=by
    simp only [bne_iff_ne]
    intro e
    exact h101 (zH _ (HT.out st'.i) 101 (by decide) (by rw [e];rfl))
   have CC:=aA (aJy HT.out HX.out hs hTl hL.t (Nat.le_trans hBw hz) hpl hfew)
   have HEQ:=aA hL.eq
   have HL:=aA hL
   clear hL hb hpp
   obtain ⟨kk,hkk⟩ : ∃kk,cU (aE T st'.i).kind=kk:=⟨_,rfl⟩
   rw [hkk] at d1 hne
   clear hkk
   cases hq:mK T st' with
   | error p=>
    rw [hq] at CC
    have HR:Hid (R=.error p):=aA (by rw [HEQ.out,jG,if_neg h101,hq])
    clear hq HEQ
    go_wp2_with (first
     | (go_at_call 52;refine (aB CC).mono ?_;rintro e w1 ⟨hb1,i1,vC1,vP1,vM1,rfl,hp1,hpos⟩;have HB1:=aA hb1;have HP1:=aA hp1;have HPO:=aA hpos;clear hb1 hp1 hpos)
     | go_in)
    go_ret
    refine ⟨HL.out.low.trans HB1.out,?_⟩
    rw [HR.out]
    exact ⟨_,_,_,_,rfl,HP1.out,HPO.out⟩
   | ok y=>
    obtain ⟨s2,c⟩:=y
    have hon:=HC.out _ _ _ hq hlt
    rw [hq] at CC
    have HR:Hid (R=jG T k' s2 (CV'.map gS++[((aE T st'.i).pos,c)])):=aA (by rw [HEQ.out,jG,if_neg h101,hq])
    clear hq HEQ
    go_wp2_with (first
     | (go_at_call 52;refine (aB CC).mono ?_;rintro e w1 ⟨hb1,vC1,vP1,P,vl,rfl,ht1,hPc⟩;have HB1:=aA hb1;have HT1:=aA ht1;have HPC:=aA hPc;clear hb1 ht1 hPc)
     | go_in)
    go_roundg k'
    case measure=>omega
    case rel=>exact ⟨s2,vC1,vP1,_,HT1.out,HL.out.low.trans HB1.out,by rw [HR.out,List.map_append,List.map_singleton,gS,HPC.out],by omega,by omega,by simp;omega⟩
theorem aKk {w:World} {ops:Array Oper} {rest:List Oper} {o:Oper} {a:Act} {Q:Exit→Act→World→Prop} (hgd:o.guard=none) (s x:Operand) (t:TypeId)
  (ho:o.op=.call {callee:=.builtin .append,args:=#[s,x],argTypes:=#[t,t]})
  (base:Nat) (e:TypeId) (i:TypeInfo) (z:Value) (size bytes:Nat) (ht:Tryz.prog.underlying t=some (.slice e)) (hi:Tryz.prog.info? e=some i) (hz:i.zero=some z) (hsize:i.size=size) (hby:i.bytes=bytes) (hzs:z.cells.size=size) (hsz:0 < size)
  (v:Value) (n:Nat) (xs:List Value) (hs:a.eval s=v) (hown:w.ownsRow base e size v n xs) (v2:Value) (m base2:Nat) (ys:List Value) (hx:a.eval x=v2) (hown2:w.ownsRow base2 e size v2 m ys) (h1:∀u∈ys,u.oneCell'=true) (hmax:n+m≤maxLen) (hbytes:(n+m) * bytes≤140737488355328) (hbase:base≤w.heap.size)
  (h:∀v' w',w'.ownsRow base e size v' (n+m) (xs++ys)→w.grownBy w' v.ownBlock→wpList Tryz.prog ops Q rest (a.put o.dst v') w'):wpList Tryz.prog ops Q (o :: rest) a w:=by
 have hc:=hown2
 obtain ⟨hl,⟨rfl,hm⟩ | ⟨g,cap,cur,rfl,hb,hh,hrest⟩⟩:=hown2
 ·subst hm
  have hys:ys=[]:=List.eq_nil_of_length_eq_zero (by omega)
  subst hys
  refine wpList_append_own_none hgd s x t ho base e i size ht hi v n xs hs hown hx ?_
  exact h v w (by simpa using hown) (World.grownBy.refl _ _)
 ·refine wpList_append_own w hgd s x t ho base e i z size bytes ht hi hz hsize hby hzs hsz v n xs hs hown ⟨g,0,none⟩ m cap ys hx hl (fun j u hj=>?_) h1 hmax hbytes hbase (fun v' w' r1 r2 _=>h v' w' r1 r2)
  have hjl:=(List.getElem?_eq_some_iff.1 hj).1
  have:=hc.cellAt j (by omega)
  rw [hj] at this
  cases j with
  | zero=>simpa [Addr.add] using this
  | succ j=>simpa [Addr.add] using this
theorem wG (CV:List Pc):∀k (h:k < CV.length),(nF CV)[k * 2]?=some (.int .i64 CV[k].1.1)∧(nF CV)[k * 2+1]?=some CV[k].2:=by
 induction CV with
 | nil=>intro k h;simp at h
 | cons x r ih=>
  intro k h
  cases k with
  | zero=>simp [nF]
  | succ k=>
   have:=ih k (by simpa using h)
   have e1:(k+1) * 2=k * 2+2:=by omega
   rw [e1]
   simp only [nF,List.flatMap_cons,List.cons_append,List.nil_append,List.getElem_cons_succ] at this ⊢
   have e2:k * 2+2+1=k * 2+1+2:=by omega
   rw [e2]
   simp only [List.getElem?_cons_succ]
   exact this
theorem aKl (U:List Us):∀u∈fC U,u.oneCell'=true:=by
 intro u hu
 unfold fC at hu
 rw [List.mem_flatMap] at hu
 obtain ⟨x,_,hx⟩:=hu
 simp at hx
 rcases hx with rfl | rfl | rfl <;> rfl
theorem aKm (U V:List Us):fC (U++V)=fC U++fC V:=by simp [fC]
structure zE (p:Pc):Prop where
 short:∀q∈p.1.2,dI q.1.2
 count:aP (p.1.2.map Prod.fst)≤100000
 len:p.1.2.length≤100000
def eO (CV:List Pc):List Us:=CV.flatMap fun p=>oA (p.1.2.map Prod.fst)
theorem aKn (CV:List Pc) (k:Nat) (h:k < CV.length):eO (CV.take (k+1))=eO (CV.take k)++oA (CV[k].1.2.map Prod.fst):=by
 rw [List.take_succ_eq_append_getElem h]
 unfold eO
 rw [List.flatMap_append,List.flatMap_singleton]
theorem aKo (CV:List Pc) (k:Nat):(eO (CV.take k)).length≤(eO CV).length:=by
 have:eO CV=eO (CV.take k)++eO (CV.drop k):=by
  unfold eO
  rw [←List.flatMap_append,List.take_append_drop]
 rw [this,List.length_append]
 omega
set_option maxHeartbeats 4000000 in
theorem aKp {B pb:Nat} {w:World} {vC:Value} {CV:List Pc} (h:eN B w vC CV) (hb:w.cell? ⟨pb,4,none⟩=some vC) (hs:∀p∈CV,zE p) (hl:CV.length≤1000000) (hU:(eO CV).length≤1000000) :
  Calls Tryz.prog 32 #[.pointer (some ⟨pb,0,none⟩)] w fun e w'=>∃v,e=.returned v∧w'.ownsRow w.heap.size 108 3 v (eO CV).length (fC (eO CV))∧Below w.heap.size w w':=by
 obtain ⟨iU,hI,hI0,hI1,hI2⟩:=info_parts aEl
 obtain ⟨va,vac,rfl⟩:=aR h.row
 have HH:=aA h
 have HS:=aA hs
 clear h hs
 go_enter Tryz.func32,Tryz.ntmps32
 go_wp2
 go_loopw [3,11] (fun o i wr=>∃k:Nat,k≤CV.length∧i=.int .i64 k∧wr.ownsRow w.heap.size 108 3 o (eO (CV.take k)).length (fC (eO (CV.take k)))∧Below w.heap.size w wr) (fun _ i _=>CV.length - (intOf i).toNat)
 case atStart=>exact ⟨0,Nat.zero_le _,rfl,World.ownsRow_nil _ _ _ _,Below.refl _ _⟩
 case round=>
  obtain ⟨k,hk,rfl,ho,hb2⟩:=hrel
  obtain ⟨oa,oc,rfl⟩:=aR ho
  have hz:=hb2.size
  have HB2:=aA hb2
  have HO:=aA ho
  by_cases hlt:k < CV.length
  ·have hm:CV[k]∈CV:=List.getElem_mem _
   have hsm:=HS.out _ hm
   obtain ⟨aa,cap,hv,hlit⟩:=aAk (P:=CV[k].1.2) (HH.out.each _ hm).1 (HH.out.each _ hm).2 hsm.short (by have:=hsm.count;omega) (by have:=hsm.len;omega)
   obtain ⟨gC,cC,hva⟩:=sZ HH.out.row (by omega)
   simp at hva
   obtain ⟨rfl,rfl⟩:=hva
   have e1:w.cell? ⟨gC,k * 2,none⟩=some (.int .i64 CV[k].1.1):=by rw [HH.out.row.cellAt _ (by omega),(wG CV k hlt).1]
   have e2:w.cell? ⟨gC,k * 2+1,none⟩=some (.slice aa CV[k].1.2.length cap):=by rw [HH.out.row.cellAt _ (by omega),(wG CV k hlt).2,hv]
   have f1:=Below.at' hb2 (Nat.le_refl _) e1
   have f2:=Below.at' hb2 (Nat.le_refl _) e2
   have hcnt:=hsm.count
   have hus:=aKn CV k hlt
   have hul:=aKo CV (k+1)
   rw [hus,List.length_append] at hul
   have HUS:=aA hus
   have hpl:(CV[k].1.2.map Prod.fst).length=CV[k].1.2.length:=by simp
   rw [←hpl] at f2
   clear e1 e2 hv hsm hm hus hpl
   generalize CV[k].1.2.map Prod.fst=c at *
   generalize CV[k].1.1=at0 at *
   generalize eO (CV.take k)=U0 at *
   have CU:=aA (fun wx (hx:bS wx aa c)=>aNp aa cap c wx hx hcnt)
   have HLI:=aA (hlit.below hb2 (Nat.le_refl _))
   clear ho hb2 hlit
   go_wp2_with (first
    | (go_at_call 53;refine (CU.out _ (HLI.out.below ((Below.refl _ _).alloc (Nat.le_refl _) _) (Nat.le_refl _))).mono ?_;rintro e w1 ⟨v1,rfl,ho1,hb1⟩;have hA:=(HB2.out.alloc hz (.cells #[.int .i64 at0,.slice aa c.length cap] 111));have hB1:=hA.trans (hb1.mono hA.size);have h1s:=hB1.size;have hoo:=aY (HO.out.alloc _) hb1 (Nat.le_refl _);have HOO:=aA hoo;have HO1:=aA ho1;have HB1:=aA hB1;obtain ⟨u1,c1,rfl⟩:=aR ho1;clear hoo ho1 hb1 hA hB1)
    | (at_builtin;refine aKk rfl (.tmp 15) (.tmp 18) 80 rfl w.heap.size 108 iU (.agg #[.string ⟨#[]⟩,.bool false,.int .i64 0]) 3 32 Tryz.underlying80 hI hI0 hI1 hI2 rfl (by decide) _ _ _ rfl HOO.out _ _ _ _ rfl HO1.out (aKl _) (by unfold maxLen;omega) (by omega) h1s ?_;intro v2 w2 ho2 hg2;have HO2:=aA ho2;have HG2:=aA hg2;clear ho2 hg2)
    | go_in)
   go_roundw
   case rel=>exact ⟨k+1,by omega,by go_num,by rw [HUS.out,List.length_append,aKm];exact HO2.out,HB1.out.grown HG2.out h1s (fun j e=>(bU HOO.out j e).1)⟩
   case measure=>simp [intOf];omega
  ·have hk':k=CV.length:=by omega
   subst hk'
   clear ho hb2
   rw [List.take_length] at HO
   go_wp2
   go_ret
   exact ⟨_,rfl,by rw [List.take_length];exact HO.out,HB2.out⟩
def aKq (CV:List Pc) (w:World) (e:Ending) (w':World):Prop:=
 ∃v QV at' er,e=.returned (.tuple #[v,.int .i64 at',.int .i64 er])∧xA (CV.map gS) (QV.map fun p=>p.1.map Prod.fst) at' er∧jH w.heap.size w' v QV∧Below w.heap.size w w'
structure zF (CV:List Pc) (w:World) (k:Nat) (v:Value) (wr:World) (QV:List (List (Lt×Value)×Value)):Prop where
 le:k≤CV.length
 made:QV.map (fun p=>p.1.map Prod.fst)=(CV.take k).map fun p=>aT (p.1.2.map Prod.fst)
 good:∀j h,j < k→¬pA (CV.map gS) j h
 mem:jH w.heap.size wr v QV
 low:Below w.heap.size w wr
theorem aD7 {CV:List Pc} {k:Nat} (h:k < CV.length) (h':k < (CV.map gS).length):pA (CV.map gS) k h'↔(40≤k∨dV (aT (CV[k].1.2.map Prod.fst))=false):=by
 unfold pA
 rw [List.getElem_map]
 exact Iff.rfl
theorem aKr {α:Type} {f:α→Option Nat} {l:List α} (h:(l.map f).Nodup):(l.filterMap f).Nodup:=by
 unfold List.Nodup at h ⊢
 rw [List.pairwise_map] at h
 refine List.Pairwise.filterMap f (fun a a' hr b hb b' hb' e=>hr ?_) h
 subst e
 rw [hb,hb']
section
variable {CV:List Pc} {w wr:World} {k:Nat} {v:Value} {QV:List (List (Lt×Value)×Value)}
theorem aD8 {w1 w2:World} {B:Nat} {c:List Lt} {vo:Value} {nb:Nat} {Q:List (Lt×Value)} (hO:rJ w1 c vo nb Q w2) (hB:B≤w1.heap.size) (hs:∀x∈c,dI x.2) (hc:aP c≤100000) (hl:c.length≤100000) :
  oD w2 B (Q,vo)∧((∀q∈Q,dI q.1.2)∧aP (Q.map Prod.fst)≤1000000∧Q.length≤1000000)∧bS w2 (some ⟨nb,0,none⟩) (aT c):=by
 obtain ⟨o1,o2,o3⟩:=aPw c hs
 have hql:Q.length=(aT c).length:=by rw [←hO.made];simp
 have hr:oD w2 B (Q,vo):=by
  refine ⟨?_,fun q hq=>fG (hO.atoms q hq) hB⟩
  rw [hO.val,hql]
  exact fG hO.row hB
 have hsh:∀q∈Q,dI q.1.2:=fun q hq=>o1 q.1 (by rw [←hO.made];exact List.mem_map.2 ⟨q,hq,rfl⟩)
 have hct:aP (Q.map Prod.fst)≤1000000:=by rw [hO.made];omega
 refine ⟨hr,⟨hsh,hct,by omega⟩,?_⟩
 obtain ⟨a,cap,hv,hlit⟩:=aAk (P:=Q) hr.1 hr.2 hsh hct (by omega)
 rw [hO.val] at hv
 simp at hv
 rw [←hO.made]
 rw [hv.1]
 exact hlit
theorem aKs {w2 w3 w4:World} {c:List Lt} {vo v':Value} {nb:Nat} {Q:List (Lt×Value)} {X Y:Obj} (h:zF CV w k v wr QV) (hk:k < CV.length) (hcv:CV[k].1.2.map Prod.fst=c) (hO:rJ (wr.alloc X) c vo nb Q w2) (hb3:Below w2.heap.size w2 w3) (hs:∀x∈c,dI x.2) (hc:aP c≤100000) (hl:c.length≤100000) (hgood:k < 40∧dV (aT c)=true) (ho:w4.ownsRow w.heap.size 52 1 v' (QV.length+1) (QV.map Prod.snd++[vo])) (hg:(w3.alloc Y).grownBy w4 v.ownBlock) :
  zF CV w (k+1) v' w4 (QV++[(Q,vo)]):=by
 have hz:=h.low.size
 have hA:=(Below.refl wr.heap.size wr).alloc (Nat.le_refl _) X
 have hz2:=hO.low.size
 have hz3:=hb3.size
 have hn3:Below w2.heap.size w2 (w3.alloc Y):=hb3.alloc hz3 Y
 simp at hz2
 have hch:Below wr.heap.size wr (w3.alloc Y):=(hA.trans (hO.low.mono (by simp))).trans (hn3.mono (by omega))
 have hrow:=aY h.mem.mem.1 hch (Nat.le_refl _)
 obtain ⟨hcl,hsm,_⟩:=aD8 (B:=w.heap.size) hO (by simp;omega) hs hc hl
 have hvb:vo.ownBlock=some nb:=by rw [hO.val];rfl
 have hnb:wr.heap.size < nb+1:=by
  have:=(bU hO.row nb rfl).1
  simp at this
  omega
 refine ⟨hk,?_,fun j hj hjk=>?_,⟨⟨?_,fun p hp=>?_⟩,?_,?_⟩,?_⟩
 ·rw [List.map_append,h.made,List.map_singleton,List.take_succ_eq_append_getElem hk,List.map_append,List.map_singleton,hO.made,hcv]
 ·by_cases hjk':j=k
  ·subst hjk'
   rw [aD7 hk,hcv,hgood.2]
   rintro (h1 | h1)
   ·omega
   ·simp at h1
  ·exact h.good j hj (by omega)
 ·rw [List.length_append,List.map_append,List.map_singleton]
  exact ho
 ·rcases List.mem_append.1 hp with hp | hp
  ·obtain ⟨h1,h2⟩:=h.mem.mem.2 p hp
   refine ⟨⟨?_,fun q hq=>?_⟩,h2⟩
   ·have:=aY h1.1 hch (Nat.le_refl _)
    exact this.kept hg (eZ this hrow (by decide))
   ·have:=aY (h1.2 q hq) hch (Nat.le_refl _)
    exact this.kept hg (eZ this hrow (by decide))
  ·simp at hp
   subst hp
   refine ⟨⟨?_,fun q hq=>?_⟩,hsm⟩
   ·have:=aY hcl.1 hn3 (Nat.le_refl _)
    exact this.kept hg (eZ this hrow (by decide))
   ·have:=aY (hcl.2 q hq) hn3 (Nat.le_refl _)
    exact this.kept hg (eZ this hrow (by decide))
 ·rw [List.map_append,List.map_singleton,List.nodup_append]
  refine ⟨h.mem.once,by simp,fun a ha b hb=>?_⟩
  simp at hb
  subst hb
  obtain ⟨p,hp,rfl⟩:=List.mem_map.1 ha
  rw [hvb]
  intro e
  have:=(bU (h.mem.mem.2 p hp).1.1 nb e).2
  omega
 ·rw [List.flatMap_append,List.flatMap_singleton,List.nodup_append]
  refine ⟨h.mem.atoms,aKr hO.once,fun a ha b hb=>?_⟩
  obtain ⟨p,hp,ha⟩:=List.mem_flatMap.1 ha
  obtain ⟨q,hq,hqa⟩:=List.mem_filterMap.1 ha
  obtain ⟨q',hq',hqb⟩:=List.mem_filterMap.1 hb
  intro e
  subst e
  have h1:=(bU ((h.mem.mem.2 p hp).1.2 q hq) a hqa).2
  have h2:=(bU (hO.atoms q' hq') a hqb).1
  simp at h2
  omega
 ·exact (h.low.trans (hch.mono hz)).grown hg (by have:=hch.size;omega) (fun j e=>(bU hrow j e).1)
set_option maxHeartbeats 4000000 in
theorem aKt {B:Nat} {vC:Value} (h:eN B w vC CV) (hs:∀p∈CV,zE p) (hv:∀p∈CV,∀q∈p.1.2,qD q.1.2) (hl:CV.length≤1000000) :
  Calls Tryz.prog 33 #[vC] w fun e w'=>aKq CV w e w':=by
 obtain ⟨iM,hM,hM0,hM1,hM2⟩:=info_parts aPp
 obtain ⟨va,vac,rfl⟩:=aR h.row
 have HH:=aA h
 have HS:=aA hs
 have HV:=aA hv
 clear h hs hv
 go_enter Tryz.func33,Tryz.ntmps33
 go_wp2
 go_loopw [5,11] (fun o i wr=>∃(k:Nat) (QV:List (List (Lt×Value)×Value)),i=.int .i64 k∧zF CV w k o wr QV) (fun _ i _=>CV.length - (intOf i).toNat)
 case atStart=>exact ⟨0,[],rfl,⟨Nat.zero_le _,rfl,fun j h hj=>by omega,jH.nil _ _,Below.refl _ _⟩⟩
 case round=>
  obtain ⟨k,QV,rfl,hL⟩:=hrel
  have hk:=hL.le
  have hz:=hL.low.size
  obtain ⟨oa,oc,rfl⟩:=aR hL.mem.mem.1
  have hQl:QV.length=k:=by
   have:=congrArg List.length hL.made
   simp at this
   omega
  have hq1:QV.length≤1000000:=by omega
  clear hQl
  by_cases hlt:k < CV.length
  ·have hm:CV[k]∈CV:=List.getElem_mem _
   have hsm:=HS.out _ hm
   obtain ⟨aa,cap,hv,hlit⟩:=aAk (P:=CV[k].1.2) (HH.out.each _ hm).1 (HH.out.each _ hm).2 hsm.short (by have:=hsm.count;omega) (by have:=hsm.len;omega)
   obtain ⟨gC,cC,hva⟩:=sZ HH.out.row (by omega)
   simp at hva
   obtain ⟨rfl,rfl⟩:=hva
   have e1:w.cell? ⟨gC,k * 2,none⟩=some (.int .i64 CV[k].1.1):=by rw [HH.out.row.cellAt _ (by omega),(wG CV k hlt).1]
   have e2:w.cell? ⟨gC,k * 2+1,none⟩=some (.slice aa CV[k].1.2.length cap):=by rw [HH.out.row.cellAt _ (by omega),(wG CV k hlt).2,hv]
   have f1:=Below.at' hL.low (Nat.le_refl _) e1
   have f2:=Below.at' hL.low (Nat.le_refl _) e2
   have hcnt:=hsm.count
   have hln:=hsm.len
   have hpl:(CV[k].1.2.map Prod.fst).length=CV[k].1.2.length:=by simp
   rw [←hpl] at f2 hln
   have hsh:∀x∈CV[k].1.2.map Prod.fst,dI x.2:=fun x hx=>by obtain ⟨q,hq,rfl⟩:=List.mem_map.1 hx;exact hsm.short q hq
   have hvo:∀x∈CV[k].1.2.map Prod.fst,qD x.2:=fun x hx=>by obtain ⟨q,hq,rfl⟩:=List.mem_map.1 hx;exact HV.out _ hm q hq
   have hbad:=aD7 hlt (by simpa using hlt)
   obtain ⟨c,hcv⟩ : ∃c,CV[k].1.2.map Prod.fst=c:=⟨_,rfl⟩
   obtain ⟨at0,hat⟩ : ∃a,CV[k].1.1=a:=⟨_,rfl⟩
   rw [hcv] at f2 hln hcnt hsh hvo hbad hlit
   rw [hat] at f1
   have HBAD:Hid (40≤k∨dV (aT c)=false→xA (CV.map gS) [] at0 4):=aA fun hx=>Or.inl ⟨k,by simpa using hlt,hbad.2 hx,hL.good,rfl,by rw [List.getElem_map];simp [gS,hat],rfl⟩
   have HPUT:=aA (fun (w2 w3 w4:World) (vo v':Value) (nb:Nat) (Q:List (Lt×Value)) (X Y:Obj) hO hb3 hg ho hgr=>aKs (w2:=w2) (w3:=w3) (w4:=w4) (vo:=vo) (v':=v') (nb:=nb) (Q:=Q) (X:=X) (Y:=Y) hL hlt hcv hO hb3 hsh hcnt hln hg ho hgr)
   have CO:=aA (fun wx (hx:bS wx aa c)=>zW aa cap c wx hx hvo hcnt hln)
   have HOC:=aA (fun (w1 w2:World) (vo:Value) (nb:Nat) (Q:List (Lt×Value)) (hO:rJ w1 c vo nb Q w2)=>(aD8 (B:=0) hO (Nat.zero_le _) hsh hcnt hln).2.2)
   have HLI:=aA (hlit.below hL.low (Nat.le_refl _))
   have HR:=aA hL.mem.mem.1
   have HL:=aA hL
   clear e1 e2 hv hsm hm hpl hbad hcv hat hL hlit hsh hvo
   have X0:Hid ((wr.alloc (.cells #[.int .i64 at0,.slice aa c.length cap] 111)).cell? ⟨wr.heap.size,0,none⟩=some (.int .i64 at0)):=aA (by simp)
   by_cases h40:k < 40
   ·cases hfit:dV (aT c) with
    | false=>
     have HBR:=aA (HBAD.out (Or.inr hfit))
     have CF:=aA (fun wx nb (hx:bS wx (some ⟨nb,0,none⟩) (aT c))=>tY (some ⟨nb,0,none⟩) (aT c).length (aT c) wx hx)
     rw [hfit] at CF
     clear HPUT HBAD hfit
     go_wp2_with (first
      | (go_at_call 41;refine (CF.out _ nb (HOC.out _ _ _ _ _ HO.out)).mono ?_;rintro e w3 ⟨rfl,hb3⟩;have HB3:=aA hb3;have x3:=Below.at' hb3 (Nat.le_refl _) x0;have HR3:=aA (aY HR2.out hb3 (Nat.le_refl _));have hz3:=hb3.size;clear hb3)
      | (go_at_call 28;refine (CO.out _ (HLI.out.below ((Below.refl _ _).alloc (Nat.le_refl _) _) (Nat.le_refl _))).mono ?_;rintro e w2 ⟨vo,nb,Q,rfl,hO⟩;have hvo:=hO.val;subst hvo;have x0:=Below.at' hO.low (Nat.le_refl _) X0.out;have HO:=aA hO;have HB2:=aA (HL.out.low.trans (((Below.refl wr.heap.size wr).alloc (Nat.le_refl _) (.cells #[.int .i64 at0,.slice aa c.length cap] 111)).mono hz |>.trans (hO.low.mono (by simp;omega))));have HR2:=aA (aY (HR.out.alloc _) hO.low (Nat.le_refl _));have hz2:=hO.low.size;simp at hz2;clear hO)
      | go_in)
     go_quiet (fail)
     go_wp2
     go_returns
     exact ⟨_,[],at0,4,rfl,HBR.out,jH.nil _ _,(HB2.out.trans (HB3.out.mono (by omega))).trans ((aN ⟨_,rfl⟩).mono (by omega))⟩
    | true=>
     have CF:=aA (fun wx nb (hx:bS wx (some ⟨nb,0,none⟩) (aT c))=>tY (some ⟨nb,0,none⟩) (aT c).length (aT c) wx hx)
     rw [hfit] at CF
     have HP2:=aA (fun w2 w3 w4 vo v' nb Q X Y hO hb3 ho hgr=>HPUT.out w2 w3 w4 vo v' nb Q X Y hO hb3 ⟨h40,hfit⟩ ho hgr)
     clear HPUT HBAD hfit
     go_wp2_with (first
      | (at_builtin;refine wpList_append_own _ rfl (.tmp 28) (.tmp 30) 45 rfl w.heap.size 52 iM (.slice none 0 0) 1 24 Tryz.underlying45 hM hM0 hM1 hM2 rfl (by decide) _ _ _ rfl (HR3.out.alloc _) ⟨_,0,none⟩ 1 1 [.slice (some ⟨nb,0,none⟩) (aT c).length (aT c).length] rfl rfl (sJ w3 _ _ _ rfl) (by intro u hu;simp at hu;subst hu;rfl) (by unfold maxLen;omega) (by omega) (by simp;omega) ?_;intro v4 w4 ho4 hg4 _;have HL4:=aA (HP2.out _ _ _ _ _ _ _ _ _ HO.out HB3.out ho4 hg4);clear ho4 hg4)
      | (go_at_call 41;refine (CF.out _ nb (HOC.out _ _ _ _ _ HO.out)).mono ?_;rintro e w3 ⟨rfl,hb3⟩;have HB3:=aA hb3;have x3:=Below.at' hb3 (Nat.le_refl _) x0;have HR3:=aA (aY HR2.out hb3 (Nat.le_refl _));have hz3:=hb3.size;clear hb3)
      | (go_at_call 28;refine (CO.out _ (HLI.out.below ((Below.refl _ _).alloc (Nat.le_refl _) _) (Nat.le_refl _))).mono ?_;rintro e w2 ⟨vo,nb,Q,rfl,hO⟩;have hvo:=hO.val;subst hvo;have x0:=Below.at' hO.low (Nat.le_refl _) X0.out;have HO:=aA hO;have HB2:=aA (HL.out.low.trans (((Below.refl wr.heap.size wr).alloc (Nat.le_refl _) (.cells #[.int .i64 at0,.slice aa c.length cap] 111)).mono hz |>.trans (hO.low.mono (by simp;omega))));have HR2:=aA (aY (HR.out.alloc _) hO.low (Nat.le_refl _));have hz2:=hO.low.size;simp at hz2;clear hO)
      | go_in)
     go_roundw
     case rel=>exact ⟨k+1,_,by go_num,HL4.out⟩
     case measure=>simp [intOf];omega
   ·have HBR:=aA (HBAD.out (Or.inl (by omega)))
    clear HPUT HBAD
    go_wp2_with (first
     | (go_at_call 28;refine (CO.out _ (HLI.out.below ((Below.refl _ _).alloc (Nat.le_refl _) _) (Nat.le_refl _))).mono ?_;rintro e w2 ⟨vo,nb,Q,rfl,hO⟩;have hvo:=hO.val;subst hvo;have x0:=Below.at' hO.low (Nat.le_refl _) X0.out;have HO:=aA hO;have HB2:=aA (HL.out.low.trans (((Below.refl wr.heap.size wr).alloc (Nat.le_refl _) (.cells #[.int .i64 at0,.slice aa c.length cap] 111)).mono hz |>.trans (hO.low.mono (by simp;omega))));have HR2:=aA (aY (HR.out.alloc _) hO.low (Nat.le_refl _));have hz2:=hO.low.size;simp at hz2;clear hO)
     | go_in)
    go_quiet (fail)
    go_wp2
    go_returns
    exact ⟨_,[],at0,4,rfl,HBR.out,jH.nil _ _,HB2.out.trans ((aN ⟨_,rfl⟩).mono (by omega))⟩
  ·have hk':k=CV.length:=by omega
   have HF:Hid (xA (CV.map gS) (QV.map fun p=>p.1.map Prod.fst) 0 0):=aA (Or.inr ⟨fun j hj=>hL.good j hj (by simp at hj;omega),by rw [hL.made,hk',List.take_length,List.map_map];rfl,rfl,rfl⟩)
   have HL:=aA hL
   clear hL hk'
   go_wp2
   go_returns
   exact ⟨_,QV,0,0,rfl,HF.out,HL.out.mem,HL.out.low⟩
end
def iC:Nat→List Nd→List Us
 | _,[]=>[]
 | k,n :: r=>lG k n++iC (k+1) r
theorem aD9 (a b:List Nd):∀k,iC k (a++b)=iC k a++iC (k+a.length) b:=by
 induction a with
 | nil=>intro k;simp [iC]
 | cons x r ih=>intro k;simp only [List.cons_append,iC,ih,List.append_assoc,List.length_cons];rw [show k+1+r.length=k+(r.length+1) by omega]
theorem aKu (l:List Nd):∀k,k≤l.length→iE l k=iC 0 (l.take k):=by
 intro k
 induction k with
 | zero=>intro _;simp [iE,iC]
 | succ k ih=>
  intro hk
  rw [aEh l k hk,ih (by omega),List.take_succ_eq_append_getElem hk,aD9]
  simp [iC,Nat.min_eq_left (show k≤l.length by omega)]
theorem aKv (c:List Lt):∀k,k≤c.length→lH c k=(c.take k).flatMap fun x=>iC 0 x.2:=by
 intro k
 induction k with
 | zero=>intro _;simp [lH]
 | succ k ih=>
  intro hk
  rw [aA0 c k hk,ih (by omega),List.take_succ_eq_append_getElem hk,List.flatMap_append,List.flatMap_singleton,aKu _ _ (Nat.le_refl _),List.take_length]
theorem wH (c:List Lt):oA c=c.flatMap fun x=>iC 0 x.2:=by
 unfold oA
 rw [aKv c _ (Nat.le_refl _),List.take_length]
def lA (m:Nat) (l:List Nd):Prop:=∀n∈l,aG n=true→0≤n.2∧n.2≤m
theorem lA.mono {m m':Nat} {l:List Nd} (h:lA m l) (hm:m≤m'):lA m' l:=fun n hn hv=>by have:=h n hn hv;omega
theorem lA.append {m:Nat} {a b:List Nd} (h:lA m a) (k:lA m b):lA m (a++b):=fun n hn=>by
 rcases List.mem_append.1 hn with hn | hn
 ·exact h n hn
 ·exact k n hn
theorem aKw (l:List ByteArray) (x:ByteArray):0≤mI l x∧mI l x≤(nL l x).length:=by
 have:=aP3 l x
 unfold mI nL
 split
 ·simp;omega
 ·omega
theorem aDa {α:Type} (f:α→α) (p:α) (b:List α):∀a:List α,(a++[p]++b).modify a.length f=a++[f p]++b:=by
 intro a
 induction a with
 | nil=>rfl
 | cons x r ih=>simp only [List.cons_append,List.length_cons,List.modify_succ_cons,ih]
theorem aKx (a b:List Pl) (p:Pl) (n:Nat):oC (a++[p]++b) a.length n=a++[(p.1,p.2.1,(n:Int),p.2.2.2)]++b:=aDa _ _ _ _
theorem aKy (a b:List Nd) (p:Nd) (n:Nat):dG (a++[p]++b) a.length n=a++[(p.1,(n:Int))]++b:=aDa _ _ _ _
structure aDb (st st':aV) (l l':List Nd) (Q:List Pl) (M:List Nd):Prop where
 pl:st'.places=st.places++Q
 nd:l'=l++M
 us:Q.map lI=iC l.length M
 vs:lA st'.vars.length M
 ps:∀p∈Q,0≤p.2.2.2
theorem aKz {T:List Tk} (hN:∀i,(aE T i).kind=110→(aE T i).txt.toList.isEmpty=false):∀f,(∀atom st l st' l',cD T f atom st l=.ok (st',l')→atom=decide (l.length=0)→∃Q M,aDb st st' l l' Q M)∧
  (∀st l n st' l' n',dW T f st l n=.ok (st',l',n')→0 < l.length→∃Q M,aDb st st' l l' Q M):=by
 intro f
 induction f with
 | zero=>exact ⟨fun atom st l st' l' h=>by simp [cD] at h,fun st l n st' l' n' h=>by simp [dW] at h⟩
 | succ f ih=>
  obtain ⟨ih1,ih2⟩:=ih
  constructor
  ·intro atom st l st' l' h ha
   rw [cD] at h
   split at h
   ·simp only [Except.ok.injEq,Prod.mk.injEq] at h
    obtain ⟨rfl,rfl⟩:=h
    refine ⟨[],[(⟨#[]⟩,mI st.vars (aE T st.i).txt)],by simp,rfl,?_,?_,fun p hp=>by simp at hp⟩
    ·simp [iC,lG,aG]
    ·intro n hn _
     simp at hn
     subst hn
     exact aKw _ _
   ·split at h
    ·simp at h
    ·rename_i hk110
     simp only [ne_eq,Decidable.not_not] at hk110
     have hne:=hN _ hk110
     have huse:∀m:Int,lG l.length ((aE T st.i).txt,m)=[((aE T st.i).txt,atom,m)]:=by
      intro m
      unfold lG aG
      simp only
      rw [hne,ha]
      rfl
     have hvar:∀m:Int,aG ((aE T st.i).txt,m)=false:=fun m=>hne
     split at h
     ·split at h
      ·simp at h
      ·rename_i st1 l1 n1 hq
       simp only [Except.ok.injEq,Prod.mk.injEq] at h
       obtain ⟨rfl,rfl⟩:=h
       obtain ⟨Q,M,hp⟩:=ih2 _ _ _ _ _ _ hq (by simp)
       have hpl:=hp.pl
       have hnd:=hp.nd
       have hus:=hp.us
       have hps:=hp.ps
       simp only at hpl
       refine ⟨((aE T st.i).txt,atom,(n1:Int),((aE T st.i).pos:Int)) :: Q,((aE T st.i).txt,(n1:Int)) :: M,?_,?_,?_,?_,fun p hp=>?_⟩
       ·simp only
        rw [hpl,aKx]
        simp
       ·rw [hnd,aKy]
        simp
       ·rw [List.map_cons,hus,iC,huse]
        simp [lI]
       ·intro n hn hv
        rcases List.mem_cons.1 hn with rfl | hn
        ·rw [hvar] at hv;cases hv
        ·exact hp.vs n hn hv
       ·rcases List.mem_cons.1 hp with rfl | hp
        ·simp
        ·exact hps p hp
     ·simp only [Except.ok.injEq,Prod.mk.injEq] at h
      obtain ⟨rfl,rfl⟩:=h
      refine ⟨[((aE T st.i).txt,atom,0,((aE T st.i).pos:Int))],[((aE T st.i).txt,0)],rfl,rfl,?_,?_,fun p hp=>by simp at hp;subst hp;simp⟩
      ·rw [iC,huse]
       rfl
      ·intro n hn hv
       simp at hn
       subst hn
       rw [hvar] at hv
       cases hv
  ·intro st l n st' l' n' h hl
   rw [dW] at h
   split at h
   ·simp at h
   ·rename_i st1 l1 hp
    obtain ⟨Q,M,q⟩:=ih1 _ _ _ _ _ hp (decide_eq_false (by omega)).symm
    have hon:=(sY T f).1 _ _ _ _ _ hp
    have q1:=q.pl
    have q2:=q.nd
    have q3:=q.us
    simp only at q1
    split at h
    ·have hl1:0 < l1.length:=by omega
     have hon2:=(sY T f).2 _ _ _ _ _ _ h
     obtain ⟨Q2,M2,r⟩:=ih2 _ _ _ _ _ _ h hl1
     refine ⟨Q++Q2,M++M2,?_,?_,?_,?_,fun p hp=>(List.mem_append.1 hp).elim (q.ps p) (r.ps p)⟩
     ·rw [r.pl,q1,List.append_assoc]
     ·rw [r.nd,q2,List.append_assoc]
     ·rw [List.map_append,q3,r.us,aD9,q2,List.length_append]
     ·exact (q.vs.mono (by omega)).append r.vs
    ·split at h
     ·simp only [Except.ok.injEq,Prod.mk.injEq] at h
      obtain ⟨rfl,rfl,rfl⟩:=h
      exact ⟨Q,M,q1,q2,q3,q.vs,q.ps⟩
     ·simp at h
theorem aL0 {T:List Tk} (hN:∀i,(aE T i).kind=110→(aE T i).txt.toList.isEmpty=false):∀f st c st' c',gL T f st c=.ok (st',c')→(∀x∈c,lA st.vars.length x.2)→∃Q C,st'.places=st.places++Q∧c'=c++C∧Q.map lI=oA C∧(∀x∈c',lA st'.vars.length x.2)∧st.vars.length≤st'.vars.length∧st.i≤st'.i∧st'.vars.length+st.i≤st.vars.length+st'.i∧∀p∈Q,0≤p.2.2.2:=by
 intro f
 induction f with
 | zero=>intro st c st' c' h;simp [gL] at h
 | succ f ih=>
  intro st c st' c' h hv
  cases hq:cD T (T.length+1) true (iS T st) [] with
  | error p=>rw [aAl hq] at h;simp at h
  | ok r=>
   obtain ⟨s2,l2⟩:=r
   obtain ⟨q1,q2,q3,q4⟩:=aAo T st
   obtain ⟨Q,M,hp⟩:=(aKz hN (T.length+1)).1 _ _ _ _ _ hq rfl
   have hon:=(sY T (T.length+1)).1 _ _ _ _ _ hq
   have hpl:=hp.pl
   have hnd:=hp.nd
   have hus:=hp.us
   rw [q4] at hpl
   rw [q3] at hon
   simp only [List.nil_append] at hnd
   subst hnd
   have hv2:∀x∈c++[(decide ((aE T st.i).kind=126),l2)],lA s2.vars.length x.2:=by
    intro x hx
    rcases List.mem_append.1 hx with hx | hx
    ·exact (hv x hx).mono (by omega)
    ·simp at hx;subst hx;exact hp.vs
   by_cases hk:(aE T s2.i).kind=124
   ·rw [aAm hq hk] at h
    obtain ⟨Q2,C2,r1,r2,r3,r4,r5,r6,r7,r8⟩:=ih _ _ _ _ h hv2
    simp only at r1 r5 r6 r7
    refine ⟨Q++Q2,(decide ((aE T st.i).kind=126),l2) :: C2,?_,?_,?_,r4,by omega,by omega,by omega,fun p hq'=>(List.mem_append.1 hq').elim (hp.ps p) (r8 p)⟩
    ·rw [r1,hpl,List.append_assoc]
    ·rw [r2,List.append_assoc];rfl
    ·rw [List.map_append,hus,r3,wH,wH,List.flatMap_cons];rfl
   ·rw [aAn hq hk] at h
    simp only [Except.ok.injEq,Prod.mk.injEq] at h
    obtain ⟨rfl,rfl⟩:=h
    refine ⟨Q,[(decide ((aE T st.i).kind=126),l2)],hpl,rfl,?_,hv2,by omega,by omega,by omega,hp.ps⟩
    rw [hus,wH,List.flatMap_singleton]
    rfl
theorem aL1 {T:List Tk} (hN:∀i,(aE T i).kind=110→(aE T i).txt.toList.isEmpty=false) {st st':aV} {c:List Lt} (h:mK T st=.ok (st',c)):∃Q,st'.places=st.places++Q∧Q.map lI=oA c∧(∀x∈c,lA st'.i x.2)∧∀p∈Q,0≤p.2.2.2:=by
 unfold mK at h
 cases hq:mJ T st with
 | error p=>rw [hq] at h;simp at h
 | ok r=>
  obtain ⟨s1,c1⟩:=r
  rw [hq] at h
  simp only at h
  split at h
  ·simp only [Except.ok.injEq,Prod.mk.injEq] at h
   obtain ⟨rfl,rfl⟩:=h
   unfold mJ at hq
   split at hq
   ·simp only [Except.ok.injEq,Prod.mk.injEq] at hq
    obtain ⟨rfl,rfl⟩:=hq
    exact ⟨[],by simp,rfl,fun x hx=>by simp at hx,fun p hp=>by simp at hp⟩
   ·obtain ⟨Q,C,r1,r2,r3,r4,r5,r6,r7,r8⟩:=aL0 hN _ _ _ _ _ hq (fun x hx=>by simp at hx)
    simp only [List.nil_append] at r2
    subst r2
    simp only [List.length_nil] at r7
    exact ⟨Q,r1,r3,fun x hx=>(r4 x hx).mono (by simp;omega),r8⟩
  ·simp at h
structure aDc (T:List Tk) (c:List Lt):Prop where
 short:∀x∈c,dI x.2
 count:aP c≤T.length
 len:c.length≤T.length
 vars:∀x∈c,lA T.length x.2
theorem aL2 {L T:List Tk} {brk:Int} (ht:TL L T brk) (hx:uH L T) (hN:∀i,(aE T i).kind=110→(aE T i).txt.toList.isEmpty=false):∀f st cs st' cs',jG T f st cs=.ok (st',cs')→st.i < T.length→∃Q C,st'.places=st.places++Q∧cs'=cs++C∧Q.map lI=(C.flatMap fun p=>oA p.2)∧(∀p∈C,aDc T p.2)∧st'.i < T.length∧st.i+C.length≤st'.i∧st'.places.length+st.i≤st.places.length+st'.i∧∀p∈Q,0≤p.2.2.2:=by
 intro f
 induction f with
 | zero=>intro st cs st' cs' h;simp [jG] at h
 | succ f ih=>
  intro st cs st' cs' h hi
  rw [jG] at h
  split at h
  ·simp only [Except.ok.injEq,Prod.mk.injEq] at h
   obtain ⟨rfl,rfl⟩:=h
   exact ⟨[],[],by simp,by simp,rfl,fun p hp=>by simp at hp,hi,by simp,by omega,fun p hp=>by simp at hp⟩
  ·split at h
   ·simp at h
   ·rename_i s1 c hq
    obtain ⟨o1,o2,o3,o4,o5,o6,o7⟩:=aFd ht hx hq hi
    obtain ⟨Q,p1,p2,p3,p4⟩:=aL1 hN hq
    obtain ⟨Q2,C,r1,r2,r3,r4,r5,r6,r7,r8⟩:=ih _ _ _ _ h o3
    refine ⟨Q++Q2,((aE T st.i).pos,c) :: C,?_,?_,?_,?_,r5,by simp;omega,by omega,fun p hp=>(List.mem_append.1 hp).elim (p4 p) (r8 p)⟩
    ·rw [r1,p1,List.append_assoc]
    ·rw [r2,List.append_assoc];rfl
    ·rw [List.map_append,p2,r3,List.flatMap_cons]
    ·intro p hp
     rcases List.mem_cons.1 hp with rfl | hp
     ·exact ⟨o1,o4,o5,fun x hx=>(p3 x hx).mono (by omega)⟩
     ·exact r4 p hp
theorem aL3 {x:ByteArray} (h:0 < x.size):x.toList.isEmpty=false:=by
 cases he:x.toList.isEmpty with
 | false=>rfl
 | true=>
  rw [List.isEmpty_iff] at he
  have:x=⟨#[]⟩:=vX.1 (by rw [he];simp)
  subst this
  rw [tA] at h
  omega
theorem aL4 {x:ByteArray} (h:gR x=true):0 < x.size:=by
 rcases Nat.eq_zero_or_pos x.size with hx | hx
 ·unfold gR at h
  rw [yO _ _ _ _ (by omega)] at h
  simp at h
 ·exact hx
theorem aL5 (s:ByteArray):∀f name p n e,fD s f name p=some (n,e)→0 < n.size:=by
 intro f
 induction f with
 | zero=>intro name p n e h;simp [fD] at h
 | succ f ih=>
  intro name p n e h
  rw [fD] at h
  split at h
  ·split at h
   ·split at h
    ·rename_i hn
     simp only [Option.some.injEq,Prod.mk.injEq] at h
     rw [←h.1]
     exact aL4 hn
    ·simp at h
   ·split at h
    ·split at h
     ·exact ih _ _ _ _ h
     ·simp at h
    ·split at h
     ·simp at h
     ·exact ih _ _ _ _ h
  ·simp at h
theorem aL6 {s:ByteArray} {k e:Nat} {t:Tk} (hk:k < s.size) (h:eE s k=.tok t e) (h110:t.kind=110):0 < t.txt.size:=by
 unfold eE at h
 split at h
 ·rename_i hl
  split at h
  ·cases h
  ·simp only [Nx.tok.injEq] at h
   rw [←h.1]
   simp only
   have hin:=aCr hl
   have hr:=aAd hk hin
   have hb:=aAe s (s.size - (k+1)) (k+1)
   have hb2:k+1≤eB s (k+1)∧(k+1≤s.size→eB s (k+1)≤s.size):=hb
   rw [hr,ByteArray.size_extract]
   omega
 ·split at h
  ·split at h
   ·rename_i n e' hq
    simp only [Nx.tok.injEq] at h
    rw [←h.1]
    exact aL5 s _ _ _ _ _ hq
   ·cases h
  ·split at h
   ·split at h
    ·simp only [Nx.tok.injEq] at h
     rw [←h.1] at h110
     simp at h110
    ·cases h
   ·split at h
    ·rename_i hm
     simp only [Nx.tok.injEq] at h
     rw [←h.1] at h110
     simp only at h110
     rw [h110] at hm
     simp [oB] at hm
    ·cases h
theorem aL7 (s:ByteArray):∀f k,∀t∈(cB s f k).1,t.kind=110→0 < t.txt.size:=by
 intro f
 induction f with
 | zero=>intro k;simp [cB]
 | succ f ih=>
  intro k
  rw [cB]
  split
  ·rename_i hk
   split
   ·exact ih _
   ·split
    ·exact ih _
    ·split
     ·rename_i t e ht
      intro u hu
      rcases List.mem_cons.1 hu with rfl | hu
      ·exact aL6 hk ht
      ·exact ih _ u hu
     ·simp
  ·intro t ht h110
   simp at ht
   rw [ht] at h110
   simp at h110
theorem aL8 (s:ByteArray) (q i:Nat) (h:(aE (dN s q) i).kind=110):(aE (dN s q) i).txt.toList.isEmpty=false:=by
 refine aL3 ?_
 have key:∀t∈dN s q,t.kind=110→0 < t.txt.size:=by
  intro t ht
  unfold dN eF at ht
  rcases List.mem_append.1 ht with ht | ht
  ·exact aL7 s _ _ t ht
  ·generalize (cB s (s.size+1 - q) q).2=b at ht
   cases b with
   | none=>simp at ht
   | some p=>
    simp at ht
    rw [ht]
    intro h
    simp at h
 unfold aE at h ⊢
 by_cases hl:i < (dN s q).length
 ·rw [List.getD_eq_getElem?_getD,List.getElem?_eq_getElem hl,Option.getD_some] at h ⊢
  exact key _ (List.getElem_mem _) h
 ·rw [List.getD_eq_getElem?_getD,List.getElem?_eq_none (by omega)] at h
  exact absurd h (by decide)
theorem aL9 {w:World} {B:Nat} {e:TypeId} {size g n m cap:Nat} {xs:List Value} (h:w.ownsRow B e size (.slice (some ⟨g,0,none⟩) n cap) m xs):n=m∧n≤cap:=by
 obtain ⟨_,⟨e,_⟩ | ⟨g',cap',cur,e,_,_,hc,_⟩⟩:=h
 ·cases e
 ·cases e
  exact ⟨rfl,hc⟩
theorem aLa {w w1:World} {s:ByteArray} {g cap:Nat} (hs:0 < (bL s 0).length) (hr:w1.ownsRow w.heap.size 136 2 (.slice (some ⟨g,0,none⟩) (bL s 0).length cap) (bL s 0).length (kZ (bL s 0))) (hb:Below w.heap.size w w1) :
  ∃m c,bB w.heap.size (w1.alloc (.cells #[.slice (some ⟨g,0,none⟩) (bL s 0).length cap,.int .i32 0,.int .i64 0,.string ⟨#[]⟩,.slice none 0 0,.slice none 0 0,.map none] 78)) w1.heap.size s 0 g 0 m c 0 0 ⟨#[]⟩ (.slice none 0 0) (.slice none 0 0) (.map none):=by
 obtain ⟨_,hc⟩:=aL9 hr
 have e1:(bL s 0).length - 1+1=(bL s 0).length:=by omega
 have e2:cap - 1+1=cap:=by omega
 have hz:=hb.size
 refine ⟨(bL s 0).length - 1,cap - 1,⟨?_,hz,?_,by omega,rfl,Nat.zero_le _⟩⟩
 ·rw [e1,e2]
  unfold bF
  show (w1.heap.push _)[w1.heap.size]?=_
  simp
 ·rw [Nat.zero_add,Nat.zero_add,e1,e2]
  exact aY hr ((Below.refl w1.heap.size w1).alloc (Nat.le_refl _) _) (Nat.le_refl _)
set_option maxHeartbeats 4000000 in
theorem aLb (s:ByteArray) (w:World) (hs:s.size≤3000) :
  Calls Tryz.prog 29 #[.string s] w fun e w'=>∃pb g,e=.returned (.pointer (some ⟨pb,0,none⟩))∧Below w.heap.size w w'∧pW w.heap.size w' pb s (dN s 0) ⟨0,[],[]⟩ g (.slice none 0 0) (.slice none 0 0) []:=by
 have CG:=aA (aKb s w hs)
 have CN:=aA (fun (W:World) (pb g m c:Nat) (h:bB w.heap.size W pb s 0 g 0 m c 0 0 ⟨#[]⟩ (.slice none 0 0) (.slice none 0 0) (.map none))=>(aCs (s.size+1) h hs (by omega)).mono fun e w1 hr=>aDf (T:=dN s 0) (i:=0) (Nat.zero_le _) (by omega) rfl hr)
 have hgl:0 < (bL s 0).length:=(wC s s.size 0 (by omega)).1
 generalize aE (dN s 0) 0=t at CN
 obtain ⟨tk,tx,tp⟩:=t
 simp only at CN
 go_enter Tryz.func29,Tryz.ntmps29
 go_wp2_with (first
  | (go_at_call 50;refine (aB CG).mono ?_;rintro e w1 ⟨g,cap,rfl,hr1,hb1⟩;obtain ⟨m,c,hsc⟩:=aLa hgl hr1 hb1;have HB1:=aA hb1;have HSC:=aA hsc;clear hr1 hb1 hsc)
  | (go_at_call 51;refine (CN.out _ _ _ _ _ HSC.out).mono ?_;rintro e w2 ⟨rfl,hg2,⟨left,hb2⟩,hP2⟩;have e1:=hb2.c1;have e2:=hb2.c2;have e3:=hb2.c3;have ef:=hb2.soft;have HG2:=aA hg2;have HP2:=aA hP2;clear hg2 hP2 hb2)
  | go_in)
 go_ret
 refine ⟨_,g,rfl,?_,⟨_,HP2.out⟩,World.ownsRow_nil _ _ _ _,World.ownsRow_nil _ _ _ _,fun p hp=>by simp at hp⟩
 have hz:=HB1.out.size
 have hA:=HB1.out.alloc hz (.cells #[.slice (some ⟨g,0,none⟩) (bL s 0).length cap,.int .i32 0,.int .i64 0,.string ⟨#[]⟩,.slice none 0 0,.slice none 0 0,.map none] 78)
 exact hA.grown (oY (oY (oY HG2.out _) _) _) (by simp;omega) (by simpa using hz)
def RdQ (s:ByteArray) (w:World) (e:Ending) (w':World):Prop:=
 ∃v QV at' er,e=.returned (.tuple #[v,.int .i64 at',.int .i64 er])∧pB s (QV.map fun p=>p.1.map Prod.fst) at' er∧jH w.heap.size w' v QV∧Below w.heap.size w w'
theorem jH.mono {B B':Nat} {w:World} {v:Value} {QV:List (List (Lt×Value)×Value)} (h:jH B w v QV) (hB:B'≤B):jH B' w v QV:=
 ⟨⟨fG h.mem.1 hB,fun p hp=>⟨⟨fG (h.mem.2 p hp).1.1 hB,fun q hq=>fG ((h.mem.2 p hp).1.2 q hq) hB⟩,(h.mem.2 p hp).2⟩⟩,h.once,h.atoms⟩
theorem zG (P:List Pl) (k:Nat):qF (P.map lI) k↔∀j hj,j < k→¬pE P j hj:=by
 constructor
 ·intro h j hj hjk hb
  obtain ⟨h1,h2⟩:=h j (by simpa using hj) hjk
  simp only [List.getElem_map,lI] at h1 h2
  rcases hb with hb | ⟨i,hi,hb1,hb2⟩
  ·omega
  ·have:=h2 i hi hb1
   simp at this
   rcases hb2 with h | h
   ·exact h this.1
   ·exact h this.2
 ·intro h i hi hik
  have hi':i < P.length:=by simpa using hi
  have hb:=h i hi' hik
  simp only [pE,not_or,not_exists] at hb
  refine ⟨by simp [lI];omega,fun k hk he=>?_⟩
  have hc:=hb.2 k hk
  simp only [List.getElem_map,lI] at he ⊢
  simp only [aAp,not_and,not_or,Decidable.not_not] at hc
  have:=hc he
  rw [this.1,this.2]
theorem aLd {P:List Pl} {r:Int} (h:qG (P.map lI) r):(r=-1∧uJ P (-1))∨∃k,∃hk:k < P.length,r=k∧uJ P P[k].2.2.2:=by
 rcases h with ⟨rfl,hu⟩ | ⟨k,hk,rfl,h1,h2⟩
 ·refine Or.inl ⟨rfl,Or.inl ⟨rfl,fun i hi=>?_⟩⟩
  exact (zG P P.length).1 (fun i hi _=>hu i hi) i hi hi
 ·have hk':k < P.length:=by simpa using hk
  rw [zG P k] at h1
  rw [zG P (k+1)] at h2
  refine Or.inr ⟨k,hk',rfl,Or.inr ⟨k,hk',?_,h1,rfl⟩⟩
  refine Classical.byContradiction fun hn=>h2 fun j hj hjk=>?_
  by_cases hj':j=k
  ·subst hj';exact hn
  ·exact h1 j hj (by omega)
theorem aLe (P:List Pl) (k:Nat) (h:k < P.length):(lL P)[k]?=some (.int .i64 P[k].2.2.2):=by
 unfold lL
 rw [List.getElem?_map,List.getElem?_eq_getElem h]
 rfl
theorem aLf (CV:List Pc):eO CV=(CV.map gS).flatMap fun p=>oA p.2:=by
 unfold eO
 induction CV with
 | nil=>rfl
 | cons x r ih=>rw [List.flatMap_cons,ih,List.map_cons,List.flatMap_cons];rfl
theorem aLg {s:ByteArray} (hs:s.size≤3000) {st:aV} {cs:List (Nat×List Lt)} (h:jG (dN s 0) ((dN s 0).length+1) ⟨0,[],[]⟩ []=.ok (st,cs)) (h0:0 < (dN s 0).length) (hl:(dN s 0).length≤3002) {CV:List Pc} (hcv:CV.map gS=cs) :
  eO CV=st.places.map lI∧(∀p∈CV,zE p)∧(∀p∈CV,∀q∈p.1.2,qD q.1.2)∧CV.length≤3002∧st.places.length≤3002∧(∀p∈st.places,0≤p.2.2.2)∧∀u∈eO CV,u.1.size≤1000000:=by
 obtain ⟨Q,C,r1,r2,r3,r4,r5,r6,r7,r8⟩:=aL2 (aF9 s (by omega)) (aAj s (by omega)) (aL8 s 0) _ _ _ _ _ h h0
 simp only [List.nil_append] at r1 r2
 simp only [List.length_nil,Nat.zero_add,Nat.add_zero] at r6 r7
 change st.i < (dN s 0).length at r5
 have hc:∀p∈CV,aDc (dN s 0) (p.1.2.map Prod.fst):=fun p hp=>r4 (gS p) (by rw [←r2,←hcv];exact List.mem_map.2 ⟨p,hp,rfl⟩)
 have hlen:CV.length=C.length:=by rw [←r2,←hcv];simp
 have hu:eO CV=st.places.map lI:=by rw [aLf,hcv,r2,r1,r3]
 refine ⟨hu,fun p hp=>⟨fun q hq=>(hc p hp).short q.1 (List.mem_map.2 ⟨q,hq,rfl⟩),by have:=(hc p hp).count;omega,by have:=(hc p hp).len;simp at this;omega⟩,fun p hp q hq n hn hv=>?_,by omega,by omega,by rw [r1];exact r8,?_⟩
 ·have:=(hc p hp).vars q.1 (List.mem_map.2 ⟨q,hq,rfl⟩) n hn hv
  omega
 ·intro u hu'
  unfold eO at hu'
  obtain ⟨p,hp,hup⟩:=List.mem_flatMap.1 hu'
  rw [wH] at hup
  obtain ⟨x,hx,hux⟩:=List.mem_flatMap.1 hup
  have hsx:=(hc p hp).short x hx
  have key:∀(l:List Nd) k,(∀n∈l,n.1.size≤1000000)→∀u∈iC k l,u.1.size≤1000000:=by
   intro l
   induction l with
   | nil=>intro k _ u hu;simp [iC] at hu
   | cons n r ih=>
    intro k hl u hu
    rw [iC] at hu
    rcases List.mem_append.1 hu with hu | hu
    ·unfold lG at hu
     split at hu
     ·simp at hu
     ·simp at hu
      subst hu
      exact hl n (List.mem_cons_self ..)
    ·exact ih _ (fun y hy=>hl y (List.mem_cons_of_mem _ hy)) u hu
  exact key x.2 0 hsx u hux
set_option maxHeartbeats 4000000 in
theorem aDd (s:ByteArray) (w:World) (hs0:s.size≤140737488355328):Calls Tryz.prog 17 #[.string s] w fun e w'=>RdQ s w e w':=by
 by_cases h3:3000 < s.size
 ·have hi:(3000:Int) < (s.size:Int):=by omega
  go_enter Tryz.func17,Tryz.ntmps17
  go_wp2
  go_returns
  exact ⟨_,[],0,1,rfl,Or.inl ⟨h3,rfl,rfl,rfl⟩,jH.nil _ _,Below.refl _ _⟩
 ·have hi:¬(3000:Int) < (s.size:Int):=by omega
  have hs:s.size≤3000:=by omega
  have hl:(dN s 0).length≤3002:=by
   have:=aF8 s (s.size+1) 0
   show (eF (cB s (s.size+1) 0)).length≤3002
   unfold eF
   split <;> simp <;> omega
  have CN:=aA (aLb s w hs)
  have hx:=(aAj s (by omega)).small
  have ht:=aF9 s (by omega)
  have hxx:=aAj s (by omega)
  have CT:=aA (fun w1 pb g (h:pW w.heap.size w1 pb s (dN s 0) ⟨0,[],[]⟩ g (.slice none 0 0) (.slice none 0 0) []) (hB:w.heap.size≤w1.heap.size)=>aKj (fun i=>aLo s 0 i) hx hs (by omega) (fun st st' c hq hlt=>by have:=aFd ht hxx hq hlt;omega) h hB (Nat.zero_le _) (Nat.zero_le _))
  have HALL:Hid (uF s=jG (dN s 0) ((dN s 0).length+1) ⟨0,[],[]⟩ []):=aA rfl
  clear hx ht hxx
  cases hq:jG (dN s 0) ((dN s 0).length+1) ⟨0,[],[]⟩ [] with
  | error p=>
   rw [List.map_nil,hq] at CT
   rw [hq] at HALL
   clear hq
   go_enter Tryz.func17,Tryz.ntmps17
   go_wp2_with (first
    | (go_at_call 30;refine (CT.out _ _ _ HT1.out HB1.out.size).mono ?_;rintro e w2 ⟨hb2,i2,vC2,vP2,vM2,rfl,hp2,hpos⟩;obtain ⟨left2,hbx2,_⟩:=hp2.box;have d2:=hbx2.c2;rw [hpos] at d2;have HB2:=aA (HB1.out.trans hb2);clear hb2 hp2 hpos hbx2)
    | (go_at_call 29;refine (aB CN).mono ?_;rintro e w1 ⟨pb,g,rfl,hb1,ht1⟩;have HB1:=aA hb1;have HT1:=aA ht1;clear hb1 ht1)
    | go_in)
   go_quiet (fail)
   go_wp2
   go_returns
   refine ⟨_,[],p,2,rfl,Or.inr ⟨hs,?_⟩,jH.nil _ _,HB2.out.trans ((aN ⟨_,rfl⟩).mono HB2.out.size)⟩
   rw [HALL.out]
   exact ⟨rfl,rfl,rfl⟩
  | ok y=>
   obtain ⟨st,cs⟩:=y
   rw [List.map_nil,hq] at CT
   rw [hq] at HALL
   have HK:=aA (fun (h0:0 < (dN s 0).length) (CV:List Pc) (hcv:CV.map gS=cs)=>aLg hs hq h0 hl hcv)
   clear hq
   go_enter Tryz.func17,Tryz.ntmps17
   go_upto_region 6 with (first
    | (go_at_call 30;refine (CT.out _ _ _ HT1.out HB1.out.size).mono ?_;rintro e w2 ⟨hb2,vC2,vP2,CV,rfl,ht2,hcv⟩;have HB2:=aA (HB1.out.trans hb2);have HT2:=aA ht2;have HCV:=aA hcv;clear hb2 ht2 hcv)
    | (go_at_call 29;refine (aB CN).mono ?_;rintro e w1 ⟨pb,g,rfl,hb1,ht1⟩;have HB1:=aA hb1;have HT1:=aA ht1;clear hb1 ht1)
    | go_in)
   clear CN CT
   obtain ⟨vM2,hpp⟩:=HT2.out.pp
   obtain ⟨left2,hbx,hBp⟩:=hpp.box
   have d4:=hbx.c4
   have d5:=hbx.c5
   obtain ⟨k1,k2,k3,k4,k5,k6,k7⟩:=HK.out (Nat.lt_of_le_of_lt (Nat.zero_le _) hpp.lt) CV HCV.out
   have CU:=aA (aKp HT2.out.cs d4 k2 (by omega) (by rw [k1];simp;omega))
   have CS:=aA (fun wx (hx:Below w2.heap.size w2 wx)=>aKt (HT2.out.cs.below hx) k2 k3 (by omega))
   obtain ⟨va,vac,hva⟩:=aR HT2.out.cs.row
   obtain ⟨pa,pac,hpa⟩:=aR HT2.out.places
   have HPL:=aA HT2.out.places
   subst hva
   subst hpa
   have HUN:Hid (eO CV=st.places.map lI):=aA k1
   have HPS:=aA k6
   have hUf:(eO CV).length≤1000000:=by rw [k1];simp;omega
   have hUs:∀k (h:k < (eO CV).length),(eO CV)[k].1.size≤140737488355328:=fun k h=>Nat.le_trans (k7 _ (List.getElem_mem _)) (by omega)
   have HUS:=aA hUs
   have hz2:=HB2.out.size
   clear k1 k2 k3 k6 k7 hUs HK hbx hpp HT1 HB1
   go_upto_region 7 with (first
    | (go_at_call 31;refine (aNx ua uc (eO CV) w3 HUI.out).mono ?_;rintro e w4 ⟨r,rfl,hr,hb4⟩;have HR:=aA hr;have HB4:=aA (HB3.out.trans (hb4.mono HB3.out.size));clear hr hb4)
    | (go_at_call 32;refine (aB CU).mono ?_;rintro e w3 ⟨v3,rfl,ho3,hb3⟩;obtain ⟨ua,uc,rfl,hui⟩:=aNl ho3 hUf HUS.out;have HUI:=aA hui;have HB3:=aA hb3;clear ho3 hb3 hui)
    | go_in)
   have hz4:=HB4.out.size
   have g4:=Below.at' HB4.out (Nat.le_refl _) d4
   have g5:=Below.at' HB4.out (Nat.le_refl _) d5
   have hr:=HR.out
   rw [HUN.out] at hr
   clear HR CU d4 d5
   rcases aLd hr with ⟨rfl,hnm⟩ | ⟨k,hk,rfl,hnm⟩
   ·have HNM:=aA hnm
    clear hr hnm
    go_wp2_with (first
     | (go_at_call 33;refine (CS.out _ HB4.out).mono ?_;rintro e w5 ⟨v5,QV,at5,er5,rfl,hm5,ho5,hb5⟩;have HM5:=aA hm5;have HO5:=aA ho5;have HB5:=aA hb5;clear hm5 ho5 hb5)
     | go_in)
    go_returns
    refine ⟨_,QV,at5,er5,rfl,Or.inr ⟨hs,?_⟩,HO5.out.mono (by omega),HB2.out.trans ((HB4.out.mono hz2).trans (HB5.out.mono (by omega)))⟩
    rw [HALL.out]
    refine ⟨-1,HNM.out,Or.inr ⟨by omega,?_⟩⟩
    rw [←HCV.out]
    exact HM5.out
   ·have HNM:=aA hnm
    have h0:=HPS.out _ (List.getElem_mem hk)
    obtain ⟨gp,gc,hgp⟩:=sZ HPL.out (by omega)
    simp at hgp
    obtain ⟨rfl,rfl⟩:=hgp
    have c5:w2.cell? ⟨gp,k,none⟩=some (.int .i64 st.places[k].2.2.2):=by rw [HPL.out.cellAt _ (by omega),aLe _ k hk]
    have q5:=Below.at' HB4.out (Nat.le_refl _) c5
    clear hr hnm CS c5
    generalize st.places[k].2.2.2=pk at *
    go_wp2
    go_quiet (fail)
    go_wp2
    go_returns
    refine ⟨_,[],pk,3,rfl,Or.inr ⟨hs,?_⟩,jH.nil _ _,(HB2.out.trans (HB4.out.mono hz2)).trans ((aN ⟨_,rfl⟩).mono (by omega))⟩
    rw [HALL.out]
    exact ⟨pk,HNM.out,Or.inl ⟨h0,rfl,rfl,rfl⟩⟩
end Go.Proofs.YthicbnejchpmgaaGreatDoor
