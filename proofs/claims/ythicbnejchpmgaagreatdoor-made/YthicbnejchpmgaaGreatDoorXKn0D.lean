/- Texts that are known: what is read of them. Conclusions from atoms without parts; from p(a) and p(X). The search at the text 'p. ~p.'. The program: Covers. Covers, of any clauses in memory. Clauses of atoms without parts: what follows from them, and what they cover, reckoned. The search at two texts: 'p. ~p | q. ~q.' and 'p. ~p | q.'. The document's table while a term is put: what its memory is. The document: what a row was made is written behind other nodes. The program: a term's variables are numbered; Unify. The program: Unify. The program: Unify. -/
import Derived.Test.YthicbnejchpmgaaGreatDoorXSr4D
import Derived.Test.YthicbnejchpmgaaGreatDoorXSt0D
namespace Go.Proofs.YthicbnejchpmgaaGreatDoor
open Go.RowKit Go.WideMaps
set_option maxRecDepth 100000
theorem uJ.none {l:List Pl} {r:Int} (h:uJ l r) (hb:∀i h,¬pE l i h):r=-1:=by
 rcases h with ⟨rfl,_⟩ | ⟨i,hi,h,_⟩
 ·rfl
 ·exact absurd h (hb i hi)
theorem aI1 {s:ByteArray} {out:List (List Lt)} {at' er:Int} (h:pB s out at' er) (hs:s.size≤3000) {st:aV} {cs:List (Nat×List Lt)} (hp:uF s=.ok (st,cs)) (hb:∀i h,¬pE st.places i h) (hc:∀i h,¬pA cs i h):out=cs.map (fun p=>aT p.2)∧at'=0∧er=0:=by
 rcases h with ⟨h1,_⟩ | ⟨_,h⟩
 ·omega
 ·rw [hp] at h
  obtain ⟨r,h1,h2⟩:=h
  have:=h1.none hb
  subst this
  rcases h2 with ⟨h0,_⟩ | ⟨_,h3⟩
  ·omega
  ·rcases h3 with ⟨i,hi,hbad,_⟩ | ⟨_,rfl,rfl,rfl⟩
   ·exact absurd hbad (hc i hi)
   ·exact ⟨rfl,rfl,rfl⟩
def pN:Nd:=(⟨#[112]⟩,0)
def cP:List Lt:=[(false,[pN])]
def cNp:List Lt:=[(true,[pN])]
end Go.Proofs.YthicbnejchpmgaaGreatDoor
namespace Go.Proofs.YthicbnejchpmgaaGreatDoor
open Go.RowKit Go.Shelf Go.WideMaps
set_option maxRecDepth 100000
theorem aTz {R:Nat→Nat→Prop} (hr:∀i,R i i) (hs:∀i j,R i j→R j i) (ht:∀i j k,R i j→R j k→R i k):∃rep:Nat→Nat,∀p q,rep p=rep q↔R p q:=by
 refine ⟨fun p=>Classical.epsilon (R p),fun p q=>⟨fun h=>?_,fun h=>?_⟩⟩
 ·have h1:R p (Classical.epsilon (R p)):=Classical.epsilon_spec ⟨p,hr p⟩
  have h2:R q (Classical.epsilon (R q)):=Classical.epsilon_spec ⟨q,hr q⟩
  have h:Classical.epsilon (R p)=Classical.epsilon (R q):=h
  rw [h] at h1
  exact ht _ _ _ h1 (hs _ _ h2)
 ·have:R p=R q:=funext fun k=>propext ⟨fun hk=>ht _ _ _ (hs _ _ h) hk,fun hk=>ht _ _ _ h hk⟩
  show Classical.epsilon (R p)=Classical.epsilon (R q)
  rw [this]
theorem aU0 (M:List Tg) (a b:Nat):∃rep:Nat→Nat,∀p q,rep p=rep q↔eC M a b p q:=
 aTz (fun i=>Cl.refl i) (fun _ _ h=>Cl.symm h) (fun _ _ _ h k=>Cl.trans h k)
def pS (n:Nd):Prop:=aG n=false∧aZ n=0
theorem yA {n:Nd} (hn:pS n) (o1 o2:Int) (rest:List (Int×Lt)) (hr:∀r∈rest,∃m,r.2.2=[m]∧pS m) (hc:aP (aT (rest.map Prod.snd))≤500):gZ [(o1,n),(o2,n)] 0 1 rest (aT (rest.map Prod.snd)) true 0:=by
 have hall:∀x∈[(o1,n),(o2,n)]++bE rest,pS x.2:=by
  intro x hx
  rcases List.mem_append.1 hx with hx | hx
  ·simp at hx
   rcases hx with rfl | rfl <;> exact hn
  ·obtain ⟨r,hr1,hr2⟩:=List.mem_flatMap.1 hx
   obtain ⟨m,e,hm⟩:=hr r hr1
   rw [e] at hr2
   simp at hr2
   subst hr2
   exact hm
 obtain ⟨M,hM⟩ : ∃M,[(o1,n),(o2,n)]++bE rest=M:=⟨_,rfl⟩
 have hch:∀i,(aD (M.map Prod.snd)).ch i=[]:=by
  intro i
  unfold aD
  simp only
  cases hi:(M.map Prod.snd)[i]? with
  | none=>rfl
  | some m=>
   simp only
   have hm:m∈M.map Prod.snd:=List.mem_of_getElem? hi
   obtain ⟨x,hx,rfl⟩:=List.mem_map.1 hm
   rw [←hM] at hx
   rw [(hall x hx).2]
   rfl
 have hrt:∀i,aS M i=i:=by
  intro i
  cases hi:M[i]? with
  | none=>exact oF (List.getElem?_eq_none_iff.1 hi)
  | some x=>exact mP hi (hall x (by rw [hM];exact List.mem_of_getElem? hi)).1
 have hlab:∀i j,eC M 0 1 i j→(aD (M.map Prod.snd)).lab i=(aD (M.map Prod.snd)).lab j:=by
  intro i j h
  induction h with
  | refl=>rfl
  | base h=>
   rcases h with h | ⟨rfl,rfl⟩
   ·rw [hrt,hrt] at h
    rw [h]
   ·unfold aD
    rw [←hM]
    rfl
  | symm _ ih=>exact ih.symm
  | trans _ _ ih1 ih2=>exact ih1.trans ih2
  | down _ _ _ h=>rw [hch] at h;simp at h
 obtain ⟨rep,hrep⟩:=aU0 M 0 1
 refine Or.inr ⟨⟨fun i j h _ _=>?_,fun p _=>⟨p,fun j _ _ q hq=>?_⟩⟩,rep,rest.map (fun r=>r.2.2),?_,?_,Or.inr ⟨?_,?_,rfl,rfl⟩⟩
 ·rw [hM] at h ⊢
  exact hlab i j h
 ·rw [hM,hch] at hq
  cases hq
 ·rw [hM]
  exact hrep
 ·rw [hM]
  have key:∀(rs:List (Int×Lt)) (pre:List Tg),pre++bE rs=M→(∀r∈rs,∃m,r.2.2=[m]∧pS m)→aK (fun p l=>aO (aD (M.map Prod.snd)) (eC M 0 1) rep [p] l) (dK pre.length rs) (rs.map (fun r=>r.2.2)):=by
   intro rs
   induction rs with
   | nil=>intro _ _ _;exact aK.nil
   | cons r rs ih=>
    intro pre hp hrr
    obtain ⟨m,e,hm⟩:=hrr r (by simp)
    have hput:bE (r :: rs)=(r.1,m) :: bE rs:=by simp [bE,e]
    rw [hput] at hp
    have hat:(M.map Prod.snd)[pre.length]?=some m:=by rw [←hp];simp
    refine aK.cons ?_ ?_
    ·show aO _ _ _ _ r.2.2
     rw [e]
     have hl:(aD (M.map Prod.snd)).lab pre.length=m:=by unfold aD;simp only [hat,Option.getD_some]
     have:=aO.name (G:=aD (M.map Prod.snd)) (R:=eC M 0 1) (rep:=rep) (i:=pre.length) (j:=pre.length) (r:=[]) (l:=[]) (Cl.refl _) (by unfold Gr.named;rw [hl];exact hm.1) (by rw [hch];exact aO.nil)
     rwa [hl] at this
    ·have:=ih (pre++[(r.1,m)]) (by rw [←hp];simp) (fun r' h'=>hrr r' (by simp [h']))
     simpa [e] using this
  exact key rest [(o1,n),(o2,n)] hM hr
 ·have:cG rest (rest.map fun r=>r.2.2)=rest.map Prod.snd:=by
   unfold cG
   clear hall hM hch hrt hlab hrep hr hc
   induction rest with
   | nil=>rfl
   | cons r rs ih=>simp at ih ⊢;exact ih
  rw [this]
  exact hc
 ·have:cG rest (rest.map fun r=>r.2.2)=rest.map Prod.snd:=by
   unfold cG
   clear hall hM hch hrt hlab hrep hr hc
   induction rest with
   | nil=>rfl
   | cons r rs ih=>simp at ih ⊢;exact ih
  rw [this]
theorem bP.push {x:aH×Int} {r:List (aH×Int)} {L L':List Cd} {n n':Nat} {b b':Bool} (h:bP (x :: r) L n b L' n' b') (h1:x.2=0) (h2:dV x.1.c=true) (h3:oI x.1.c=false):∃ad cp,bP r (gN L.length (L++[dL x.1 ad cp n]) L.length) (n+1) b L' n' b':=by
 unfold bP at h
 rw [if_neg (by simp [h1,h2]),if_neg (by simp [h3])] at h
 exact h
theorem aU1:pS pN:=⟨by kernel_rfl,by kernel_rfl⟩
end Go.Proofs.YthicbnejchpmgaaGreatDoor
namespace Go.Proofs.YthicbnejchpmgaaGreatDoor
open Go.RowKit Go.Shelf
set_option maxRecDepth 100000
theorem aI2 {c:List Lt} (h:bV c=true):kW c∧c.length≤8:=by
 simp only [bV,Bool.and_eq_true,dV,decide_eq_true_eq,List.all_eq_true] at h
 exact ⟨fun l hl=>aEy (h.1.2 l hl),h.1.1.1⟩
theorem cK.of {w:World} {a:Option Addr} {c:List Lt} (h:bS w a c) (hc:wV w a c) (h8:c.length≤8) (hf:kW c):cK w w.heap.size a c:=by
 refine ⟨h8,fun k hk=>?_⟩
 obtain ⟨b,o,aa,cap,e,h1,h2,h3⟩:=h.cell k hk
 refine ⟨b,o,aa,cap,e,Or.inl (World.block_lt_of_cell? w _ h1),h1,h2,hc k hk b o aa _ cap e h2,h3,fun p hp=>?_⟩
 have hn:=aO2 (q:=0) (hf c[k] (List.getElem_mem _)).1
 have h0:0 < c[k].2.length:=by
  rcases Nat.eq_zero_or_pos c[k].2.length with h | h
  ·exact absurd (List.eq_nil_of_length_eq_zero h) hn
  ·exact h
 obtain ⟨b',o',e',h4,_⟩:=h3.cell 0 h0
 rw [hp] at e'
 simp at e'
 rw [e']
 exact World.block_lt_of_cell? w _ h4
set_option maxHeartbeats 4000000 in
theorem aU2 (a1 a2:Option Addr) (c1 c2:Nat) (l1 l2:List Lt) (w:World) (h1:bS w a1 l1) (h2:bS w a2 l2) (k1:wV w a1 l1) (k2:wV w a2 l2) (hc1:l1.length≤c1) (i1:bV l1=true) (i2:bV l2=true) :
  Calls Tryz.prog 62 #[.slice a1 l1.length c1,.slice a2 l2.length c2] w fun e w'=>∃r:Bool,e=.returned (.bool r)∧(r=true↔l1.length≤l2.length∧iF l2 l1 [])∧Below w.heap.size w w':=by
 obtain ⟨f1,n1⟩:=aI2 i1
 obtain ⟨f2,n2⟩:=aI2 i2
 have HF1:=aA f1
 have HF2:=aA f2
 have H1:=aA h1
 have H2:=aA h2
 have K1:=aA k1
 have K2:=aA k2
 clear i1 i2 f1 f2 h1 h2 k1 k2
 go_enter Tryz.func62,Tryz.ntmps62
 go_upto_region 1 with (fail)
 apply wp_region_lit
 refine aVs rfl rfl rfl rfl _ _ _ _ rfl rfl rfl rfl a2 l2.length c2 rfl (by rfl) (by rfl) (by rfl) ?_
 have hL1:=cK.of H1.out K1.out n1 HF1.out
 have hL2:=cK.of H2.out K2.out n2 HF2.out
 have hbm:Below w.heap.size w (w.alloc (.cells (gI (.slice a2 l2.length c2)) 149)):=(Below.refl _ _).alloc (Nat.le_refl _) _
 have HB3:=aA hbm
 have CA:=aA (aJj l1.length w.heap.size w.heap.size a2 c2 l2 [] _ a1 c1 l1 (Nat.le_refl _) (bN.new w (.slice a2 l2.length c2)) (hL2.fr (Fr.of_below hbm)) (hL1.fr (Fr.of_below hbm)) hc1 HF2.out HF1.out (by simp))
 clear hL1 hL2 hbm
 by_cases hle:l1.length≤l2.length
 ·have hlei:(l1.length:Int)≤(l2.length:Int):=by omega
  go_wp2_with (go_at_call 94;refine (aB CA).mono ?_;rintro e w4 ⟨r,L',rfl,hm4,hf4,-,hr1,hr2⟩;have HM4:=aA hm4;have HB4:=aA (HB3.out.trans ((hf4.below (by simp)).mono (Nat.le_refl _)));have HR1:=aA hr1;have HR2:=aA hr2;clear hm4 hf4 hr1 hr2)
  go_ret
  refine ⟨r,rfl,?_,HB4.out⟩
  cases r with
  | true=>
   obtain ⟨hg,hmd⟩:=HR1.out rfl
   refine ⟨fun _=>⟨hle,?_⟩,fun _=>rfl⟩
   obtain ⟨σ,h1,h2,_⟩:=aOa (d:=l2) HM4.out.ok.look
   exact ⟨σ,h1,hg.ext h2,hmd σ h1 h2⟩
  | false=>exact ⟨fun h=>by simp at h,fun h=>absurd h.2 (HR2.out rfl)⟩
 ·have hlei:decide ((l1.length:Int)≤(l2.length:Int))=false:=by rw [decide_eq_false_iff_not];omega
  have hlt:(l2.length:Int) < (l1.length:Int):=by omega
  go_wp2
  go_ret
  exact ⟨false,rfl,⟨fun h=>by simp at h,fun h=>absurd h.1 hle⟩,HB3.out⟩
end Go.Proofs.YthicbnejchpmgaaGreatDoor
namespace Go.Proofs.YthicbnejchpmgaaGreatDoor
open Go.RowKit Go.Shelf Go.WideMaps
set_option maxRecDepth 100000
theorem aU3 (B:Nat) (a1 a2:Option Addr) (c1 c2:Nat) (c d:List Lt) (w:World) (h1:bK B w (.slice a1 c.length c1) c) (h2:bK B w (.slice a2 d.length c2) d) (i1:bV c=true) (i2:bV d=true) :
  Calls Tryz.prog 62 #[.slice a1 c.length c1,.slice a2 d.length c2] w fun e w'=>e=.returned (.bool (bX c d))∧Below w.heap.size w w':=by
 obtain ⟨a,cp,e,hcp,L1,K1⟩:=h1.lits (kT i1)
 cases e
 obtain ⟨a',cp',e,hcp',L2,K2⟩:=h2.lits (kT i2)
 cases e
 refine (aU2 a1 a2 c1 c2 c d w L1 L2 K1 K2 hcp i1 i2).mono ?_
 rintro e w' ⟨r,rfl,hr,hb⟩
 exact ⟨by rw [aIi hr],hb⟩
theorem aBr {c d:List Lt} (i1:bV c=true) (i2:bV d=true):kX c d:=fun B a1 a2 c1 c2 w h1 h2=>aU3 B a1 a2 c1 c2 c d w h1 h2 i1 i2
def kV (c:List Lt):Bool:=c.all fun l=>match l.2 with | [n]=>!aG n && aZ n == 0 | _=>false
theorem vG {c:List Lt} (h:kV c=true) {l:Lt} (hl:l∈c):∃n,l.2=[n]∧pS n:=by
 have:=List.all_eq_true.1 h l hl
 split at this
 ·rename_i n e
  simp at this
  exact ⟨n,e,this.1,this.2⟩
 ·cases this
def vH (c d:List Lt):Bool:=decide (c.length≤d.length) && c.all fun l=>d.any fun m=>decide (m=l)
theorem aI3 {d:List Lt} {l:Lt}:(d.any fun m=>decide (m=l))=true↔l∈d:=by
 rw [List.any_eq_true]
 constructor
 ·rintro ⟨m,hm,e⟩
  have:=of_decide_eq_true e
  subst this
  exact hm
 ·intro h
  exact ⟨l,h,decide_eq_true rfl⟩
theorem aBs {c d:List Lt} (h:kV c=true):bX c d=vH c d:=by
 refine (aIi ?_).symm
 unfold vH
 rw [Bool.and_eq_true,decide_eq_true_eq,List.all_eq_true]
 refine and_congr Iff.rfl ⟨fun hc=>?_,fun ⟨σ,_,_,hc⟩ l hl=>?_⟩
 ·refine ⟨fun _=>[(⟨#[]⟩,0)],fun _=>by kernel_rfl,fun x t hx=>by simp [look] at hx,fun l hl=>?_⟩
  obtain ⟨n,e,hn⟩:=vG h hl
  have:=aI3.1 (hc l hl)
  rw [e,iP]
  simp only [hn.1,Bool.false_eq_true,if_false]
  rw [show ([n]++subst _ []:List Nd)=l.2 by rw [e];rfl]
  exact this
 ·obtain ⟨n,e,hn⟩:=vG h hl
  have:=hc l hl
  rw [e,iP] at this
  simp only [hn.1,Bool.false_eq_true,if_false] at this
  rw [show ([n]++subst σ []:List Nd)=l.2 by rw [e];rfl] at this
  exact aI3.2 this
theorem aI4 {c d:List Lt} {p:Nat×Nat} (h:p∈fT c d):p.1 < c.length∧p.2 < d.length∧iY c p.1=iY d p.2:=by
 obtain ⟨i,j⟩:=p
 obtain ⟨k,hk,e⟩:=List.getElem_of_mem h
 have h1:=aBn (k:=k) (by rw [List.getElem?_eq_getElem hk,e])
 unfold fT lT at h
 obtain ⟨a,_,h2⟩:=List.mem_flatMap.1 h
 unfold kU at h2
 obtain ⟨b,h3,h4⟩:=List.mem_map.1 h2
 have h5:=(List.mem_filter.1 h3).2
 simp at h4 h5
 obtain ⟨rfl,rfl⟩:=h4
 exact ⟨h1.1,h1.2,h5⟩
theorem aI5 {c d:List Lt} (hc:kV c=true) (hd:kV d=true) {i j:Nat} (hi:i < c.length) (hj:j < d.length) (h:iY c i=iY d j):∃n,c[i].2=[n]∧d[j].2=[n]∧pS n:=by
 obtain ⟨n,e,hn⟩:=vG hc (List.getElem_mem hi)
 obtain ⟨m,f,_⟩:=vG hd (List.getElem_mem hj)
 unfold iY at h
 rw [List.getElem?_eq_getElem hi,List.getElem?_eq_getElem hj] at h
 simp [e,f] at h
 subst h
 exact ⟨n,e,f,hn⟩
theorem aBt {c:List Lt} (hc:kV c=true) (o:Int) (i:Nat):∀r∈(c.eraseIdx i).map (fun l=>(o,l)),∃m,r.2.2=[m]∧pS m:=by
 intro r hr
 obtain ⟨l,hl,rfl⟩:=List.mem_map.1 hr
 exact vG hc (List.mem_of_mem_eraseIdx hl)
def aBu (c:List Lt) (a:Nat) (d:List Lt) (b:Nat) (p:Nat×Nat):Option (aH×Int):=if jN c p.1≠jN d p.2 then some (⟨2,a,b,p.1,p.2,aT (c.eraseIdx p.1++d.eraseIdx p.2)⟩,0) else none
def aBv (c:List Lt) (a:Nat) (p:Nat×Nat):Option (aH×Int):=if p.1 < p.2∧jN c p.1=jN c p.2 then some (⟨3,a,0,p.1,p.2,aT (c.eraseIdx p.2)⟩,0) else none
def aI6 (c d:List Lt):Bool:=(fT c d).all fun p=>decide (aP (aT (c.eraseIdx p.1++d.eraseIdx p.2))≤500)
def aI7 (c:List Lt):Bool:=(fT c c).all fun p=>decide (aP (aT (c.eraseIdx p.2))≤500)
theorem aBw {α β:Type} {f g:α→Option β}:∀(l:List α),(∀x∈l,f x=g x)→l.filterMap f=l.filterMap g
 | [],_=>rfl
 | x :: l,h=>by rw [List.filterMap_cons,List.filterMap_cons,h x (by simp),aBw l fun y hy=>h y (by simp [hy])]
theorem aU4 {c d:List Lt} (a b:Nat) (hc:kV c=true) (hd:kV d=true) (hs:aI6 c d=true):jO c a d b=(fT c d).filterMap (aBu c a d b):=by
 unfold jO
 refine aBw _ fun p hp=>?_
 obtain ⟨hi,hj,hh⟩:=aI4 hp
 obtain ⟨n,e,f,hn⟩:=aI5 hc hd hi hj hh
 have hcnt:=of_decide_eq_true (List.all_eq_true.1 hs p hp)
 have hr:aX 0 [(c,p.1),(d,p.2)]=(c.eraseIdx p.1).map (fun l=>((0:Int),l))++(d.eraseIdx p.2).map (fun l=>((1:Int),l)):=by simp [aX]
 have hm:(aX 0 [(c,p.1),(d,p.2)]).map Prod.snd=c.eraseIdx p.1++d.eraseIdx p.2:=by
  rw [hr,List.map_append,List.map_map,List.map_map]
  congr 1
  ·exact List.map_id _
  ·exact List.map_id _
 have h1:gZ (aJ 0 c[p.1].2++aJ 1 d[p.2].2) 0 c[p.1].2.length (aX 0 [(c,p.1),(d,p.2)]) (aT (c.eraseIdx p.1++d.eraseIdx p.2)) true 0:=by
  have:=yA hn 0 1 (aX 0 [(c,p.1),(d,p.2)]) (by
   rw [hr]
   intro r hr
   rcases List.mem_append.1 hr with hr | hr
   ·exact aBt hc 0 _ r hr
   ·exact aBt hd 1 _ r hr) (by rw [hm];exact hcnt)
  rw [hm] at this
  rw [e,f]
  exact this
 have h2:=aHo hi hj h1
 unfold mZ aBu
 rw [h2]
 simp
theorem aU5 {c:List Lt} (a:Nat) (hc:kV c=true) (hs:aI7 c=true):qR c a=(fT c c).filterMap (aBv c a):=by
 unfold qR
 refine aBw _ fun p hp=>?_
 obtain ⟨hi,hj,hh⟩:=aI4 hp
 obtain ⟨n,e,f,hn⟩:=aI5 hc hc hi hj hh
 have hcnt:=of_decide_eq_true (List.all_eq_true.1 hs p hp)
 have hr:aX 0 [(c,p.2)]=(c.eraseIdx p.2).map (fun l=>((0:Int),l)):=by simp [aX]
 have hm:(aX 0 [(c,p.2)]).map Prod.snd=c.eraseIdx p.2:=by
  rw [hr,List.map_map]
  exact List.map_id _
 have h1:gZ (aJ 0 c[p.1].2++aJ 0 c[p.2].2) 0 c[p.1].2.length (aX 0 [(c,p.2)]) (aT (c.eraseIdx p.2)) true 0:=by
  have:=yA hn 0 0 (aX 0 [(c,p.2)]) (by rw [hr];exact aBt hc 0 _) (by rw [hm];exact hcnt)
  rw [hm] at this
  rw [e,f]
  exact this
 have h2:=aHn hi hj h1
 unfold lU aBv
 rw [h2]
 simp
def aBx (cs:List (List Lt)) (a:Nat) (os:List Nat):List (aH×Int):=(fT (cs.getD a []) (cs.getD a [])).filterMap (aBv (cs.getD a []) a)++os.flatMap fun b=>(fT (cs.getD a []) (cs.getD b [])).filterMap (aBu (cs.getD a []) a (cs.getD b []) b)
def okF (cs:List (List Lt)) (a:Nat) (os:List Nat):Bool:=kV (cs.getD a []) && aI7 (cs.getD a []) && os.all fun b=>kV (cs.getD b []) && aI6 (cs.getD a []) (cs.getD b [])
theorem aI8 {α β:Type} {f g:α→List β}:∀(l:List α),(∀x∈l,f x=g x)→l.flatMap f=l.flatMap g
 | [],_=>rfl
 | x :: l,h=>by rw [List.flatMap_cons,List.flatMap_cons,h x (by simp),aI8 l fun y hy=>h y (by simp [hy])]
theorem aU6 {T:List (aH×Value)} {cs:List (List Lt)} {a:Nat} {os:List Nat} (hT:∀k,aL T k=cs.getD k []) (h:okF cs a os=true):jP T a os=aBx cs a os:=by
 unfold okF at h
 rw [Bool.and_eq_true,Bool.and_eq_true,List.all_eq_true] at h
 obtain ⟨⟨h1,h2⟩,h3⟩:=h
 unfold jP aBx
 rw [hT a,aU5 a h1 h2]
 congr 1
 refine aI8 _ fun b hb=>?_
 have h4:=h3 b hb
 rw [Bool.and_eq_true] at h4
 rw [hT b,aU4 a b h1 h4.1 h4.2]
def aBz (cs:List (List Lt)) (ks:List Nat) (c:List Lt):List Nat:=(ks.filter fun k=>!vH c (cs.getD k []))++[cs.length]
theorem aU7 {T:List (aH×Value)} {cs:List (List Lt)} {ks:List Nat} {c:List Lt} (hT:∀k,aL T k=cs.getD k []) (hl:T.length=cs.length) (h:kV c=true):cO T ks c=aBz cs ks c:=by
 unfold cO aBz
 rw [hl]
 congr 2
 funext k
 rw [hT,aBs h]
theorem aI9 {T:List (aH×Value)} {cs:List (List Lt)} {ks:List Nat} (hT:∀k,aL T k=cs.getD k []) (h:ks.all (fun k=>kV (cs.getD k []))=true):(fun c=>ks.any fun k=>bX (aL T k) c)=fun c=>ks.any fun k=>vH (cs.getD k []) c:=by
 funext c
 rw [Bool.eq_iff_iff,List.any_eq_true,List.any_eq_true]
 constructor
 ·rintro ⟨k,hk,h2⟩
  refine ⟨k,hk,?_⟩
  rwa [hT,aBs (List.all_eq_true.1 h k hk)] at h2
 ·rintro ⟨k,hk,h2⟩
  refine ⟨k,hk,?_⟩
  rwa [hT,aBs (List.all_eq_true.1 h k hk)]
theorem vI (T:List (aH×Value)) (k:Nat):aL T k=(T.map fun p=>p.1.c).getD k []:=by
 unfold aL
 rw [List.getD_eq_getElem?_getD,List.getElem?_map]
theorem cZ.takeF {lim:Nat} {Q:Nat→List (aH×Value)→List Nat→Bool→Prop} {L L':List Cd} {n:Nat} {T:List (aH×Value)} {ks ks':List Nat} {b:Bool} {x:Cd} {F:List (aH×Int)} (cs:List (List Lt)) (s:aH) (hs:vR x s.r s.a s.b s.i s.j∧x.c=s.c) (hT:(T.map fun p=>p.1.c)=cs) (hcl:(∀x∈L,bV x.c=true)) (hkc:ks.all (fun k=>bV (cs.getD k []) && kV (cs.getD k []))=true) (hsc:bV s.c=true) (hsf:kV s.c=true)
  (h:jS (fun c=>ks.any fun k=>vH (cs.getD k []) c) L.length L=some (x,L')) (hc:s.c≠[]) (hl:T.length≠lim) (hk:aBz cs ks s.c=ks') (hok:okF (cs++[s.c]) cs.length ks'=true) (hF:aBx (cs++[s.c]) cs.length ks'=F)
  (hFc:F.all (fun y=>decide (y.2=0) && bV y.1.c)=true) (hW:∀y∈F,sF y.1.c) (hLF:L'.length+F.length≤1000000) (hnF:n+F.length≤1000000)
  (next:∀L2 n2 b2,bP F L' n b L2 n2 b2→cZ lim Q L2 n2 (T++[(s,.slice x.ad x.ln x.cp)]) ks' b2):cZ lim Q L n T ks b:=by
 have hTk:∀k,aL T k=cs.getD k []:=fun k=>by rw [vI,hT]
 have hTl:T.length=cs.length:=by rw [←hT];simp
 have hkk:=List.all_eq_true.1 hkc
 have hk2:cO T ks s.c=ks':=by rw [aU7 hTk hTl hsf,hk]
 have hf2:jP (T++[(s,.slice x.ad x.ln x.cp)]) T.length ks'=F:=by
  rw [hTl,aU6 (cs:=cs++[s.c]) (fun k=>by rw [vI,List.map_append,hT];rfl) hok,hF]
 refine cZ.take s hs (fun x hx k hk=>?_) (by rw [aI9 hTk (List.all_eq_true.2 fun k hk=>(Bool.and_eq_true _ _▸hkk k hk).2)];exact h) hc hl (fun k hk=>?_) ?_ ?_ ?_ ?_
 ·rw [hTk]
  exact aBr (Bool.and_eq_true _ _▸hkk k hk).1 (hcl x hx)
 ·rw [hTk]
  exact aBr hsc (Bool.and_eq_true _ _▸hkk k hk).1
 all_goals rw [hk2,hf2]
 ·intro y hy
  have:=List.all_eq_true.1 hFc y hy
  rw [Bool.and_eq_true] at this
  exact ⟨hW y hy,fun _ _=>this.2⟩
 ·exact hLF
 ·exact hnF
 ·exact next
theorem aIa {l:List Pl} (h:∀x∈l,x.2.1=true∧x.2.2.1=0):∀i hi,¬pE l i hi:=by
 intro i hi
 unfold pE aAp
 have h1:=h l[i] (List.getElem_mem hi)
 rintro (h2 | ⟨k,hk,_,h3⟩)
 ·rw [h1.2] at h2
  omega
 ·have h4:=h _ (List.getElem_mem (Nat.lt_trans hk hi))
  rcases h3 with h3 | h3
  ·exact h3 (h4.1.trans h1.1.symm)
  ·exact h3 (h4.2.trans h1.2.symm)
theorem aIb {cs:List (Nat×List Lt)} (hl:cs.length≤40) (h:cs.all (fun p=>dV (aT p.2))=true):∀i hi,¬pA cs i hi:=by
 intro i hi
 unfold pA
 rintro (h1 | h1)
 ·omega
 ·have:=List.all_eq_true.1 h _ (List.getElem_mem hi)
  rw [h1] at this
  cases this
def qN:Nd:=(⟨#[113]⟩,0)
def cQ:List Lt:=[(false,[qN])]
def nB:List Lt:=[(true,[qN])]
def jA:List Lt:=[(true,[pN]),(false,[qN])]
abbrev yB:ByteArray:=⟨#[112,46,32,126,112,32,124,32,113,46,32,126,113,46]⟩
abbrev aC0:ByteArray:=⟨#[112,46,32,126,112,32,124,32,113,46]⟩
theorem aU8:uF yB=.ok (⟨10,[],[(⟨#[112]⟩,true,0,0),(⟨#[112]⟩,true,0,4),(⟨#[113]⟩,true,0,8),(⟨#[113]⟩,true,0,12)]⟩,[(0,[(false,[pN])]),(3,[(true,[pN]),(false,[qN])]),(11,[(true,[qN])])]):=by kernel_rfl
theorem aU9:uF aC0=.ok (⟨7,[],[(⟨#[112]⟩,true,0,0),(⟨#[112]⟩,true,0,4),(⟨#[113]⟩,true,0,8)]⟩,[(0,[(false,[pN])]),(3,[(true,[pN]),(false,[qN])])]):=by kernel_rfl
theorem yC {out:List (List Lt)} {at' er:Int} (h:pB yB out at' er):out=[cP,jA,nB]∧at'=0∧er=0:=by
 have:=aI1 h (by decide) aU8 (aIa (by simp)) (aIb (by decide) (by kernel_rfl))
 rw [show [cP,jA,nB]=[(0,[(false,[pN])]),(3,[(true,[pN]),(false,[qN])]),(11,[(true,[qN])])].map (fun p:Nat×List Lt=>aT p.2) by kernel_rfl]
 exact this
theorem aIc {out:List (List Lt)} {at' er:Int} (h:pB aC0 out at' er):out=[cP,jA]∧at'=0∧er=0:=by
 have:=aI1 h (by decide) aU9 (aIa (by simp)) (aIb (by decide) (by kernel_rfl))
 rw [show [cP,jA]=[(0,[(false,[pN])]),(3,[(true,[pN]),(false,[qN])])].map (fun p:Nat×List Lt=>aT p.2) by kernel_rfl]
 exact this
def jQ:aH:=⟨1,0,0,0,0,cP⟩
def hH:aH:=⟨1,1,0,0,0,jA⟩
def nC:aH:=⟨1,2,0,0,0,nB⟩
def nV:aH:=⟨2,2,0,0,0,cQ⟩
def vJ:aH:=⟨2,2,1,1,0,cNp⟩
def nW:aH:=⟨2,3,1,0,0,[]⟩
def vK:aH:=⟨2,1,0,0,0,cQ⟩
theorem aUa {c:List Lt} (h:bV c=true):sF c:=by
 have n:=kT h
 refine ⟨by have:=n.len;omega,fun x hx=>⟨by have:=(n.term x hx).2;omega,fun k hk=>?_⟩⟩
 have:=aGk (aBa _ _ (n.term x hx).1 _ (List.getElem_mem hk))
 omega
theorem aC1 {F:List (aH×Int)} (h:F.all (fun y=>decide (y.2=0) && bV y.1.c)=true):∀y∈F,sF y.1.c:=fun y hy=>by
 have:=List.all_eq_true.1 h y hy
 rw [Bool.and_eq_true] at this
 exact aUa this.2
def vO (vd:Nat) (T:List (aH×Value)) (_:List Nat) (b:Bool):Prop:=vd=1∧T.map Prod.fst=[jQ,nC,hH,nV,nW]∧b=false
def yD (vd:Nat) (_:List (aH×Value)) (_:List Nat) (b:Bool):Prop:=vd=2∧b=false
theorem aUb {L:List Cd} {n:Nat} (h:bP (jU [cP,jA,nB]) [] 0 false L n false):cZ 100 vO L n [] [] false:=by
 have e:jU [cP,jA,nB]=[(jQ,0),(hH,0),(nC,0)]:=rfl
 rw [e] at h
 obtain ⟨ad0,cp0,h⟩:=h.push rfl (by kernel_rfl) (by kernel_rfl)
 obtain ⟨ad1,cp1,h⟩:=h.push rfl (by kernel_rfl) (by kernel_rfl)
 obtain ⟨ad2,cp2,h⟩:=h.push rfl (by kernel_rfl) (by kernel_rfl)
 obtain ⟨rfl,rfl,_⟩:=h
 refine (show ∀L n,L=[dL jQ ad0 cp0 0,dL hH ad1 cp1 1,dL nC ad2 cp2 2]→n=3→cZ 100 vO L n [] [] false from ?_) _ _ (by kernel_rfl) rfl
 rintro L n rfl rfl
 refine cZ.takeF [] jQ (x:=dL jQ ad0 cp0 0) (L':=[dL nC ad2 cp2 2,dL hH ad1 cp1 1]) (ks':=[0]) (F:=[]) ⟨⟨rfl,rfl,rfl,rfl,rfl⟩,rfl⟩ rfl ?_ rfl (by kernel_rfl) (by kernel_rfl) (by kernel_rfl) (by simp [jQ,cP]) (by decide) (by kernel_rfl) (by kernel_rfl) (by kernel_rfl) rfl (by simp) (by simp) (by simp) ?_
 ·intro x hx
  simp at hx
  rcases hx with rfl | rfl | rfl <;> kernel_rfl
 rintro L2 n2 b2 ⟨rfl,rfl,rfl⟩
 refine cZ.takeF [cP] nC (x:=dL nC ad2 cp2 2) (L':=[dL hH ad1 cp1 1]) (ks':=[0,1]) (F:=[]) ⟨⟨rfl,rfl,rfl,rfl,rfl⟩,rfl⟩ rfl ?_ (by kernel_rfl) (by kernel_rfl) (by kernel_rfl) (by kernel_rfl) (by simp [nC,nB]) (by simp) (by kernel_rfl) (by kernel_rfl) (by kernel_rfl) rfl (by simp) (by simp) (by simp) ?_
 ·intro x hx
  simp at hx
  rcases hx with rfl | rfl <;> kernel_rfl
 rintro L2 n2 b2 ⟨rfl,rfl,rfl⟩
 refine cZ.takeF [cP,nB] hH (x:=dL hH ad1 cp1 1) (L':=[]) (ks':=[0,1,2]) (F:=[(nV,0),(vJ,0)]) ⟨⟨rfl,rfl,rfl,rfl,rfl⟩,rfl⟩ rfl ?_ (by kernel_rfl) (by kernel_rfl) (by kernel_rfl) (by kernel_rfl) (by simp [hH,jA]) (by simp) (by kernel_rfl) (by kernel_rfl) (by kernel_rfl) (by kernel_rfl) (aC1 (by kernel_rfl)) (by simp) (by simp) ?_
 ·intro x hx
  simp at hx
  subst hx
  kernel_rfl
 intro L2 n2 b2 h
 obtain ⟨ad3,cp3,h⟩:=h.push rfl (by kernel_rfl) (by kernel_rfl)
 obtain ⟨ad4,cp4,h⟩:=h.push rfl (by kernel_rfl) (by kernel_rfl)
 obtain ⟨rfl,rfl,rfl⟩:=h
 refine (show ∀L n,L=[dL nV ad3 cp3 3,dL vJ ad4 cp4 4]→n=5→cZ 100 vO L n _ _ _ from ?_) _ _ (by kernel_rfl) rfl
 rintro L n rfl rfl
 refine cZ.takeF [cP,nB,jA] nV (x:=dL nV ad3 cp3 3) (L':=[dL vJ ad4 cp4 4]) (ks':=[0,1,3]) (F:=[(nW,0)]) ⟨⟨rfl,rfl,rfl,rfl,rfl⟩,rfl⟩ rfl ?_ (by kernel_rfl) (by kernel_rfl) (by kernel_rfl) (by kernel_rfl) (by simp [nV,cQ]) (by simp) (by kernel_rfl) (by kernel_rfl) (by kernel_rfl) (by kernel_rfl) (aC1 (by kernel_rfl)) (by simp) (by simp) ?_
 ·intro x hx
  simp at hx
  rcases hx with rfl | rfl <;> kernel_rfl
 intro L2 n2 b2 h
 obtain ⟨ad5,cp5,h⟩:=h.push rfl (by kernel_rfl) (by kernel_rfl)
 obtain ⟨rfl,rfl,rfl⟩:=h
 refine (show ∀L n,L=[dL nW ad5 cp5 5,dL vJ ad4 cp4 4]→n=6→cZ 100 vO L n _ _ _ from ?_) _ _ (by kernel_rfl) rfl
 rintro L n rfl rfl
 refine cZ.unsat nW (x:=dL nW ad5 cp5 5) (L':=[dL vJ ad4 cp4 4]) ⟨⟨rfl,rfl,rfl,rfl,rfl⟩,rfl⟩ (fun x hx k hk=>?_) ?_ rfl ⟨rfl,rfl,rfl⟩
 ·rw [vI]
  simp at hx hk
  rcases hx with rfl | rfl <;> rcases hk with rfl | rfl | rfl <;> exact aBr (by kernel_rfl) (by kernel_rfl)
 ·rw [aI9 (cs:=[cP,nB,jA,cQ]) (fun k=>by rw [vI];rfl) (by kernel_rfl)]
  kernel_rfl
theorem aUc {L:List Cd} {n:Nat} (h:bP (jU [cP,jA]) [] 0 false L n false):cZ 100 yD L n [] [] false:=by
 have e:jU [cP,jA]=[(jQ,0),(hH,0)]:=rfl
 rw [e] at h
 obtain ⟨ad0,cp0,h⟩:=h.push rfl (by kernel_rfl) (by kernel_rfl)
 obtain ⟨ad1,cp1,h⟩:=h.push rfl (by kernel_rfl) (by kernel_rfl)
 obtain ⟨rfl,rfl,_⟩:=h
 refine (show ∀L n,L=[dL jQ ad0 cp0 0,dL hH ad1 cp1 1]→n=2→cZ 100 yD L n [] [] false from ?_) _ _ (by kernel_rfl) rfl
 rintro L n rfl rfl
 refine cZ.takeF [] jQ (x:=dL jQ ad0 cp0 0) (L':=[dL hH ad1 cp1 1]) (ks':=[0]) (F:=[]) ⟨⟨rfl,rfl,rfl,rfl,rfl⟩,rfl⟩ rfl ?_ rfl (by kernel_rfl) (by kernel_rfl) (by kernel_rfl) (by simp [jQ,cP]) (by decide) (by kernel_rfl) (by kernel_rfl) (by kernel_rfl) rfl (by simp) (by simp) (by simp) ?_
 ·intro x hx
  simp at hx
  rcases hx with rfl | rfl <;> kernel_rfl
 rintro L2 n2 b2 ⟨rfl,rfl,rfl⟩
 refine cZ.takeF [cP] hH (x:=dL hH ad1 cp1 1) (L':=[]) (ks':=[0,1]) (F:=[(vK,0)]) ⟨⟨rfl,rfl,rfl,rfl,rfl⟩,rfl⟩ rfl ?_ (by kernel_rfl) (by kernel_rfl) (by kernel_rfl) (by kernel_rfl) (by simp [hH,jA]) (by simp) (by kernel_rfl) (by kernel_rfl) (by kernel_rfl) (by kernel_rfl) (aC1 (by kernel_rfl)) (by simp) (by simp) ?_
 ·intro x hx
  simp at hx
  subst hx
  kernel_rfl
 intro L2 n2 b2 h
 obtain ⟨ad2,cp2,h⟩:=h.push rfl (by kernel_rfl) (by kernel_rfl)
 obtain ⟨rfl,rfl,rfl⟩:=h
 refine (show ∀L n,L=[dL vK ad2 cp2 2]→n=3→cZ 100 yD L n _ _ _ from ?_) _ _ (by kernel_rfl) rfl
 rintro L n rfl rfl
 refine cZ.takeF [cP,jA] vK (x:=dL vK ad2 cp2 2) (L':=[]) (ks':=[0,2]) (F:=[]) ⟨⟨rfl,rfl,rfl,rfl,rfl⟩,rfl⟩ rfl ?_ (by kernel_rfl) (by kernel_rfl) (by kernel_rfl) (by kernel_rfl) (by simp [vK,cQ]) (by simp) (by kernel_rfl) (by kernel_rfl) (by kernel_rfl) rfl (by simp) (by simp) (by simp) ?_
 ·intro x hx
  simp at hx
  subst hx
  kernel_rfl
 rintro L2 n2 b2 ⟨rfl,rfl,rfl⟩
 exact cZ.sat (fun x hx=>by simp at hx) rfl ⟨rfl,rfl⟩
theorem aUd (b:Bool) (l:List Nd):aT [(b,l)]=[(b,(bW l []).1)]:=by
 have h:eR [] (b,l)=false:=rfl
 simp [aT,cH,dY,cX,dM,h]
theorem aUe {w:World} {B g c n:Nat} {l:List Nd} (h:w.ownsRow B 28 2 (.slice (some ⟨g,0,none⟩) n c) l.length (aQ l)) (hf:l.length≤5864062014805) (hs:∀n∈l,n.1.size≤140737488355328):bQ w (some ⟨g,0,none⟩) l:=by
 obtain ⟨a,cap,e,hc⟩:=aAb h
 simp at e
 obtain ⟨rfl,_,_⟩:=e
 refine ⟨hf,fun k hk=>hs _ (List.getElem_mem _),fun k hk=>?_⟩
 obtain ⟨g',e,h1,h2⟩:=hc k _ (List.getElem?_eq_getElem hk)
 simp at e
 subst e
 exact ⟨g,0,rfl,by simpa using h1,by simpa using h2⟩
theorem aUf {w:World} {g c n:Nat} {l:List Nd} (h:bQ w (some ⟨g,0,none⟩) l) (hn:n=l.length):bS (w.alloc (.cells #[.bool false,.slice (some ⟨g,0,none⟩) n c] 66)) (some ⟨w.heap.size,0,none⟩) [(false,l)]:=by
 subst hn
 refine ⟨by simp,fun k hk=>?_⟩
 have hk0:k=0:=by simpa using hk
 subst hk0
 exact ⟨w.heap.size,0,some ⟨g,0,none⟩,c,rfl,by simp,by simp,h.below ((Below.refl _ _).alloc (Nat.le_refl _) _) (Nat.le_refl _)⟩
theorem aUg {w w':World} {o:Obj} {l:List Nd} {v:Value} {nb:Nat} {Q:List (Lt×Value)} (h:rJ (w.alloc o) [(false,l)] v nb Q w'):∃qv,v=.slice (some ⟨nb,0,none⟩) 1 1∧w'.cell? ⟨nb,1,none⟩=some qv∧qH w' w.heap.size qv (bW l []).1∧Below w.heap.size w w':=by
 have h1:=h.made
 have h2:=h.val
 have h3:=h.row
 rw [aUd] at h1 h2 h3
 obtain ⟨⟨x,qv⟩,rfl⟩ : ∃q,Q=[q]:=by
  match Q,h1 with
  | [q],_=>exact ⟨q,rfl⟩
  | [],h1=>simp at h1
  | _ :: _ :: _,h1=>simp at h1
 simp at h1
 subst h1
 have h4:=h.atoms _ (List.mem_singleton.2 rfl)
 refine ⟨qv,h2,?_,fG h4 (by simp),((Below.refl _ _).alloc (Nat.le_refl _) _).trans (h.low.mono (by simp))⟩
 rw [h3.cellAt 1 (by simp)]
 simp [aU]
theorem aUh (g c:Nat) (l:List Nd) (w:World) (h:bQ w (some ⟨g,0,none⟩) l) (hv:qD l) (hl:l.length≤500) :
  Calls Tryz.prog 16 #[.slice (some ⟨g,0,none⟩) l.length c] w fun e w'=>∃v,e=.returned v∧qH w' w.heap.size v (bW l []).1∧Below w.heap.size w w':=by
 obtain ⟨n,hn⟩ : ∃n,n=l.length:=⟨_,rfl⟩
 have CO:=aA (zW (some ⟨w.heap.size,0,none⟩) 1 [(false,l)] _ (aUf (c:=c) (n:=n) h hn) (fun x hx=>by simp at hx;subst hx;exact hv) (by simp [aP];omega) (by simp))
 rw [←hn]
 clear h hv hl hn
 go_enter Tryz.func16,Tryz.ntmps16
 go_wp2_with (first
  | (go_at_call 28;refine (aB CO).mono ?_;rintro e w1 ⟨v,nb,Q,rfl,hR⟩;obtain ⟨qv,rfl,q1,q2,q3⟩:=aUg hR;have HQ2:=aA q2;have HQ3:=aA q3;clear q2 q3 hR)
  | go_in)
 go_ret
 exact ⟨_,rfl,HQ2.out,HQ3.out⟩
structure UR (w:World) (x y:List Nd) (v:Value) (yes:Bool) (e:Int) (w':World):Prop where
 out:∃l,kP x y l yes e∧qH w' w.heap.size v l∧l.length≤500∧∀n∈l,n.1.size≤140737488355328
 low:Below w.heap.size w w'
theorem UR.nil {w w':World} {x y:List Nd} {e:Int} (h:kP x y [] false e) (hb:Below w.heap.size w w'):UR w x y (.slice none 0 0) false e w':=⟨⟨[],h,World.ownsRow_nil _ _ _ _,by simp,by simp⟩,hb⟩
theorem aUi {R S:Nat→Nat→Prop} (h:∀i j,R i j↔S i j):R=S:=by funext i j;exact propext (h i j)
theorem aUj {B tb mp:Nat} {x y:List Nd} {w w0:World} {a1 a2:Option Addr} (h:fS B tb mp ([]++aJ 0 x++aJ 0 y) w) (hx:aI x 1=true) (hy:aI y 1=true) (h1:bQ w0 a1 x) (h2:bQ w0 a2 y) (x60:x.length≤60) (y60:y.length≤60) :
  Calls Tryz.prog 14 #[.pointer (some ⟨tb,0,none⟩),.int .i64 0,.int .i64 x.length] w fun e w'=>∃ok vn ve vl vs,e=.returned (.bool ok)∧aGg w B tb vn ve vl vs (.map (some mp)) (x++y) (aS (aJ 0 x++aJ 0 y)) 0 x.length ok w':=by
 rw [List.nil_append] at h
 have hs:(aJ 0 x++aJ 0 y).map Prod.snd=x++y:=by rw [List.map_append,mS,mS]
 obtain ⟨vn,ve,vl,vs,htm⟩:=h.toIn (by simp;omega) (fun t ht=>by
  rcases List.mem_append.1 ht with ht | ht
  ·obtain ⟨n,hn,rfl⟩:=List.mem_map.1 ht
   obtain ⟨k,hk,rfl⟩:=List.getElem_of_mem hn
   exact h1.short k hk
  ·obtain ⟨n,hn,rfl⟩:=List.mem_map.1 ht
   obtain ⟨k,hk,rfl⟩:=List.getElem_of_mem hn
   exact h2.short k hk)
 have hf:=xL (aJ 0 x++aJ 0 y)
 have hn:=aFv (aJ 0 x++aJ 0 y)
 have hc:=aFu (aJ 0 x++aJ 0 y)
 have hw:=h.whole
 rw [hs] at htm hn hc hw
 have hx0:0 < x.length:=by
  cases x with
  | nil=>simp [aI] at hx
  | cons=>simp
 have hy0:0 < y.length:=by
  cases y with
  | nil=>simp [aI] at hy
  | cons=>simp
 refine (aGh B tb vn ve vl vs _ (x++y) _ (aS (aJ 0 x++aJ 0 y)) _ hw hf hn hc _ 0 x.length w htm (by simp;omega) (by simp;omega)).mono ?_
 rintro e w' ⟨ok,rfl,hr⟩
 exact ⟨ok,vn,ve,vl,vs,rfl,hr⟩
set_option maxHeartbeats 4000000 in
theorem aUk (a1 a2:Option Addr) (c1 c2:Nat) (x y:List Nd) (w:World) (h1:bQ w a1 x) (h2:bQ w a2 y) (hT:gW w) :
  Calls Tryz.prog 8 #[.slice a1 x.length c1,.slice a2 y.length c2] w fun e w'=>∃v yes er,e=.returned (.tuple #[v,.bool yes,.int .i64 er])∧UR w x y v yes er w':=by
 have CI1:=aA (aAi a1 c1 x w h1 hT)
 have HT:=aA hT
 have H1:=aA h1
 have H2:=aA h2
 clear h1 h2 hT
 cases i1:dT x with
 | false=>
  have HR:Hid (kP x y [] false 5):=aA (Or.inl ⟨by simp [i1],rfl,rfl,rfl⟩)
  rw [i1] at CI1
  clear i1
  go_enter Tryz.func8,Tryz.ntmps8
  go_wp2_with (go_at_call 11;refine (aB CI1).mono ?_;rintro e w1 ⟨rfl,hb1⟩;have HB1:=aA hb1;clear hb1)
  refine bodyPost_ret (v:=.tuple #[.slice none 0 0,.bool false,.int .i64 5]) (by simp [results,Tryz.results8,go_sem]) rfl ?_
  exact ⟨_,_,_,rfl,UR.nil HR.out HB1.out⟩
 | true=>
  rw [i1] at CI1
  have CI2:=aA (fun wx (hx:Below w.heap.size w wx)=>aAi a2 c2 y wx (H2.out.below hx (Nat.le_refl _)) (HT.out.below hx (Nat.le_refl _)))
  cases i2:dT y with
  | false=>
   have HR:Hid (kP x y [] false 5):=aA (Or.inl ⟨by simp [i2],rfl,rfl,rfl⟩)
   rw [i2] at CI2
   clear i1 i2
   go_enter Tryz.func8,Tryz.ntmps8
   go_wp2_with (first
    | (go_at_call 11;refine (aB CI2 _ HB1.out).mono ?_;rintro e w2 ⟨rfl,hb2⟩;have HB2:=aA (HB1.out.trans (hb2.mono hb1s));clear hb2)
    | (go_at_call 11;refine (aB CI1).mono ?_;rintro e w1 ⟨rfl,hb1⟩;have HB1:=aA hb1;have hb1s:=hb1.size;clear hb1))
   refine bodyPost_ret (v:=.tuple #[.slice none 0 0,.bool false,.int .i64 5]) (by simp [results,Tryz.results8,go_sem]) rfl ?_
   exact ⟨_,_,_,rfl,UR.nil HR.out HB2.out⟩
  | true=>
   rw [i2] at CI2
   have t1:aI x 1=true∧x.length≤60:=by unfold dT at i1;simpa using i1
   have t2:aI y 1=true∧y.length≤60:=by unfold dT at i2;simpa using i2
   have HI:=aA (And.intro i1 i2)
   have hx60:=t1.2
   have hy60:=t2.2
   have HT1:=aA t1.1
   have HT2:=aA t2.1
   clear i1 i2 t1 t2
   obtain ⟨N,hN⟩ : ∃N:Nat,N=x.length+y.length:=⟨_,rfl⟩
   have hNi:(x.length:Int)+(y.length:Int)=(N:Int):=by omega
   have hN6:N≤1000000:=by omega
   have HNN:=aA hN
   clear hN
   have CA1:=aA (fun (w2 w3:World) (tb mp:Nat) (vn ve vl vs:Value) (hb:Below w.heap.size w w2) (hn:xV w2 tb mp vn ve vl vs w3)=>
    tD (fS.new hn) 0 a1 c1 x (H1.out.below (hb.trans (hn.low.mono hb.size)) (Nat.le_refl _)) HT1.out (fun p hp=>Nat.lt_of_lt_of_le (rT H1.out HT1.out p hp) hb.size) (by simp;omega) (by omega))
   have CA2:=aA (fun (w2 w4:World) (tb mp:Nat) (hb:Below w.heap.size w w2) (hb4:Below w2.heap.size w2 w4) (ha:fS w2.heap.size tb mp ([]++aJ 0 x) w4)=>
    tD ha 0 a2 c2 y (H2.out.below (hb.trans (hb4.mono hb.size)) (Nat.le_refl _)) HT2.out (fun p hp=>Nat.lt_of_lt_of_le (rT H2.out HT2.out p hp) hb.size) (by simp;omega) (by omega))
   have CU:=aA (fun (B tb mp:Nat) (w5:World) (ha:fS B tb mp ([]++aJ 0 x++aJ 0 y) w5)=>aUj ha HT1.out HT2.out H1.out H2.out hx60 hy60)
   have hx0:0 < x.length:=by
    have:=HT1.out
    cases x with
    | nil=>simp [aI] at this
    | cons=>simp
   go_enter Tryz.func8,Tryz.ntmps8
   go_wp2_with (first
    | (go_at_call 14;refine (aB CU _ tb mp w5 HA5.out).mono ?_)
    | (go_at_call 13;refine (aB CA2 w2 w4 tb mp HB2.out HB4.out HA4.out).mono ?_;rintro e w5 ⟨rfl,ha5,hb5⟩;have HA5:=aA ha5;have HB5:=aA (HB4.out.trans hb5);clear ha5 hb5)
    | (go_at_call 13;refine (aB CA1 w2 w3 tb mp vn ve vl vs HB2.out HNEW.out).mono ?_;rintro e w4 ⟨rfl,ha4,hb4⟩;have HA4:=aA ha4;have HB4:=aA (HNEW.out.low.trans hb4);clear ha4 hb4)
    | (go_at_call 12;refine (aBh N hN6 w2).mono ?_;rintro e w3 ⟨tb,mp,vn,ve,vl,vs,rfl,hnew⟩;have HNEW:=aA hnew;clear hnew)
    | (go_at_call 11;refine (aB CI2 _ HB1.out).mono ?_;rintro e w2 ⟨rfl,hb2⟩;have HB2:=aA (HB1.out.trans (hb2.mono hb1s));have hb2s:=HB2.out.size;clear hb2)
    | (go_at_call 11;refine (aB CI1).mono ?_;rintro e w1 ⟨rfl,hb1⟩;have HB1:=aA hb1;have hb1s:=hb1.size;clear hb1))
   rintro e w6 ⟨ok,vn6,ve6,vl6,vs6,rfl,hu⟩
   clear CU CA1 CA2 CI1 CI2 HNEW HA4 HB4 HB1 hb1s
   have hb6:Below w.heap.size w w6:=HB2.out.trans ((HB5.out.trans hu.low).mono hb2s)
   have HW:=aA HA5.out.whole
   rw [List.nil_append,List.map_append,mS,mS] at HW
   clear HA5 HB5
   have HB6:=aA hb6
   clear hb6
   cases ok with
   | false=>
    have HR:Hid (kP x y [] false 0):=aA (Or.inr ⟨HI.out,Or.inl ⟨fun hh=>(by have:=hu.yes.2 ⟨hh.1,hh.2 0 (by omega) rfl⟩;cases this),rfl,rfl,rfl⟩⟩)
    clear hu
    go_wp2
    refine bodyPost_ret (v:=.tuple #[.slice none 0 0,.bool false,.int .i64 0]) (by simp [results,Tryz.results8,go_sem]) rfl ?_
    exact ⟨_,_,_,rfl,UR.nil HR.out HB6.out⟩
   | true=>
    have HYES:=aA (hu.yes.1 rfl)
    obtain ⟨F',S',rt',d',t1,t2,t3,t4,t5,t6,t7⟩:=hu.st rfl
    have CM:=aA (aGf _ tb vn6 ve6 vl6 vs6 _ (x++y) F' rt' d' HW.out t2 t3 t4 S' 0 w6 t1 t6 (fun r e=>absurd e (t7 r)) (by simp;omega))
    have hR:(fun i j=>rt' i=rt' j)=gA x y:=aUi t5
    have HR:=aA hR
    have HT5:=aA t5
    have HTM:=aA t1
    have HTF:=aA t2
    clear hu t1 t2 t3 t4 t5 t6 t7 hR
    go_wp2_with (go_at_call 15;refine (aB CM).mono ?_)
    rintro e w7 ⟨v,b,S7,rfl,hm⟩
    clear CM
    have hfar:Below w.heap.size w w7:=HB6.out.trans (uS (fun g e=>Nat.le_trans hb2s (bU HTM.out.rs g e).1) HB6.out.size hm.far)
    have HB7:=aA hfar
    clear hfar
    have hends:bG (aD (x++y)) (fun i j=>rt' i=rt' j) 0:=by rw [HR.out];exact HYES.out.2
    cases b with
    | false=>
     obtain ⟨rfl,hno⟩:=hm.no rfl
     have HU:Hid (kP x y [] false 4):=aA (Or.inr ⟨HI.out,Or.inr ⟨⟨HYES.out.1,fun i _ e=>by subst e;exact HYES.out.2⟩,(by
      rcases hno with hno | ⟨l,h1,h2⟩
      ·exact absurd hends hno
      ·rw [HR.out] at h1
       exact ⟨l,rt',HT5.out,h1,Or.inl ⟨h2,rfl,rfl,rfl⟩⟩)⟩⟩)
     clear hm hno hends
     go_wp2
     refine bodyPost_ret (v:=.tuple #[.slice none 0 0,.bool false,.int .i64 4]) (by simp [results,Tryz.results8,go_sem]) rfl ?_
     exact ⟨_,_,_,rfl,UR.nil HU.out HB7.out⟩
    | true=>
     obtain ⟨_,hvn,l,hexp,hl5,hown⟩:=hm.yes rfl
     obtain ⟨g,c,rfl⟩:=uR hown hvn
     have hnd:=aH9 HW.out hexp (fun i hi=>by simp at hi;subst hi;simp;omega)
     have hsz:∀n∈l,n.1.size≤140737488355328:=fun n hn=>by
      rcases hnd n hn with ⟨_,i,_,rfl⟩ | ⟨_,hm⟩
      ·exact Nat.zero_le _
      ·exact HTM.out.short n hm
     have hvs:qD l:=fun n hn hv=>by
      rcases hnd n hn with ⟨_,i,hi,rfl⟩ | ⟨hv',_⟩
      ·have h1:=HTF.out.rt_lt (p:=i) (by rw [HTM.out.lf];exact hi)
       rw [HTM.out.lf] at h1
       have h2:=HTM.out.few
       simp only
       omega
      ·rw [hv] at hv';cases hv'
     have CB:=aA (aUh g c l w7 (aUe hown (by omega) hsz) hvs hl5)
     have HU:Hid (kP x y (bW l []).1 true 0):=aA (Or.inr ⟨HI.out,Or.inr ⟨⟨HYES.out.1,fun i _ e=>by subst e;exact HYES.out.2⟩,l,rt',HT5.out,by rw [←HR.out];exact hexp,Or.inr ⟨hl5,rfl,rfl,rfl⟩⟩⟩)
     have HSZ:=aA hsz
     have HL5:Hid ((bW l []).1.length≤500):=aA (by rw [(oN l []).1];exact hl5)
     clear hm hvn hexp hown hnd hsz hvs hends
     generalize l.length=ln at *
     go_wp2_with (go_at_call 16;refine (aB CB).mono ?_;rintro e w8 ⟨v8,rfl,ho8,hb8⟩;have HO8:=aA ho8;have HB8:=aA hb8;clear ho8 hb8)
     refine bodyPost_ret (v:=.tuple #[v8,.bool true,.int .i64 0]) (by simp [results,Tryz.results8,go_sem]) rfl ?_
     refine ⟨_,_,_,rfl,⟨⟨_,HU.out,fG HO8.out HB7.out.size,?_,?_⟩,HB7.out.trans (HB8.out.mono HB7.out.size)⟩⟩
     ·exact HL5.out
     ·intro n hn
      have:n.1∈(bW l []).1.map Prod.fst:=List.mem_map_of_mem hn
      rw [aEv] at this
      obtain ⟨m,hm,e⟩:=List.mem_map.1 this
      rw [←e]
      exact HSZ.out m hm
theorem aC2 (a1 a2:Option Addr) (c1 c2:Nat) (x y:List Nd) (w:World) (h1:bQ w a1 x) (h2:bQ w a2 y) (hT:gW w) :
  Calls Tryz.prog 5 #[.slice a1 x.length c1,.slice a2 y.length c2] w fun e w'=>∃v yes er,e=.returned (.tuple #[v,.bool yes,.int .i64 er])∧UR w x y v yes er w':=by
 have C:=aA (aUk a1 a2 c1 c2 x y w h1 h2 hT)
 clear h1 h2 hT
 go_enter Tryz.func5,Tryz.ntmps5
 go_wp2_with (go_at_call 8;refine (aB C).mono ?_;rintro e w1 ⟨v,yes,er,rfl,hr⟩;have HR:=aA hr;clear hr)
 refine bodyPost_ret (v:=.tuple #[v,.bool yes,.int .i64 er]) (by simp [results,Tryz.results5,go_sem]) rfl ?_
 exact ⟨_,_,_,rfl,HR.out⟩
end Go.Proofs.YthicbnejchpmgaaGreatDoor
