/- The library's IndexFunc, ContainsFunc over numbers, with what a function value says. The library's DeleteFunc over numbers. Two ways to say that a clause is in order. The program: is a clause in order, and of a size that may be. -/
import Derived.Test.YtbddofieljiihaaGreatDoorXRngI
import Derived.Lib.SliceRun
import Derived.Test.YtbddofieljiihaaGreatDoorPClauseI
namespace Go.Proofs.YtbddofieljiihaaGreatDoor
open Go.RowKit
set_option maxRecDepth 100000
def cZ (B:Nat) (w:World) (v:Value) (ks:List Nat):Prop:=w.ownsRow B 3 1 v ks.length (ks.map fun k=>Value.int .i64 (k:Nat))
theorem cZ.cell {B:Nat} {w:World} {a:Option Addr} {n cap:Nat} {ks:List Nat} (h:cZ B w (.slice a n cap) ks) {i:Nat} (hi:i < ks.length):∃g,a=some ⟨g,0,none⟩∧w.cell? ⟨g,i,none⟩=some (.int .i64 (ks[i]:Nat)):=by
 have h':w.ownsRow B 3 1 (.slice a n cap) ks.length (ks.map fun k=>Value.int .i64 (k:Nat)):=h
 obtain ⟨_,⟨_,e⟩ | ⟨g,cap',cur,e,_⟩⟩:=h
 ·omega
 ·simp at e
  refine ⟨g,e.1,?_⟩
  obtain ⟨rfl,rfl,rfl⟩:=e
  rw [h'.cellAt i (by simpa using hi)]
  simp [hi]
theorem cZ.shape {B:Nat} {w:World} {v:Value} {ks:List Nat} (h:cZ B w v ks):∃a cap,v=.slice a ks.length cap:=aR h
def mS (p:Nat→Bool) (ks:List Nat):Int:=if ks.findIdx p < ks.length then (ks.findIdx p:Nat) else -1
theorem aHp {p:Nat→Bool} {ks:List Nat} {k:Nat} (hk:k < ks.length) (h:p ks[k]=true) (ho:∀j (hj:j < k),p (ks[j]'(by omega))=false):mS p ks=(k:Nat):=by
 have e:ks.findIdx p=k:=(List.findIdx_eq hk).2 ⟨h,fun j hj=>by simpa using ho j hj⟩
 unfold mS
 rw [e,if_pos hk]
theorem aBv {p:Nat→Bool} {ks:List Nat} (ho:∀j (hj:j < ks.length),p ks[j]=false):mS p ks=-1:=by
 have e:ks.findIdx p=ks.length:=List.findIdx_eq_length.2 (fun x hx=>by
  obtain ⟨j,hj,rfl⟩:=List.getElem_of_mem hx
  exact ho j hj)
 unfold mS
 rw [e,if_neg (by omega)]
theorem aUm {p:Nat→Bool} {ks:List Nat}:decide (0≤mS p ks)=ks.any p:=by
 unfold mS
 split
 ·rename_i h
  rw [show decide (0≤((ks.findIdx p:Nat):Int))=true by simp]
  rw [List.findIdx_lt_length] at h
  exact (List.any_eq_true.2 h).symm
 ·rename_i h
  rw [List.findIdx_lt_length] at h
  have:ks.any p=false:=by
   rw [Bool.eq_false_iff]
   exact fun hh=>h (List.any_eq_true.1 hh)
  rw [this]
  rfl
def aHq (w:World) (b1 b2:Nat) (p:Nat→Bool) (ks:List Nat):Prop:=∀k∈ks,∀wx,Below w.heap.size w wx→Calls Tryz.prog 90 #[.int .i64 (k:Nat),.pointer (some ⟨b1,0,none⟩),.pointer (some ⟨b2,0,none⟩)] wx fun e w'=>e=.returned (.bool (p k))∧Below wx.heap.size wx w'
set_option maxHeartbeats 2000000 in
theorem aUn (B b1 b2:Nat) (p:Nat→Bool) (a:Option Addr) (cap:Nat) (ks:List Nat) (w:World) (h:cZ B w (.slice a ks.length cap) ks) (hl:ks.length≤1000000) (hs:aHq w b1 b2 p ks) :
  Calls Tryz.prog 94 #[.slice a ks.length cap,.func (.func 90) #[] #[.pointer (some ⟨b1,0,none⟩),.pointer (some ⟨b2,0,none⟩)]] w fun e w'=>e=.returned (.int .i64 (mS p ks))∧Below w.heap.size w w':=by
 have HS:=aA hs
 have HH:=aA h
 clear hs h
 go_enter Tryz.func94,Tryz.ntmps94
 go_wp2
 go_loopw [8] (fun i wr=>∃k:Nat,k≤ks.length∧i=.int .i64 k∧(∀j (hj:j < ks.length),j < k→p ks[j]=false)∧Below w.heap.size w wr) (fun i _=>ks.length - (intOf i).toNat)
 case atStart=>exact ⟨0,Nat.zero_le _,rfl,fun j _ h=>by omega,Below.refl _ _⟩
 case round=>
  obtain ⟨k,hk,rfl,hm,hb⟩:=hrel
  have HM:=aA hm
  have HB:=aA hb
  clear hm
  by_cases hlt:k < ks.length
  ·obtain ⟨g,rfl,hc⟩:=HH.out.cell hlt
   have hc2:=Below.at' hb (Nat.le_refl _) hc
   have hki:(k:Int) < (ks.length:Int):=by omega
   obtain ⟨x,hx⟩ : ∃x,ks[k]=x:=⟨_,rfl⟩
   rw [hx] at hc hc2
   have CP:=aA (HS.out x (by rw [←hx];exact List.getElem_mem hlt) wr hb)
   have HX:=aA hx
   have hbs:=hb.size
   clear hc hx hb
   cases hp:p x
   ·rw [hp] at CP
    have HP:=aA hp
    clear hp
    go_wp2_with (first
     | (go_at_call 90;refine (aB CP).mono ?_;rintro e w1 ⟨rfl,hb1⟩;have HB1:=aA (HB.out.trans (hb1.mono hbs));clear hb1)
     | go_in)
    go_roundw
    case rel=>exact ⟨k+1,by omega,by go_num,fun j hj hjk=>by
     rcases (show j < k∨j=k by omega) with h | rfl
     ·exact HM.out j hj h
     ·rw [HX.out];exact HP.out,HB1.out⟩
    case measure=>simp [intOf];omega
   ·rw [hp] at CP
    have HP:=aA hp
    clear hp
    go_wp2_with (first
     | (go_at_call 90;refine (aB CP).mono ?_;rintro e w1 ⟨rfl,hb1⟩;have HB1:=aA (HB.out.trans (hb1.mono hbs));clear hb1)
     | go_in)
    go_ret
    have hf:=aHp hlt (by rw [HX.out];exact HP.out) (fun j hj=>HM.out j (by omega) hj)
    exact ⟨by rw [hf];rfl,HB1.out⟩
  ·have hke:k=ks.length:=by omega
   clear hb
   go_wp2
   go_ret
   have hf:=aBv (fun j hj=>HM.out j hj (by omega))
   exact ⟨by rw [hf];rfl,HB.out⟩
theorem aUo (B b1 b2:Nat) (p:Nat→Bool) (a:Option Addr) (cap:Nat) (ks:List Nat) (w:World) (h:cZ B w (.slice a ks.length cap) ks) (hl:ks.length≤1000000) (hs:aHq w b1 b2 p ks) :
  Calls Tryz.prog 89 #[.slice a ks.length cap,.func (.func 90) #[] #[.pointer (some ⟨b1,0,none⟩),.pointer (some ⟨b2,0,none⟩)]] w fun e w'=>e=.returned (.bool (ks.any p))∧Below w.heap.size w w':=by
 have CI:=aA (aUn B b1 b2 p a cap ks w h hl hs)
 have hany:=aUm (p:=p) (ks:=ks)
 clear h hs
 generalize mS p ks=r at *
 generalize ks.any p=q at *
 have HA:=aA hany
 clear hany
 go_enter Tryz.func89,Tryz.ntmps89
 go_wp2_with (go_at_call 94;refine (aB CI).mono ?_;rintro e w1 ⟨rfl,hb⟩;have HB:=aA hb;clear hb)
 go_ret
 exact ⟨by rw [←HA.out];rfl,HB.out⟩
def aHr (w:World) (b1 b2:Nat) (p:Nat→Bool) (ks:List Nat):Prop:=∀k∈ks,∀wx,Below w.heap.size w wx→Calls Tryz.prog 60 #[.int .i64 (k:Nat),.pointer (some ⟨b1,0,none⟩),.pointer (some ⟨b2,0,none⟩)] wx fun e w'=>e=.returned (.bool (p k))∧Below wx.heap.size wx w'
set_option maxHeartbeats 2000000 in
theorem aHs (B b1 b2:Nat) (p:Nat→Bool) (a:Option Addr) (cap:Nat) (ks:List Nat) (w:World) (h:cZ B w (.slice a ks.length cap) ks) (hl:ks.length≤1000000) (hs:aHr w b1 b2 p ks) :
  Calls Tryz.prog 94 #[.slice a ks.length cap,.func (.func 60) #[] #[.pointer (some ⟨b1,0,none⟩),.pointer (some ⟨b2,0,none⟩)]] w fun e w'=>e=.returned (.int .i64 (mS p ks))∧Below w.heap.size w w':=by
 have HS:=aA hs
 have HH:=aA h
 clear hs h
 go_enter Tryz.func94,Tryz.ntmps94
 go_wp2
 go_loopw [8] (fun i wr=>∃k:Nat,k≤ks.length∧i=.int .i64 k∧(∀j (hj:j < ks.length),j < k→p ks[j]=false)∧Below w.heap.size w wr) (fun i _=>ks.length - (intOf i).toNat)
 case atStart=>exact ⟨0,Nat.zero_le _,rfl,fun j _ h=>by omega,Below.refl _ _⟩
 case round=>
  obtain ⟨k,hk,rfl,hm,hb⟩:=hrel
  have HM:=aA hm
  have HB:=aA hb
  clear hm
  by_cases hlt:k < ks.length
  ·obtain ⟨g,rfl,hc⟩:=HH.out.cell hlt
   have hc2:=Below.at' hb (Nat.le_refl _) hc
   have hki:(k:Int) < (ks.length:Int):=by omega
   obtain ⟨x,hx⟩ : ∃x,ks[k]=x:=⟨_,rfl⟩
   rw [hx] at hc hc2
   have CP:=aA (HS.out x (by rw [←hx];exact List.getElem_mem hlt) wr hb)
   have HX:=aA hx
   have hbs:=hb.size
   clear hc hx hb
   cases hp:p x
   ·rw [hp] at CP
    have HP:=aA hp
    clear hp
    go_wp2_with (first
     | (go_at_call 60;refine (aB CP).mono ?_;rintro e w1 ⟨rfl,hb1⟩;have HB1:=aA (HB.out.trans (hb1.mono hbs));clear hb1)
     | go_in)
    go_roundw
    case rel=>exact ⟨k+1,by omega,by go_num,fun j hj hjk=>by
     rcases (show j < k∨j=k by omega) with h | rfl
     ·exact HM.out j hj h
     ·rw [HX.out];exact HP.out,HB1.out⟩
    case measure=>simp [intOf];omega
   ·rw [hp] at CP
    have HP:=aA hp
    clear hp
    go_wp2_with (first
     | (go_at_call 60;refine (aB CP).mono ?_;rintro e w1 ⟨rfl,hb1⟩;have HB1:=aA (HB.out.trans (hb1.mono hbs));clear hb1)
     | go_in)
    go_ret
    have hf:=aHp hlt (by rw [HX.out];exact HP.out) (fun j hj=>HM.out j (by omega) hj)
    exact ⟨by rw [hf];rfl,HB1.out⟩
  ·have hke:k=ks.length:=by omega
   clear hb
   go_wp2
   go_ret
   have hf:=aBv (fun j hj=>HM.out j hj (by omega))
   exact ⟨by rw [hf];rfl,HB.out⟩
theorem cZ.set {B:Nat} {w:World} {g n cap:Nat} {ks:List Nat} (h:cZ B w (.slice (some ⟨g,0,none⟩) n cap) ks) (hn:n=ks.length) (i x:Nat):cZ B (w.setCell ⟨g,i,none⟩ (.int .i64 (x:Nat))) (.slice (some ⟨g,0,none⟩) n cap) (ks.set i x)∧w.grownBy (w.setCell ⟨g,i,none⟩ (.int .i64 (x:Nat))) (some g):=by
 subst hn
 have:=pI (w:=w) h i (.int .i64 (x:Nat))
 refine ⟨?_,cB w ⟨g,i,none⟩ _⟩
 unfold cZ
 rw [List.length_set,List.map_set]
 exact this
theorem cZ.take {B:Nat} {w:World} {g n cap:Nat} {ks:List Nat} (h:cZ B w (.slice (some ⟨g,0,none⟩) n cap) ks) {m:Nat} (hm:m≤ks.length):cZ B w (.slice (some ⟨g,0,none⟩) m cap) (ks.take m):=by
 obtain ⟨h1,⟨e,_⟩ | ⟨g',cap',cur,e,hb,hh,hc,hml,hz,ht⟩⟩:=h
 ·cases e
 ·simp at e
  obtain ⟨rfl,_,rfl⟩:=e
  have hl:(ks.take m).length=m:=by simp;omega
  unfold cZ
  rw [hl]
  refine ⟨by simp;omega,Or.inr ⟨g,cap,cur,rfl,hb,hh,by omega,hml,hz,?_⟩⟩
  rw [List.map_take,←ht,List.take_take]
  congr 1
  omega
theorem cZ.cleared {B:Nat} {g n cap:Nat}:∀(m o:Nat) (w:World) (ks:List Nat),cZ B w (.slice (some ⟨g,0,none⟩) n cap) ks→n=ks.length→
  ∃ks',cZ B (w.setCells g o (List.replicate m (.int .i64 0))) (.slice (some ⟨g,0,none⟩) n cap) ks'∧ks'.length=ks.length∧ks'.take o=ks.take o∧w.grownBy (w.setCells g o (List.replicate m (.int .i64 0))) (some g)
 | 0,o,w,ks,h,_=>⟨ks,h,rfl,rfl,⟨rfl,rfl,rfl,Nat.le_refl _,fun _ _ _=>rfl⟩⟩
 | m+1,o,w,ks,h,hn=>by
  obtain ⟨h1,h2⟩:=h.set hn o 0
  obtain ⟨ks',k1,k2,k3,k4⟩:=cZ.cleared m (o+1) _ _ h1 (by rw [List.length_set];exact hn)
  refine ⟨ks',k1,by rw [k2,List.length_set],?_,jK h2 k4⟩
  have:=congrArg (List.take o) k3
  rw [List.take_take,List.take_take,Nat.min_eq_left (Nat.le_succ o),List.take_set_of_le (Nat.le_refl _)] at this
  exact this
def aUp (w:World) (g b1 b2:Nat) (p:Nat→Bool) (ks:List Nat):Prop:=∀k∈ks,∀wx,w.grownBy wx (some g)→Calls Tryz.prog 60 #[.int .i64 (k:Nat),.pointer (some ⟨b1,0,none⟩),.pointer (some ⟨b2,0,none⟩)] wx fun e w'=>e=.returned (.bool (p k))∧Below wx.heap.size wx w'
theorem aHt {p:Nat→Bool} {ks:List Nat} {j:Nat} (hj:j < ks.length):(ks.take (j+1)).filter (fun k=>!p k)=(ks.take j).filter (fun k=>!p k)++if p ks[j] then [] else [ks[j]]:=by
 rw [List.take_succ_eq_append_getElem hj,List.filter_append]
 cases h:p ks[j] <;> simp [h]
set_option maxHeartbeats 4000000 in
theorem aUq (B b1 b2:Nat) (p:Nat→Bool) (a:Option Addr) (cap:Nat) (ks:List Nat) (w:World) (h:cZ B w (.slice a ks.length cap) ks) (hl:ks.length≤1000000) (hs:aHr w b1 b2 p ks) (hno:ks.any p=false) :
  Calls Tryz.prog 59 #[.slice a ks.length cap,.func (.func 60) #[] #[.pointer (some ⟨b1,0,none⟩),.pointer (some ⟨b2,0,none⟩)]] w fun e w'=>e=.returned (.slice a ks.length cap)∧Below w.heap.size w w':=by
 have CI:=aA (aHs B b1 b2 p a cap ks w h hl hs)
 have hf:mS p ks=-1:=aBv (fun j hj=>by
  rw [Bool.eq_false_iff]
  intro hp
  rw [List.any_eq_true.2 ⟨_,List.getElem_mem hj,hp⟩] at hno
  cases hno)
 rw [hf] at CI
 clear h hs hno hf
 go_enter Tryz.func59,Tryz.ntmps59
 go_wp2_with (first
  | (go_at_call 94;refine (aB CI).mono ?_;rintro e w1 ⟨rfl,hb⟩;have HB:=aA hb;clear hb)
  | go_in)
 go_ret
 exact ⟨rfl,HB.out⟩
set_option maxHeartbeats 8000000 in
theorem aUr (B b1 b2:Nat) (p:Nat→Bool) (g cap:Nat) (ks:List Nat) (w:World) (h:cZ B w (.slice (some ⟨g,0,none⟩) ks.length cap) ks) (hl:ks.length≤1000000) (hs:aUp w g b1 b2 p ks) (hyes:ks.any p=true) :
  Calls Tryz.prog 59 #[.slice (some ⟨g,0,none⟩) ks.length cap,.func (.func 60) #[] #[.pointer (some ⟨b1,0,none⟩),.pointer (some ⟨b2,0,none⟩)]] w fun e w'=>e=.returned (.slice (some ⟨g,0,none⟩) (ks.filter fun k=>!p k).length cap)∧cZ B w' (.slice (some ⟨g,0,none⟩) (ks.filter fun k=>!p k).length cap) (ks.filter fun k=>!p k)∧w.grownBy w' (some g):=by
 have CI:=aA (aHs B b1 b2 p _ cap ks w h hl (fun k hk wx hwx=>hs k hk wx (fF hwx)))
 have hlt:ks.findIdx p < ks.length:=List.findIdx_lt_length.2 (List.any_eq_true.1 hyes)
 obtain ⟨m,hm⟩ : ∃m,ks.findIdx p=m:=⟨_,rfl⟩
 have hf:mS p ks=(m:Nat):=by unfold mS;rw [if_pos hlt,hm]
 rw [hm] at hlt
 have hpm:p ks[m]=true:=by have:=List.findIdx_getElem (xs:=ks) (p:=p) (w:=by omega);simpa [hm] using this
 have hbef:(ks.take m).filter (fun k=>!p k)=ks.take m:=by
  rw [List.filter_eq_self]
  intro x hx
  obtain ⟨j,hj,rfl⟩:=List.getElem_of_mem hx
  have hjm:j < m:=by simp at hj;omega
  have:=List.not_of_lt_findIdx (xs:=ks) (p:=p) (i:=j) (by omega)
  rw [List.getElem_take]
  simpa using this
 have hst:(ks.take (m+1)).filter (fun k=>!p k)=ks.take m:=by rw [aHt hlt,hbef,if_pos hpm,List.append_nil]
 rw [hf] at CI
 have hcap:ks.length≤cap:=by
  obtain ⟨_,⟨e,_⟩ | ⟨g',cap',cur,e,_,_,hc,_⟩⟩:=h
  ·cases e
  ·simp at e
   omega
 have HST:=aA hst
 have HH:=aA h
 have HS:=aA hs
 have hneg:((m:Int) == -1)=false:=by rw [beq_eq_false_iff_ne];omega
 clear h hs hyes hf hm hpm hbef hst
 go_enter Tryz.func59,Tryz.ntmps59
 go_wp2_with (first
  | (go_at_call 94;refine (aB CI).mono ?_;rintro e w1 ⟨rfl,hb⟩;have HB:=aA hb;clear hb)
  | go_in)
 have hmi:(m:Int) < (ks.length:Int):=by omega
 go_loopw [5,6] (fun pi pj wr=>∃(i j:Nat) (R:List Nat),pi=.int .i64 i∧pj=.int .i64 j∧j≤ks.length∧i < j∧R.length=ks.length∧cZ B wr (.slice (some ⟨g,0,none⟩) ks.length cap) R∧R.take i=(ks.take j).filter (fun k=>!p k)∧(∀t,j≤t→R[t]?=ks[t]?)∧w.grownBy wr (some g)) (fun _ pj _=>ks.length - (intOf pj).toNat)
 case atStart=>exact ⟨m,m+1,ks,rfl,by simp,by omega,by omega,rfl,aZ HH.out HB.out (Nat.le_refl _),HST.out.symm,fun _ _=>rfl,fF HB.out⟩
 case round=>
  obtain ⟨i,j,R,rfl,rfl,hj,hij,hR,hO,ht,hrest,hg⟩:=hrel
  by_cases hlt2:j < ks.length
  ·obtain ⟨x,hx⟩ : ∃x,ks[j]=x:=⟨_,rfl⟩
   have hRj:R[j]'(by omega)=x:=by
    have:=hrest j (Nat.le_refl _)
    rw [List.getElem?_eq_getElem (by omega),List.getElem?_eq_getElem hlt2,hx] at this
    exact Option.some.inj this
   obtain ⟨g',e,hc⟩:=hO.cell (i:=j) (by omega)
   cases e
   rw [hRj] at hc
   obtain ⟨zi,hci⟩ : ∃zi:Nat,wr.cell? ⟨g,i,none⟩=some (.int .i64 (zi:Nat)):=by
    obtain ⟨g',e,hci⟩:=hO.cell (i:=i) (by omega)
    cases e
    exact ⟨_,hci⟩
   have CP:=aA (HS.out x (by rw [←hx];exact List.getElem_mem hlt2) wr hg)
   have hstep:=aHt (p:=p) hlt2
   rw [hx] at hstep
   have hji:(j:Int) < (ks.length:Int):=by omega
   have hii:(i:Int) < (ks.length:Int):=by omega
   have HO:=aA hO
   have HT:=aA ht
   have HR:=aA hrest
   have HG:=aA hg
   have HSP:=aA hstep
   have HRL:=aA hR
   have hfz:∀wx,wr.grownBy wx none→wx.frozen? ⟨g,i,none⟩=false:=fun wx hwx=>by
    obtain ⟨_,⟨e,_⟩ | ⟨g',cap',cur,e,_,hh,_⟩⟩:=hO
    ·cases e
    ·simp at e
     obtain ⟨rfl,_⟩:=e
     have:=hwx.block g (Array.getElem?_eq_some_iff.1 hh).1 (by simp)
     simp [World.frozen?,this,hh]
   have HFZ:=aA hfz
   clear hO ht hrest hg hstep hRj hx hR hfz
   cases hp:p x
   ·rw [hp] at CP
    have HP:=aA hp
    clear hp
    go_wp2_with (first
     | (go_at_call 60;refine (aB CP).mono ?_;rintro e w2 ⟨rfl,hb2⟩;have c2:=Below.at' hb2 (Nat.le_refl _) hci;have f2:=HFZ.out w2 (fF hb2);have HB2:=aA hb2;clear hb2)
     | go_in)
    go_roundw
    case rel=>
     have hO2:cZ B w2 (.slice (some ⟨g,0,none⟩) ks.length cap) R:=aZ HO.out HB2.out (Nat.le_refl _)
     obtain ⟨hO3,hg3⟩:=hO2.set HRL.out.symm i x
     have hRl:=HRL.out
     refine ⟨i+1,j+1,R.set i x,by go_num,by go_num,by omega,by omega,by rw [List.length_set];exact hRl,hO3,?_,fun t ht=>?_,jK HG.out (jK (fF HB2.out) hg3)⟩
     ·rw [HSP.out,HP.out,←HT.out,List.take_succ_eq_append_getElem (by simp;omega),List.take_set_of_le (Nat.le_refl _)]
      simp
     ·rw [List.getElem?_set_ne (by omega)]
      exact HR.out t (by omega)
    case measure=>simp [intOf];omega
   ·rw [hp] at CP
    have HP:=aA hp
    clear hp
    go_wp2_with (first
     | (go_at_call 60;refine (aB CP).mono ?_;rintro e w2 ⟨rfl,hb2⟩;have HB2:=aA hb2;clear hb2)
     | go_in)
    go_roundw
    case rel=>
     refine ⟨i,j+1,R,rfl,by go_num,by omega,by omega,HRL.out,aZ HO.out HB2.out (Nat.le_refl _),?_,fun t ht=>HR.out t (by omega),jK HG.out (fF HB2.out)⟩
     rw [HSP.out,HP.out,←HT.out]
     simp
    case measure=>simp [intOf];omega
  ·have hje:j=ks.length:=by omega
   rw [hje,List.take_length] at ht
   have hli:(ks.filter fun k=>!p k).length=i:=by rw [←ht,List.length_take];omega
   have hcl:∀ty,(Builtin.clear_ #[31] ty #[.slice (some ⟨g,i,none⟩) (ks.length - i) (cap - i)]).run Tryz.prog wr=.ok (.tuple #[]) (wr.setCells g i (List.replicate (ks.length - i) (.int .i64 0))):=fun ty=>
    Lib.run_clear_slice wr _ 3 ty (.int .i64 0) Tryz.underlying31 (fun w=>by obtain ⟨iI,hI,hI0,hI1,hI2⟩:=info_parts qM;simp [zeroValue,typeInfo,hI,hI0]) rfl rfl g i _ _ (by omega) (fun t ht=>by
     obtain ⟨g',e,hc⟩:=hO.cell (i:=i+t) (by omega)
     cases e
     rw [hc];rfl) (fun t ht=>by
     obtain ⟨_,⟨e,_⟩ | ⟨g',cap',cur,e,_,hh,_⟩⟩:=hO
     ·cases e
     ·simp at e
      obtain ⟨rfl,_⟩:=e
      simp [World.frozen?,hh])
   obtain ⟨R',o1,o2,o3,o4⟩:=cZ.cleared (ks.length - i) i wr R hO hR.symm
   have hfin:cZ B (wr.setCells g i (List.replicate (ks.length - i) (.int .i64 0))) (.slice (some ⟨g,0,none⟩) i cap) (ks.filter fun k=>!p k):=by
    have:=o1.take (m:=i) (by omega)
    rw [o3,ht] at this
    exact this
   have HFI:=aA hfin
   have HG:=aA (jK hg o4)
   have HLI:=aA hli
   have hji:¬(j:Int) < (ks.length:Int):=by omega
   have hil:(i:Int)≤(ks.length:Int):=by omega
   have hic:(i:Int)≤(cap:Int):=by omega
   have hkc:(ks.length:Int)≤(cap:Int):=by omega
   clear hO ht hrest hg o1 o2 o3 o4 hfin hR hli
   go_wp2
   go_ret
   rw [HLI.out]
   exact ⟨rfl,HFI.out,HG.out⟩
end Go.Proofs.YtbddofieljiihaaGreatDoor
namespace Go.Proofs.YtbddofieljiihaaGreatDoor
open Go.RowKit
def gS (st:Option Int) (n:Nd):Option Int:=
 match st with
 | none=>none
 | some x=>if aH n then (if x < n.2 then none else if n.2=x then some (x+1) else some x) else some x
def eF (l:List Nd) (st:Option Int):Option Int:=l.foldl gS st
def lO (c:List Lt):Option Int:=c.foldl (fun st x=>eF x.2 st) (some 0)
theorem aBw (l:List Nd):eF l none=none:=by
 induction l with
 | nil=>rfl
 | cons x r ih=>simpa [eF,gS] using ih
theorem aUs (l:List Nd) (st:Option Int) (k:Nat) (h:k < l.length):eF (l.take (k+1)) st=gS (eF (l.take k) st) l[k]:=by
 rw [List.take_succ_eq_append_getElem h];simp only [eF,List.foldl_append,List.foldl_cons,List.foldl_nil]
theorem aUt (c:List Lt) (k:Nat) (h:k < c.length):lO (c.take (k+1))=eF c[k].2 (lO (c.take k)):=by
 rw [List.take_succ_eq_append_getElem h];simp only [lO,List.foldl_append,List.foldl_cons,List.foldl_nil]
theorem aUu (l:List Nd) (st:Option Int) (k:Nat):eF l st=eF (l.drop k) (eF (l.take k) st):=by
 conv=>lhs;rw [←List.take_append_drop k l]
 simp only [eF,List.foldl_append]
theorem aUv (c:List Lt) (k:Nat):lO c=(c.drop k).foldl (fun st x=>eF x.2 st) (lO (c.take k)):=by
 conv=>lhs;rw [←List.take_append_drop k c]
 simp only [lO,List.foldl_append]
theorem aHu (c:List Lt):c.foldl (fun st x=>eF x.2 st) none=none:=by
 induction c with
 | nil=>rfl
 | cons x r ih=>simp only [List.foldl_cons,aBw,ih]
def cI (m:Nat):List Int:=(List.range m).map Int.ofNat
theorem aHv (m:Nat):cI (m+1)=cI m++[(m:Int)]:=by simp [cI,List.range_succ]
theorem aHw (m:Nat):(cI m).length=m:=by simp [cI]
theorem aHx (m:Nat) (x:Int):dY (cI m) x=if 0≤x∧x < m then x else -1:=by
 induction m with
 | zero=>simp [cI,aC6];omega
 | succ m ih=>
  rw [aHv,yG,aHw,ih]
  by_cases h:(m:Int)=x
  ·subst h;rw [if_pos rfl,if_pos (by omega)]
  ·rw [if_neg h]
   by_cases h2:0≤x∧x < m
   ·rw [if_pos h2,if_pos (by omega)]
   ·rw [if_neg h2,if_neg (by omega)]
def oD (l:List Nd):Prop:=∀n∈l,aH n=true→0≤n.2
theorem aHy (out:List Nd) (m:Nat) (n:Nd) (hv:aH n=true) (h:¬(0≤n.2∧n.2 < m)):bV (out,cI m) n=(out++[(n.1,(m:Int))],cI m++[n.2]):=by
 have hp:dY (cI m) n.2=-1:=by rw [aHx,if_neg h]
 unfold bV
 rw [if_pos hv]
 show (if dY (cI m) n.2 < 0 then (out++[(n.1,((cI m).length:Int))],cI m++[n.2]) else (out++[(n.1,dY (cI m) n.2)],cI m))=_
 rw [hp,if_pos (by omega),aHw]
theorem aUw (out:List Nd) (m:Nat) (n:Nd) (hv:aH n=true) (h:0≤n.2∧n.2 < m):bV (out,cI m) n=(out++[n],cI m):=by
 have hp:dY (cI m) n.2=n.2:=by rw [aHx,if_pos h]
 unfold bV
 rw [if_pos hv]
 show (if dY (cI m) n.2 < 0 then (out++[(n.1,((cI m).length:Int))],cI m++[n.2]) else (out++[(n.1,dY (cI m) n.2)],cI m))=_
 rw [hp,if_neg (by omega)]
theorem aHz (out:List Nd) (m:Nat) (n:Nd) (hn:aH n=true→0≤n.2) (m':Int) (h:gS (some (m:Int)) n=some m'):∃k:Nat,m'=k∧bV (out,cI m) n=(out++[n],cI k):=by
 simp only [gS] at h
 by_cases hv:aH n=true
 ·have h0:=hn hv
  rw [if_pos hv] at h
  by_cases h1:(m:Int) < n.2
  ·rw [if_pos h1] at h;simp at h
  ·rw [if_neg h1] at h
   by_cases h2:n.2=(m:Int)
   ·rw [if_pos h2] at h
    simp at h
    refine ⟨m+1,by omega,?_⟩
    rw [aHy out m n hv (by omega),aHv,←h2]
   ·rw [if_neg h2] at h
    simp at h
    exact ⟨m,by omega,aUw out m n hv (by omega)⟩
 ·rw [if_neg hv] at h
  simp at h
  refine ⟨m,by omega,?_⟩
  unfold bV
  rw [if_neg hv]
theorem aUx (l:List Nd):∀(out:List Nd) (m:Nat),oD l→∀m',eF l (some (m:Int))=some m'→∃k:Nat,m'=k∧l.foldl bV (out,cI m)=(out++l,cI k):=by
 induction l with
 | nil=>intro out m _ m' h;simp [eF] at h;exact ⟨m,by omega,by simp⟩
 | cons n r ih=>
  intro out m hn m' h
  simp only [eF,List.foldl_cons] at h ⊢
  cases hs:gS (some (m:Int)) n with
  | none=>rw [hs] at h;rw [show List.foldl gS none r=none from aBw r] at h;simp at h
  | some x=>
   rw [hs] at h
   obtain ⟨k,rfl,hk⟩:=aHz out m n (hn n (by simp)) x hs
   rw [hk]
   obtain ⟨j,hj1,hj2⟩:=ih (out++[n]) k (fun y hy=>hn y (by simp [hy])) m' h
   exact ⟨j,hj1,by rw [hj2];simp⟩
theorem aUy (l:List Nd):∀st:List Nd×List Int,∃t,(l.foldl bV st).1=st.1++t∧t.length=l.length:=by
 induction l with
 | nil=>intro st;exact ⟨[],by simp,rfl⟩
 | cons n r ih=>
  intro st
  obtain ⟨t,h1,h2⟩:=ih (bV st n)
  have:∃x,(bV st n).1=st.1++[x]:=by
   unfold bV
   split
   ·split <;> exact ⟨_,rfl⟩
   ·exact ⟨_,rfl⟩
  obtain ⟨x,hx⟩:=this
  exact ⟨x :: t,by rw [List.foldl_cons,h1,hx];simp,by simp [h2]⟩
theorem aUz (l:List Nd):∀(out:List Nd) (m:Nat),oD l→eF l (some (m:Int))=none→(l.foldl bV (out,cI m)).1≠out++l:=by
 induction l with
 | nil=>intro out m _ h;simp [eF] at h
 | cons n r ih=>
  intro out m hn h
  simp only [eF,List.foldl_cons] at h ⊢
  cases hs:gS (some (m:Int)) n with
  | none=>
   have hv:aH n=true:=by
    cases hv:aH n
    ·simp [gS,hv] at hs
    ·rfl
   have hlt:(m:Int) < n.2:=by
    by_cases hlt:(m:Int) < n.2
    ·exact hlt
    ·exfalso
     simp only [gS,if_pos hv,if_neg hlt] at hs
     split at hs <;> simp at hs
   have h0:=hn n (by simp) hv
   have hr:=aHy out m n hv (by omega)
   rw [hr]
   obtain ⟨t,ht,_⟩:=aUy r (out++[(n.1,(m:Int))],cI m++[n.2])
   rw [ht]
   intro he
   simp only [List.append_assoc,List.cons_append,List.nil_append] at he
   have:=List.append_cancel_left he
   simp only [List.cons.injEq] at this
   have h2:=congrArg Prod.snd this.1
   simp at h2
   omega
  | some x=>
   rw [hs] at h
   obtain ⟨k,rfl,hk⟩:=aHz out m n (hn n (by simp)) x hs
   rw [hk]
   have:=ih (out++[n]) k (fun y hy=>hn y (by simp [hy])) h
   simpa using this
theorem aI0 (l:List Nd) (m:Nat) (hn:oD l) (m':Int) (h:eF l (some (m:Int))=some m'):∃k:Nat,m'=k∧dC l (cI m)=(l,cI k):=by
 have:=aUx l [] m hn m' h
 simpa [dC] using this
theorem aV0 (l:List Nd) (m:Nat) (hn:oD l) (h:eF l (some (m:Int))=none):(dC l (cI m)).1≠l:=by
 have:=aUz l [] m hn h
 simpa [dC] using this
theorem aV1 (c:List Lt):∀(out:List Lt) (m:Nat),(∀x∈c,oD x.2)→∀m',c.foldl (fun st x=>eF x.2 st) (some (m:Int))=some m'→∃k:Nat,c.foldl cS (out,cI m)=(out++c,cI k):=by
 induction c with
 | nil=>intro out m _ m' h;exact ⟨m,by simp⟩
 | cons x r ih=>
  intro out m hn m' h
  simp only [List.foldl_cons] at h ⊢
  cases hs:eF x.2 (some (m:Int)) with
  | none=>rw [hs,aHu] at h;simp at h
  | some y=>
   rw [hs] at h
   obtain ⟨k,rfl,hk⟩:=aI0 x.2 m (hn x (by simp)) y hs
   have:cS (out,cI m) x=(out++[x],cI k):=by simp [cS,hk]
   rw [this]
   obtain ⟨j,hj⟩:=ih (out++[x]) k (fun y hy=>hn y (by simp [hy])) m' h
   exact ⟨j,by rw [hj];simp⟩
theorem aV2 (c:List Lt):∀st:List Lt×List Int,∃t,(c.foldl cS st).1=st.1++t:=by
 induction c with
 | nil=>intro st;exact ⟨[],by simp⟩
 | cons x r ih=>
  intro st
  obtain ⟨t,h1⟩:=ih (cS st x)
  exact ⟨(x.1,(dC x.2 st.2).1) :: t,by rw [List.foldl_cons,h1];simp [cS]⟩
theorem aV3 (c:List Lt):∀(out:List Lt) (m:Nat),(∀x∈c,oD x.2)→c.foldl (fun st x=>eF x.2 st) (some (m:Int))=none→(c.foldl cS (out,cI m)).1≠out++c:=by
 induction c with
 | nil=>intro out m _ h;simp at h
 | cons x r ih=>
  intro out m hn h
  simp only [List.foldl_cons] at h ⊢
  cases hs:eF x.2 (some (m:Int)) with
  | none=>
   have hb:=aV0 x.2 m (hn x (by simp)) hs
   obtain ⟨t,ht⟩:=aV2 r (cS (out,cI m) x)
   rw [ht]
   intro he
   simp only [cS,List.append_assoc,List.cons_append,List.nil_append] at he
   have:=List.append_cancel_left he
   simp only [List.cons.injEq] at this
   have h2:=congrArg Prod.snd this.1
   exact hb h2
  | some y=>
   rw [hs] at h
   obtain ⟨k,rfl,hk⟩:=aI0 x.2 m (hn x (by simp)) y hs
   have:cS (out,cI m) x=(out++[x],cI k):=by simp [cS,hk]
   rw [this]
   have:=ih (out++[x]) k (fun y hy=>hn y (by simp [hy])) h
   simpa using this
theorem aI1 (c:List Lt):∀acc:List Lt,(c.foldl dK acc).length=acc.length+c.length→c.foldl dK acc=acc++c:=by
 induction c with
 | nil=>intro acc _;simp
 | cons x r ih=>
  intro acc h
  simp only [List.foldl_cons,List.length_cons] at h ⊢
  have hle:∀(r acc:List Lt),(r.foldl dK acc).length≤acc.length+r.length:=by
   intro r
   induction r with
   | nil=>intro acc;simp
   | cons y r ih=>
    intro acc
    have:=ih (dK acc y)
    have h1:(dK acc y).length≤acc.length+1:=by unfold dK;split <;> simp
    simp only [List.foldl_cons,List.length_cons]
    omega
  by_cases hm:eX acc x=true
  ·have h1:dK acc x=acc:=by simp [dK,hm]
   rw [h1] at h
   have:=hle r acc
   omega
  ·have h1:dK acc x=acc++[x]:=by simp [dK,hm]
   rw [h1] at h ⊢
   have:=ih (acc++[x]) (by simp;omega)
   rw [this]
   simp
theorem aV4 (c:List Lt) (hn:∀x∈c,oD x.2):decide (c=aS c)=(decide ((bQ c).length=c.length) && (lO c).isSome):=by
 rw [Bool.eq_iff_iff]
 simp only [decide_eq_true_eq,Bool.and_eq_true]
 have hz:cI 0=[]:=rfl
 constructor
 ·intro h
  have hl:(bQ c).length=c.length:=by
   have h1:=(pM (bQ c)).1
   have h2:(aS c).length=(bQ c).length:=h1
   rw [←h] at h2
   exact h2.symm
  have hd:bQ c=c:=by
   have:=aI1 c [] (by simpa [bQ] using hl)
   simpa [bQ] using this
  refine ⟨hl,?_⟩
  cases hc:lO c with
  | none=>
   exfalso
   have:=aV3 c [] 0 hn hc
   rw [hz] at this
   apply this
   rw [List.nil_append]
   conv=>rhs;rw [h]
   unfold aS cH
   rw [hd]
  | some y=>rfl
 ·rintro ⟨hl,hs⟩
  have hd:bQ c=c:=by
   have:=aI1 c [] (by simpa [bQ] using hl)
   simpa [bQ] using this
  obtain ⟨y,hy⟩:=Option.isSome_iff_exists.1 hs
  obtain ⟨k,hk⟩:=aV1 c [] 0 hn y hy
  rw [hz] at hk
  unfold aS cH
  rw [hd,hk]
  simp
theorem aV5 {l:List Nd} (h:iD l=true):oD l:=by
 have ht:aI l 1=true:=by
  have:iA l=true:=by simp [iD] at h;exact h.1
  have:aI l 1=true∧l.length≤60:=by simpa [iA] using this
  exact this.1
 clear h
 generalize 1=q at ht
 intro n hn hv
 induction l generalizing q with
 | nil=>simp at hn
 | cons x r ih=>
  simp only [aI] at ht
  split at ht
  ·simp at ht
  ·split at ht
   ·next hok=>
    rcases List.mem_cons.1 hn with rfl | hn
    ·have:0≤n.2∧n.2 < 60:=by simpa [dG,hv] using hok
     exact this.1
    ·exact ih _ ht hn
   ·simp at ht
end Go.Proofs.YtbddofieljiihaaGreatDoor
namespace Go.Proofs.YtbddofieljiihaaGreatDoor
open Go.RowKit Go.Shelf
set_option maxRecDepth 100000
theorem aV6 (c:List Lt) (k:Nat) (h:k < c.length) (n:Nat) (hn:n < c[k].2.length) (x:Int) (hx:eF (c[k].2.take n) (lO (c.take k))=some x) (hb:gS (some x) c[k].2[n]=none):lO c=none:=by
 rw [aUv c k,List.drop_eq_getElem_cons h,List.foldl_cons,aUu c[k].2 _ n,hx,List.drop_eq_getElem_cons hn]
 have:eF (c[k].2[n] :: c[k].2.drop (n+1)) (some x)=none:=by
  show eF (c[k].2.drop (n+1)) (gS (some x) c[k].2[n])=none
  rw [hb,aBw]
 rw [this,aHu]
set_option maxHeartbeats 1000000 in
theorem aV7 (a:Option Addr) (cp:Nat) (c:List Lt) (w:World) (h:bP w a c) (h60:aN c≤60) :
  Calls Tryz.prog 51 #[.slice a c.length cp] w fun e w'=>e=.returned (.bool (lO c).isSome)∧Below w.heap.size w w':=by
 have hf:=h.few
 have HH:=aA h
 clear h
 go_enter Tryz.func51,Tryz.ntmps51
 go_wp2
 go_loopw [3,10] (fun nx i wr=>∃(k:Nat) (x:Int),k≤c.length∧i=.int .i64 k∧nx=.int .i64 x∧0≤x∧x≤aN (c.take k)∧lO (c.take k)=some x∧Below w.heap.size w wr) (fun _ i _=>c.length - (intOf i).toNat)
 case atStart=>exact ⟨0,0,Nat.zero_le _,rfl,rfl,by omega,by simp,rfl,Below.refl _ _⟩
 case round=>
  obtain ⟨k,x,hk,rfl,rfl,hx0,hx1,hnc,hb⟩:=hrel
  have hct:=tF c k
  by_cases hlt:k < c.length
  ·obtain ⟨b,q,aa,acp,rfl,e1,f1,g1⟩:=HH.out.cell k hlt
   have e2:=Below.at' hb (Nat.le_refl _) e1
   have f2:=Below.at' hb (Nat.le_refl _) f1
   have hcs:=tF c (k+1)
   rw [List.take_succ_eq_append_getElem hlt,oI] at hcs
   have HS:=aA (aUt c k hlt)
   have HCS:Hid (aN (c.take (k+1))=aN (c.take k)+c[k].2.length):=by
    rw [List.take_succ_eq_append_getElem hlt,oI];exact rfl
   have HE:=aA (fun n hn y=>aV6 c k hlt n hn y)
   rw [hnc] at HS HE
   have HG:=aA g1
   have HB:=aA hb
   have hbs:=hb.size
   generalize c[k]=z at *
   obtain ⟨zb,zl⟩:=z
   simp only at e2 f2 HS HE HG HCS hcs
   have hzl:=HG.out.few
   clear e1 f1 g1 hb hnc
   go_wp2
   go_loopw [3,17] (fun nx j wi=>∃(n:Nat) (y:Int),n≤zl.length∧j=.int .i64 n∧nx=.int .i64 y∧0≤y∧y≤aN (c.take k)+n∧eF (zl.take n) (some x)=some y∧Below w.heap.size w wi) (fun _ j _=>zl.length - (intOf j).toNat)
   case atStart=>exact ⟨0,x,Nat.zero_le _,rfl,rfl,hx0,by omega,rfl,HB.out.alloc hbs _⟩
   case round=>
    obtain ⟨n,y,hn,rfl,rfl,hy0,hy1,hny,hb2⟩:=hrel
    by_cases hnl:n < zl.length
    ·obtain ⟨b3,o3,rfl,e3,f3⟩:=HG.out.cell n hnl
     have q3:=Below.at' hb2 (Nat.le_refl _) e3
     have q4:=Below.at' hb2 (Nat.le_refl _) f3
     have HT:=aA (aUs zl (some x) n hnl)
     have HX:=aA (HE.out n hnl y hny)
     rw [hny] at HT
     generalize zl[n]=nd at *
     obtain ⟨s,v⟩:=nd
     simp only at q3 q4
     have CV:=aA (fun wx=>nE s v wx)
     have HB2:=aA hb2
     have hb2s:=hb2.size
     clear e3 f3 hny hb2
     cases hv:s.toList.isEmpty
     ·have HN:Hid (gS (some y) (s,v)=some y):=aA (by simp [gS,aH,hv])
      rw [hv] at CV
      rw [HN.out] at HT
      clear hv HX HN
      go_wp2_with (go_at_call 49;refine (aB CV _).mono ?_;rintro e w1 ⟨rfl,hb1⟩;obtain ⟨r1,r2,r3⟩:=gD hb1;have HB3:=aA (HB2.out.trans (r3.mono hb2s));clear hb1 r3)
      go_roundw
      case rel=>exact ⟨n+1,y,by omega,by go_num,rfl,hy0,by omega,HT.out,HB3.out⟩
      case measure=>simp [intOf];omega
     ·rw [hv] at CV
      by_cases h1:y < v
      ·have HN:=aA (HX.out (by simp [gS,aH,hv,h1]))
       clear hv HX HT
       go_wp2_with (go_at_call 49;refine (aB CV _).mono ?_;rintro e w1 ⟨rfl,hb1⟩;obtain ⟨r1,r2,r3⟩:=gD hb1;have HB3:=aA (HB2.out.trans (r3.mono hb2s));clear hb1 r3)
       go_ret
       exact ⟨cO (by rw [HN.out];rfl),HB3.out⟩
      ·by_cases h2:v=y
       ·have HN:Hid (gS (some y) (s,v)=some (y+1)):=aA (by simp [gS,aH,hv,h2])
        rw [HN.out] at HT
        have h2':(v == y)=true:=by simp [h2]
        clear hv HX HN h2
        go_wp2_with (go_at_call 49;refine (aB CV _).mono ?_;rintro e w1 ⟨rfl,hb1⟩;obtain ⟨r1,r2,r3⟩:=gD hb1;have HB3:=aA (HB2.out.trans (r3.mono hb2s));clear hb1 r3)
        go_roundw
        case rel=>exact ⟨n+1,y+1,by omega,by go_num,by go_num,by omega,by omega,HT.out,HB3.out⟩
        case measure=>simp [intOf];omega
       ·have HN:Hid (gS (some y) (s,v)=some y):=aA (by simp only [gS,aH,hv,if_true,if_neg h1,if_neg h2])
        rw [HN.out] at HT
        have h2':(v == y)=false:=by simp [h2]
        clear hv HX HN h2
        go_wp2_with (go_at_call 49;refine (aB CV _).mono ?_;rintro e w1 ⟨rfl,hb1⟩;obtain ⟨r1,r2,r3⟩:=gD hb1;have HB3:=aA (HB2.out.trans (r3.mono hb2s));clear hb1 r3)
        go_roundw
        case rel=>exact ⟨n+1,y,by omega,by go_num,rfl,hy0,by omega,HT.out,HB3.out⟩
        case measure=>simp [intOf];omega
    ·have hn1:zl.take n=zl:=List.take_of_length_le (by omega)
     rw [hn1] at hny
     have HN:=aA (HS.out.trans hny)
     have HB2:=aA hb2
     have hnn:n=zl.length:=by omega
     have hyy:y≤aN (c.take k)+zl.length:=by omega
     clear hny hb2 hn1 HE HS
     go_wp2
     go_roundw
     case rel=>exact ⟨k+1,y,by omega,by go_num,rfl,hy0,by rw [HCS.out];omega,HN.out,HB2.out⟩
     case measure=>simp [intOf];omega
  ·have hk1:c.take k=c:=List.take_of_length_le (by omega)
   rw [hk1] at hnc
   have HN:=aA hnc
   have HB:=aA hb
   clear hk1 hnc hb
   go_wp2
   go_ret
   exact ⟨cO (by rw [HN.out];rfl),HB.out⟩
end Go.Proofs.YtbddofieljiihaaGreatDoor
