/- Two ways to say that a clause is in order. The program: is a clause in order, and of a size that may be. The program: IsClause. The program: Resolve and Factor, of any literals at any places. Refutes: small parts. Refutes: the clause to which a step leads, and whether a step is right. Refutes: a step is right. -/
import Derived.Test.YthicbnejchpmgaaGreatDoorPClauseD
import Derived.Deep.RegionWith
import Derived.Test.YthicbnejchpmgaaGreatDoorXFacD
namespace Go.Proofs.YthicbnejchpmgaaGreatDoor
open Go.RowKit
def gT (st:Option Int) (n:Nd):Option Int:=
 match st with
 | none=>none
 | some x=>if aG n then (if x < n.2 then none else if n.2=x then some (x+1) else some x) else some x
def eA (l:List Nd) (st:Option Int):Option Int:=l.foldl gT st
def lD (c:List Lt):Option Int:=c.foldl (fun st x=>eA x.2 st) (some 0)
theorem zM (l:List Nd):eA l none=none:=by
 induction l with
 | nil=>rfl
 | cons x r ih=>simpa [eA,gT] using ih
theorem aM8 (l:List Nd) (st:Option Int) (k:Nat) (h:k < l.length):eA (l.take (k+1)) st=gT (eA (l.take k) st) l[k]:=by
 rw [List.take_succ_eq_append_getElem h];simp only [eA,List.foldl_append,List.foldl_cons,List.foldl_nil]
theorem aM9 (c:List Lt) (k:Nat) (h:k < c.length):lD (c.take (k+1))=eA c[k].2 (lD (c.take k)):=by
 rw [List.take_succ_eq_append_getElem h];simp only [lD,List.foldl_append,List.foldl_cons,List.foldl_nil]
theorem aMa (l:List Nd) (st:Option Int) (k:Nat):eA l st=eA (l.drop k) (eA (l.take k) st):=by
 conv=>lhs;rw [←List.take_append_drop k l]
 simp only [eA,List.foldl_append]
theorem aMb (c:List Lt) (k:Nat):lD c=(c.drop k).foldl (fun st x=>eA x.2 st) (lD (c.take k)):=by
 conv=>lhs;rw [←List.take_append_drop k c]
 simp only [lD,List.foldl_append]
theorem aDs (c:List Lt):c.foldl (fun st x=>eA x.2 st) none=none:=by
 induction c with
 | nil=>rfl
 | cons x r ih=>simp only [List.foldl_cons,zM,ih]
def cJ (m:Nat):List Int:=(List.range m).map Int.ofNat
theorem aDt (m:Nat):cJ (m+1)=cJ m++[(m:Int)]:=by simp [cJ,List.range_succ]
theorem aDu (m:Nat):(cJ m).length=m:=by simp [cJ]
theorem aDv (m:Nat) (x:Int):dU (cJ m) x=if 0≤x∧x < m then x else -1:=by
 induction m with
 | zero=>simp [cJ,aCe];omega
 | succ m ih=>
  rw [aDt,yR,aDu,ih]
  by_cases h:(m:Int)=x
  ·subst h;rw [if_pos rfl,if_pos (by omega)]
  ·rw [if_neg h]
   by_cases h2:0≤x∧x < m
   ·rw [if_pos h2,if_pos (by omega)]
   ·rw [if_neg h2,if_neg (by omega)]
def nZ (l:List Nd):Prop:=∀n∈l,aG n=true→0≤n.2
theorem aDw (out:List Nd) (m:Nat) (n:Nd) (hv:aG n=true) (h:¬(0≤n.2∧n.2 < m)):bY (out,cJ m) n=(out++[(n.1,(m:Int))],cJ m++[n.2]):=by
 have hp:dU (cJ m) n.2=-1:=by rw [aDv,if_neg h]
 unfold bY
 rw [if_pos hv]
 show (if dU (cJ m) n.2 < 0 then (out++[(n.1,((cJ m).length:Int))],cJ m++[n.2]) else (out++[(n.1,dU (cJ m) n.2)],cJ m))=_
 rw [hp,if_pos (by omega),aDu]
theorem aMc (out:List Nd) (m:Nat) (n:Nd) (hv:aG n=true) (h:0≤n.2∧n.2 < m):bY (out,cJ m) n=(out++[n],cJ m):=by
 have hp:dU (cJ m) n.2=n.2:=by rw [aDv,if_pos h]
 unfold bY
 rw [if_pos hv]
 show (if dU (cJ m) n.2 < 0 then (out++[(n.1,((cJ m).length:Int))],cJ m++[n.2]) else (out++[(n.1,dU (cJ m) n.2)],cJ m))=_
 rw [hp,if_neg (by omega)]
theorem aDx (out:List Nd) (m:Nat) (n:Nd) (hn:aG n=true→0≤n.2) (m':Int) (h:gT (some (m:Int)) n=some m'):∃k:Nat,m'=k∧bY (out,cJ m) n=(out++[n],cJ k):=by
 simp only [gT] at h
 by_cases hv:aG n=true
 ·have h0:=hn hv
  rw [if_pos hv] at h
  by_cases h1:(m:Int) < n.2
  ·rw [if_pos h1] at h;simp at h
  ·rw [if_neg h1] at h
   by_cases h2:n.2=(m:Int)
   ·rw [if_pos h2] at h
    simp at h
    refine ⟨m+1,by omega,?_⟩
    rw [aDw out m n hv (by omega),aDt,←h2]
   ·rw [if_neg h2] at h
    simp at h
    exact ⟨m,by omega,aMc out m n hv (by omega)⟩
 ·rw [if_neg hv] at h
  simp at h
  refine ⟨m,by omega,?_⟩
  unfold bY
  rw [if_neg hv]
theorem aMd (l:List Nd):∀(out:List Nd) (m:Nat),nZ l→∀m',eA l (some (m:Int))=some m'→∃k:Nat,m'=k∧l.foldl bY (out,cJ m)=(out++l,cJ k):=by
 induction l with
 | nil=>intro out m _ m' h;simp [eA] at h;exact ⟨m,by omega,by simp⟩
 | cons n r ih=>
  intro out m hn m' h
  simp only [eA,List.foldl_cons] at h ⊢
  cases hs:gT (some (m:Int)) n with
  | none=>rw [hs] at h;rw [show List.foldl gT none r=none from zM r] at h;simp at h
  | some x=>
   rw [hs] at h
   obtain ⟨k,rfl,hk⟩:=aDx out m n (hn n (by simp)) x hs
   rw [hk]
   obtain ⟨j,hj1,hj2⟩:=ih (out++[n]) k (fun y hy=>hn y (by simp [hy])) m' h
   exact ⟨j,hj1,by rw [hj2];simp⟩
theorem aMe (l:List Nd):∀st:List Nd×List Int,∃t,(l.foldl bY st).1=st.1++t∧t.length=l.length:=by
 induction l with
 | nil=>intro st;exact ⟨[],by simp,rfl⟩
 | cons n r ih=>
  intro st
  obtain ⟨t,h1,h2⟩:=ih (bY st n)
  have:∃x,(bY st n).1=st.1++[x]:=by
   unfold bY
   split
   ·split <;> exact ⟨_,rfl⟩
   ·exact ⟨_,rfl⟩
  obtain ⟨x,hx⟩:=this
  exact ⟨x :: t,by rw [List.foldl_cons,h1,hx];simp,by simp [h2]⟩
theorem aMf (l:List Nd):∀(out:List Nd) (m:Nat),nZ l→eA l (some (m:Int))=none→(l.foldl bY (out,cJ m)).1≠out++l:=by
 induction l with
 | nil=>intro out m _ h;simp [eA] at h
 | cons n r ih=>
  intro out m hn h
  simp only [eA,List.foldl_cons] at h ⊢
  cases hs:gT (some (m:Int)) n with
  | none=>
   have hv:aG n=true:=by
    cases hv:aG n
    ·simp [gT,hv] at hs
    ·rfl
   have hlt:(m:Int) < n.2:=by
    by_cases hlt:(m:Int) < n.2
    ·exact hlt
    ·exfalso
     simp only [gT,if_pos hv,if_neg hlt] at hs
     split at hs <;> simp at hs
   have h0:=hn n (by simp) hv
   have hr:=aDw out m n hv (by omega)
   rw [hr]
   obtain ⟨t,ht,_⟩:=aMe r (out++[(n.1,(m:Int))],cJ m++[n.2])
   rw [ht]
   intro he
   simp only [List.append_assoc,List.cons_append,List.nil_append] at he
   have:=List.append_cancel_left he
   simp only [List.cons.injEq] at this
   have h2:=congrArg Prod.snd this.1
   simp at h2
   omega
  | some x=>
   rw [hs] at h
   obtain ⟨k,rfl,hk⟩:=aDx out m n (hn n (by simp)) x hs
   rw [hk]
   have:=ih (out++[n]) k (fun y hy=>hn y (by simp [hy])) h
   simpa using this
theorem aDy (l:List Nd) (m:Nat) (hn:nZ l) (m':Int) (h:eA l (some (m:Int))=some m'):∃k:Nat,m'=k∧bW l (cJ m)=(l,cJ k):=by
 have:=aMd l [] m hn m' h
 simpa [bW] using this
theorem aMg (l:List Nd) (m:Nat) (hn:nZ l) (h:eA l (some (m:Int))=none):(bW l (cJ m)).1≠l:=by
 have:=aMf l [] m hn h
 simpa [bW] using this
theorem aMh (c:List Lt):∀(out:List Lt) (m:Nat),(∀x∈c,nZ x.2)→∀m',c.foldl (fun st x=>eA x.2 st) (some (m:Int))=some m'→∃k:Nat,c.foldl dM (out,cJ m)=(out++c,cJ k):=by
 induction c with
 | nil=>intro out m _ m' h;exact ⟨m,by simp⟩
 | cons x r ih=>
  intro out m hn m' h
  simp only [List.foldl_cons] at h ⊢
  cases hs:eA x.2 (some (m:Int)) with
  | none=>rw [hs,aDs] at h;simp at h
  | some y=>
   rw [hs] at h
   obtain ⟨k,rfl,hk⟩:=aDy x.2 m (hn x (by simp)) y hs
   have:dM (out,cJ m) x=(out++[x],cJ k):=by simp [dM,hk]
   rw [this]
   obtain ⟨j,hj⟩:=ih (out++[x]) k (fun y hy=>hn y (by simp [hy])) m' h
   exact ⟨j,by rw [hj];simp⟩
theorem aMi (c:List Lt):∀st:List Lt×List Int,∃t,(c.foldl dM st).1=st.1++t:=by
 induction c with
 | nil=>intro st;exact ⟨[],by simp⟩
 | cons x r ih=>
  intro st
  obtain ⟨t,h1⟩:=ih (dM st x)
  exact ⟨(x.1,(bW x.2 st.2).1) :: t,by rw [List.foldl_cons,h1];simp [dM]⟩
theorem aMj (c:List Lt):∀(out:List Lt) (m:Nat),(∀x∈c,nZ x.2)→c.foldl (fun st x=>eA x.2 st) (some (m:Int))=none→(c.foldl dM (out,cJ m)).1≠out++c:=by
 induction c with
 | nil=>intro out m _ h;simp at h
 | cons x r ih=>
  intro out m hn h
  simp only [List.foldl_cons] at h ⊢
  cases hs:eA x.2 (some (m:Int)) with
  | none=>
   have hb:=aMg x.2 m (hn x (by simp)) hs
   obtain ⟨t,ht⟩:=aMi r (dM (out,cJ m) x)
   rw [ht]
   intro he
   simp only [dM,List.append_assoc,List.cons_append,List.nil_append] at he
   have:=List.append_cancel_left he
   simp only [List.cons.injEq] at this
   have h2:=congrArg Prod.snd this.1
   exact hb h2
  | some y=>
   rw [hs] at h
   obtain ⟨k,rfl,hk⟩:=aDy x.2 m (hn x (by simp)) y hs
   have:dM (out,cJ m) x=(out++[x],cJ k):=by simp [dM,hk]
   rw [this]
   have:=ih (out++[x]) k (fun y hy=>hn y (by simp [hy])) h
   simpa using this
theorem aDz (c:List Lt):∀acc:List Lt,(c.foldl dY acc).length=acc.length+c.length→c.foldl dY acc=acc++c:=by
 induction c with
 | nil=>intro acc _;simp
 | cons x r ih=>
  intro acc h
  simp only [List.foldl_cons,List.length_cons] at h ⊢
  have hle:∀(r acc:List Lt),(r.foldl dY acc).length≤acc.length+r.length:=by
   intro r
   induction r with
   | nil=>intro acc;simp
   | cons y r ih=>
    intro acc
    have:=ih (dY acc y)
    have h1:(dY acc y).length≤acc.length+1:=by unfold dY;split <;> simp
    simp only [List.foldl_cons,List.length_cons]
    omega
  by_cases hm:eR acc x=true
  ·have h1:dY acc x=acc:=by simp [dY,hm]
   rw [h1] at h
   have:=hle r acc
   omega
  ·have h1:dY acc x=acc++[x]:=by simp [dY,hm]
   rw [h1] at h ⊢
   have:=ih (acc++[x]) (by simp;omega)
   rw [this]
   simp
theorem aMk (c:List Lt) (hn:∀x∈c,nZ x.2):decide (c=aT c)=(decide ((cH c).length=c.length) && (lD c).isSome):=by
 rw [Bool.eq_iff_iff]
 simp only [decide_eq_true_eq,Bool.and_eq_true]
 have hz:cJ 0=[]:=rfl
 constructor
 ·intro h
  have hl:(cH c).length=c.length:=by
   have h1:=(qZ (cH c)).1
   have h2:(aT c).length=(cH c).length:=h1
   rw [←h] at h2
   exact h2.symm
  have hd:cH c=c:=by
   have:=aDz c [] (by simpa [cH] using hl)
   simpa [cH] using this
  refine ⟨hl,?_⟩
  cases hc:lD c with
  | none=>
   exfalso
   have:=aMj c [] 0 hn hc
   rw [hz] at this
   apply this
   rw [List.nil_append]
   conv=>rhs;rw [h]
   unfold aT cX
   rw [hd]
  | some y=>rfl
 ·rintro ⟨hl,hs⟩
  have hd:cH c=c:=by
   have:=aDz c [] (by simpa [cH] using hl)
   simpa [cH] using this
  obtain ⟨y,hy⟩:=Option.isSome_iff_exists.1 hs
  obtain ⟨k,hk⟩:=aMh c [] 0 hn y hy
  rw [hz] at hk
  unfold aT cX
  rw [hd,hk]
  simp
theorem aMl {l:List Nd} (h:jE l=true):nZ l:=by
 have ht:aI l 1=true:=by
  have:dT l=true:=by simp [jE] at h;exact h.1
  have:aI l 1=true∧l.length≤60:=by simpa [dT] using this
  exact this.1
 clear h
 generalize 1=q at ht
 intro n hn hv
 induction l generalizing q with
 | nil=>simp at hn
 | cons x r ih=>
  simp only [aI] at ht
  split at ht
  ·simp at ht
  ·split at ht
   ·next hok=>
    rcases List.mem_cons.1 hn with rfl | hn
    ·have:0≤n.2∧n.2 < 60:=by simpa [dH,hv] using hok
     exact this.1
    ·exact ih _ ht hn
   ·simp at ht
end Go.Proofs.YthicbnejchpmgaaGreatDoor
namespace Go.Proofs.YthicbnejchpmgaaGreatDoor
open Go.RowKit Go.Shelf
set_option maxRecDepth 100000
theorem aMm (c:List Lt) (k:Nat) (h:k < c.length) (n:Nat) (hn:n < c[k].2.length) (x:Int) (hx:eA (c[k].2.take n) (lD (c.take k))=some x) (hb:gT (some x) c[k].2[n]=none):lD c=none:=by
 rw [aMb c k,List.drop_eq_getElem_cons h,List.foldl_cons,aMa c[k].2 _ n,hx,List.drop_eq_getElem_cons hn]
 have:eA (c[k].2[n] :: c[k].2.drop (n+1)) (some x)=none:=by
  show eA (c[k].2.drop (n+1)) (gT (some x) c[k].2[n])=none
  rw [hb,zM]
 rw [this,aDs]
set_option maxHeartbeats 1000000 in
theorem aMn (a:Option Addr) (cp:Nat) (c:List Lt) (w:World) (h:bS w a c) (h60:aP c≤60) :
  Calls Tryz.prog 128 #[.slice a c.length cp] w fun e w'=>e=.returned (.bool (lD c).isSome)∧Below w.heap.size w w':=by
 have hf:=h.few
 have HH:=aA h
 clear h
 go_enter Tryz.func128,Tryz.ntmps128
 go_wp2
 go_loopw [3,10] (fun nx i wr=>∃(k:Nat) (x:Int),k≤c.length∧i=.int .i64 k∧nx=.int .i64 x∧0≤x∧x≤aP (c.take k)∧lD (c.take k)=some x∧Below w.heap.size w wr) (fun _ i _=>c.length - (intOf i).toNat)
 case atStart=>exact ⟨0,0,Nat.zero_le _,rfl,rfl,by omega,by simp,rfl,Below.refl _ _⟩
 case round=>
  obtain ⟨k,x,hk,rfl,rfl,hx0,hx1,hnc,hb⟩:=hrel
  have hct:=tO c k
  by_cases hlt:k < c.length
  ·obtain ⟨b,q,aa,acp,rfl,e1,f1,g1⟩:=HH.out.cell k hlt
   have e2:=Below.at' hb (Nat.le_refl _) e1
   have f2:=Below.at' hb (Nat.le_refl _) f1
   have hcs:=tO c (k+1)
   rw [List.take_succ_eq_append_getElem hlt,oO] at hcs
   have HS:=aA (aM9 c k hlt)
   have HCS:Hid (aP (c.take (k+1))=aP (c.take k)+c[k].2.length):=by
    rw [List.take_succ_eq_append_getElem hlt,oO];exact rfl
   have HE:=aA (fun n hn y=>aMm c k hlt n hn y)
   rw [hnc] at HS HE
   have HG:=aA g1
   have HB:=aA hb
   have hbs:=hb.size
   generalize c[k]=z at *
   obtain ⟨zb,zl⟩:=z
   simp only at e2 f2 HS HE HG HCS hcs
   have hzl:=HG.out.few
   clear e1 f1 g1 hb hnc
   go_wp2
   go_loopw [3,17] (fun nx j wi=>∃(n:Nat) (y:Int),n≤zl.length∧j=.int .i64 n∧nx=.int .i64 y∧0≤y∧y≤aP (c.take k)+n∧eA (zl.take n) (some x)=some y∧Below w.heap.size w wi) (fun _ j _=>zl.length - (intOf j).toNat)
   case atStart=>exact ⟨0,x,Nat.zero_le _,rfl,rfl,hx0,by omega,rfl,HB.out.alloc hbs _⟩
   case round=>
    obtain ⟨n,y,hn,rfl,rfl,hy0,hy1,hny,hb2⟩:=hrel
    by_cases hnl:n < zl.length
    ·obtain ⟨b3,o3,rfl,e3,f3⟩:=HG.out.cell n hnl
     have q3:=Below.at' hb2 (Nat.le_refl _) e3
     have q4:=Below.at' hb2 (Nat.le_refl _) f3
     have HT:=aA (aM8 zl (some x) n hnl)
     have HX:=aA (HE.out n hnl y hny)
     rw [hny] at HT
     generalize zl[n]=nd at *
     obtain ⟨s,v⟩:=nd
     simp only at q3 q4
     have CV:=aA (fun wx=>nK s v wx)
     have HB2:=aA hb2
     have hb2s:=hb2.size
     clear e3 f3 hny hb2
     cases hv:s.toList.isEmpty
     ·have HN:Hid (gT (some y) (s,v)=some y):=aA (by simp [gT,aG,hv])
      rw [hv] at CV
      rw [HN.out] at HT
      clear hv HX HN
      go_wp2_with (go_at_call 44;refine (aB CV _).mono ?_;rintro e w1 ⟨rfl,hb1⟩;obtain ⟨r1,r2,r3⟩:=gK hb1;have HB3:=aA (HB2.out.trans (r3.mono hb2s));clear hb1 r3)
      go_roundw
      case rel=>exact ⟨n+1,y,by omega,by go_num,rfl,hy0,by omega,HT.out,HB3.out⟩
      case measure=>simp [intOf];omega
     ·rw [hv] at CV
      by_cases h1:y < v
      ·have HN:=aA (HX.out (by simp [gT,aG,hv,h1]))
       clear hv HX HT
       go_wp2_with (go_at_call 44;refine (aB CV _).mono ?_;rintro e w1 ⟨rfl,hb1⟩;obtain ⟨r1,r2,r3⟩:=gK hb1;have HB3:=aA (HB2.out.trans (r3.mono hb2s));clear hb1 r3)
       go_ret
       exact ⟨cS (by rw [HN.out];rfl),HB3.out⟩
      ·by_cases h2:v=y
       ·have HN:Hid (gT (some y) (s,v)=some (y+1)):=aA (by simp [gT,aG,hv,h2])
        rw [HN.out] at HT
        have h2':(v == y)=true:=by simp [h2]
        clear hv HX HN h2
        go_wp2_with (go_at_call 44;refine (aB CV _).mono ?_;rintro e w1 ⟨rfl,hb1⟩;obtain ⟨r1,r2,r3⟩:=gK hb1;have HB3:=aA (HB2.out.trans (r3.mono hb2s));clear hb1 r3)
        go_roundw
        case rel=>exact ⟨n+1,y+1,by omega,by go_num,by go_num,by omega,by omega,HT.out,HB3.out⟩
        case measure=>simp [intOf];omega
       ·have HN:Hid (gT (some y) (s,v)=some y):=aA (by simp only [gT,aG,hv,if_true,if_neg h1,if_neg h2])
        rw [HN.out] at HT
        have h2':(v == y)=false:=by simp [h2]
        clear hv HX HN h2
        go_wp2_with (go_at_call 44;refine (aB CV _).mono ?_;rintro e w1 ⟨rfl,hb1⟩;obtain ⟨r1,r2,r3⟩:=gK hb1;have HB3:=aA (HB2.out.trans (r3.mono hb2s));clear hb1 r3)
        go_roundw
        case rel=>exact ⟨n+1,y,by omega,by go_num,rfl,hy0,by omega,HT.out,HB3.out⟩
        case measure=>simp [intOf];omega
    ·have hn1:zl.take n=zl:=List.take_of_length_le (by omega)
     rw [hn1] at hny
     have HN:=aA (HS.out.trans hny)
     have HB2:=aA hb2
     have hnn:n=zl.length:=by omega
     have hyy:y≤aP (c.take k)+zl.length:=by omega
     clear hny hb2 hn1 HE HS
     go_wp2
     go_roundw
     case rel=>exact ⟨k+1,y,by omega,by go_num,rfl,hy0,by rw [HCS.out];omega,HN.out,HB2.out⟩
     case measure=>simp [intOf];omega
  ·have hk1:c.take k=c:=List.take_of_length_le (by omega)
   rw [hk1] at hnc
   have HN:=aA hnc
   have HB:=aA hb
   clear hk1 hnc hb
   go_wp2
   go_ret
   exact ⟨cS (by rw [HN.out];rfl),HB.out⟩
set_option maxHeartbeats 400000 in
theorem aMo (a:Option Addr) (cp:Nat) (c:List Lt) (w:World) (h:bS w a c) (h60:aP c≤60) (hn:∀x∈c,nZ x.2) :
  Calls Tryz.prog 116 #[.slice a c.length cp] w fun e w'=>e=.returned (.bool (decide (c=aT c)))∧Below w.heap.size w w':=by
 have HE:=aA (aMk c hn)
 have CD:=aA (aEf a cp c w h)
 have hf:=h.few
 have hdb:=(sK c).1
 have CN:=aA (fun wx (hx:bS wx a c)=>aMn a cp c wx hx h60)
 have HH:=aA h
 clear h hn
 by_cases hl:(cH c).length=c.length
 ·have hle:(((cH c).length:Int) == (c.length:Int))=true:=by rw [beq_iff_eq];omega
  have HR:Hid (decide (c=aT c)=(lD c).isSome):=aA (by rw [HE.out,hl];simp)
  clear hl
  generalize hdl:(cH c).length=m at *
  go_enter Tryz.func116,Tryz.ntmps116
  go_wp2_with (first
   | (go_at_call 49;refine (aB CD).mono ?_;rintro e w1 ⟨v,P,rfl,hP,hA,ho,hb⟩;obtain ⟨va,vcp,rfl⟩:=aR ho;have hPl:P.length=m:=(by rw [←hdl,←hP];simp);rw [hPl];have HB:=aA hb;have hbs:=hb.size;clear hP hA ho hb hPl)
   | (go_at_call 128;refine (aB CN _ (HH.out.below HB.out (Nat.le_refl _))).mono ?_;rintro e w2 ⟨rfl,hb2⟩;have HB2:=aA (HB.out.trans (hb2.mono hbs));clear hb2))
  go_ret
  exact ⟨cS HR.out.symm,HB2.out⟩
 ·have hle:(((cH c).length:Int) == (c.length:Int))=false:=by rw [beq_eq_false_iff_ne];omega
  have HR:Hid (decide (c=aT c)=false):=aA (by rw [HE.out];simp [hl])
  clear hl
  generalize hdl:(cH c).length=m at *
  go_enter Tryz.func116,Tryz.ntmps116
  go_wp2_with (first
   | (go_at_call 49;refine (aB CD).mono ?_;rintro e w1 ⟨v,P,rfl,hP,hA,ho,hb⟩;obtain ⟨va,vcp,rfl⟩:=aR ho;have hPl:P.length=m:=(by rw [←hdl,←hP];simp);rw [hPl];have HB:=aA hb;clear hP hA ho hb hPl))
  go_ret
  exact ⟨cS HR.out.symm,HB.out⟩
set_option maxHeartbeats 1000000 in
theorem aE0 (a:Option Addr) (cp:Nat) (c:List Lt) (w:World) (h:bS w a c) (hT:gW w) :
  Calls Tryz.prog 95 #[.slice a c.length cp] w fun e w'=>e=.returned (.bool (bV c))∧Below w.heap.size w w':=by
 have hf:=h.few
 have cF:=tY a cp c w h
 have HT:=aA hT
 have HH:=aA h
 clear hT
 by_cases hfit:dV c=true
 ·have hcount:c.length≤8∧aP c≤60:=by simpa [dV] using hfit
  rw [hfit] at cF
  have HF:=aA cF
  have HE:Hid (bV c=((c.all fun l=>jE l.2) && decide (c=aT c))):=by unfold bV;rw [hfit];exact Bool.true_and _▸rfl
  obtain ⟨h8,h60⟩:=hcount
  clear cF hfit h
  go_enter Tryz.func95,Tryz.ntmps95
  go_wp2_with (go_at_call 41;refine (aB HF).mono ?_;rintro e w0 ⟨rfl,hb0⟩)
  go_loopw [10] (fun i wr=>∃k:Nat,k≤c.length∧i=.int .i64 k∧Below w.heap.size w wr∧((c.take k).all fun l=>jE l.2)=true) (fun i _=>c.length - (intOf i).toNat)
  case atStart=>exact ⟨0,Nat.zero_le _,rfl,hb0,rfl⟩
  case round=>
   obtain ⟨k,hk,rfl,hb,hall⟩:=hrel
   by_cases hlt:k < c.length
   ·obtain ⟨b,q,aa,acp,rfl,e1,f1,g1⟩:=HH.out.cell k hlt
    have e2:=Below.at' hb (Nat.le_refl _) e1
    have f2:=Below.at' hb (Nat.le_refl _) f1
    have HSN:Hid (((c.take (k+1)).all fun l=>jE l.2)=jE c[k].2):=by
     rw [List.take_succ_eq_append_getElem hlt,List.all_append,hall];exact Bool.and_true _▸rfl
    have HN:Hid (jE c[k].2=false→bV c=false):=fun hx=>by
     rw [HE.out,Bool.and_eq_false_iff]
     left
     rw [List.all_eq_false]
     exact ⟨c[k],List.getElem_mem _,by simp [hx]⟩
    have hbs:=hb.size
    generalize c[k]=x at *
    obtain ⟨xb,xl⟩:=x
    simp only at e2 f2 g1
    have hbx:Below w.heap.size w (wr.alloc (.cells #[.bool xb,.slice aa xl.length acp] 66)):=hb.alloc hbs _
    have cA:=aNe aa acp xl _ (g1.below hbx (Nat.le_refl _)) (HT.out.below hbx (Nat.le_refl _))
    have HBX:=aA hbx
    clear e1 f1 hall hb g1 hbx
    cases ha:jE xl
    ·rw [ha] at cA
     have HV:=aA (HN.out ha)
     have CA:=aA cA
     clear cA ha HN HSN
     go_wp2_with (go_at_call 115;refine (aB CA).mono ?_;rintro e w1 ⟨rfl,hb1⟩;have HB1:=aA (HBX.out.trans (hb1.mono HBX.out.size));clear hb1)
     go_ret
     exact ⟨cS HV.out.symm,HB1.out⟩
    ·rw [ha] at cA
     have HV:=aA (HSN.out.trans ha)
     have CA:=aA cA
     clear cA ha HN HSN
     go_wp2_with (go_at_call 115;refine (aB CA).mono ?_;rintro e w1 ⟨rfl,hb1⟩;have HB1:=aA (HBX.out.trans (hb1.mono HBX.out.size));clear hb1)
     go_roundw
     case rel=>exact ⟨k+1,by omega,by go_num,HB1.out,HV.out⟩
     case measure=>simp [intOf];omega
   ·have hk1:c.take k=c:=List.take_of_length_le (by omega)
    rw [hk1] at hall
    have HA:Hid (bV c=decide (c=aT c)):=by rw [HE.out,hall];exact Bool.true_and _▸rfl
    have hnn:∀x∈c,nZ x.2:=fun x hx=>aMl (List.all_eq_true.1 hall x hx)
    have CO:=aA (aMo a cp c wr (HH.out.below hb (Nat.le_refl _)) h60 hnn)
    have HB:=aA hb
    have hbs:=hb.size
    clear hk1 hall hb hnn
    go_wp2_with (go_at_call 116;refine (aB CO).mono ?_;rintro e w1 ⟨rfl,hb1⟩;have HB1:=aA (HB.out.trans (hb1.mono hbs));clear hb1)
    go_ret
    exact ⟨cS HA.out.symm,HB1.out⟩
 ·have hfit':dV c=false:=by simpa using hfit
  rw [hfit'] at cF
  have HE:Hid (bV c=false):=by unfold bV;rw [hfit'];rfl
  have HF:=aA cF
  clear cF hfit hfit' h
  go_enter Tryz.func95,Tryz.ntmps95
  go_wp2_with (go_at_call 41;refine (aB HF).mono ?_;rintro e w' ⟨rfl,hb⟩;have HB:=aA hb;clear hb)
  go_ret
  exact ⟨cS HE.out.symm,HB.out⟩
end Go.Proofs.YthicbnejchpmgaaGreatDoor
namespace Go.Proofs.YthicbnejchpmgaaGreatDoor
open Go.RowKit Go.Shelf Go.WideMaps
set_option maxRecDepth 100000
def zO (c d:List Lt) (i j:Int) (a b:Nat):Prop:=∃(ha:a < c.length) (hb:b < d.length),i=a∧j=b∧c[a].1≠d[b].1
def mC (c d:List Lt) (i j:Int) (out:List Lt) (yes:Bool) (e:Int):Prop:=
 (¬(bV c=true∧bV d=true)∧out=[]∧yes=false∧e=5)∨
 (bV c=true∧bV d=true∧(((¬∃a b,zO c d i j a b)∧out=[]∧yes=false∧e=6)∨
  ∃a b,zO c d i j a b∧gZ (aJ 0 (c.getD a default).2++aJ 1 (d.getD b default).2) 0 (c.getD a default).2.length (aX 0 [(c,a),(d,b)]) out yes e))
theorem mC.one {c d:List Lt} {i j:Int} {o o':List Lt} {y y':Bool} {e e':Int} (h:mC c d i j o y e) (h':mC c d i j o' y' e'):o=o'∧y=y'∧e=e':=by
 rcases h with ⟨h1,rfl,rfl,rfl⟩ | ⟨h1,h2,h⟩
 ·rcases h' with ⟨_,rfl,rfl,rfl⟩ | ⟨h3,h4,_⟩
  ·exact ⟨rfl,rfl,rfl⟩
  ·exact absurd ⟨h3,h4⟩ h1
 ·rcases h' with ⟨h3,_⟩ | ⟨_,_,h'⟩
  ·exact absurd ⟨h1,h2⟩ h3
  ·rcases h with ⟨h3,rfl,rfl,rfl⟩ | ⟨a,b,hp,h⟩
   ·rcases h' with ⟨_,rfl,rfl,rfl⟩ | ⟨a,b,hp,_⟩
    ·exact ⟨rfl,rfl,rfl⟩
    ·exact absurd ⟨a,b,hp⟩ h3
   ·rcases h' with ⟨h3,_⟩ | ⟨a',b',hp',h'⟩
    ·exact absurd ⟨a,b,hp⟩ h3
    ·obtain ⟨_,_,p1,p2,_⟩:=hp
     obtain ⟨_,_,q1,q2,_⟩:=hp'
     obtain rfl:a=a':=by omega
     obtain rfl:b=b':=by omega
     exact aBg h h'
def oS (S:List Lt→Bool→Int→Prop) (w:World) (e:Ending) (w':World):Prop:=
 ∃v out yes er,e=.returned (.tuple #[v,.bool yes,.int .i64 er])∧S out yes er∧bK w.heap.size w' v out∧out.length≤100∧Below w.heap.size w w'
theorem oS.none {S:List Lt→Bool→Int→Prop} {w w':World} {er:Int} (h:S [] false er) (hb:Below w.heap.size w w'):oS S w (.returned (.tuple #[.slice none 0 0,.bool false,.int .i64 er])) w':=
 ⟨_,[],false,er,rfl,h,bK.nil _ _,by simp,hb⟩
theorem aE1 (a:Option Addr) (n cp:Nat) (i:Int) (w:World):Calls Tryz.prog 96 #[.slice a n cp,.int .i64 i] w fun e w'=>e=.returned (.bool (decide (0≤i∧i < n)))∧w'=w:=by
 by_cases h0:0≤i
 ·by_cases h1:i < n
  ·have:decide (0≤i∧i < n)=true:=by simp [h0,h1]
   rw [this]
   go_enter Tryz.func96,Tryz.ntmps96
   go_wp2
   go_ret
   exact ⟨rfl,rfl⟩
  ·have:decide (0≤i∧i < n)=false:=by simp [h1]
   rw [this]
   go_enter Tryz.func96,Tryz.ntmps96
   go_wp2
   go_ret
   exact ⟨rfl,rfl⟩
 ·have:decide (0≤i∧i < n)=false:=by simp [h0]
  rw [this]
  go_enter Tryz.func96,Tryz.ntmps96
  go_wp2
  go_ret
  exact ⟨rfl,rfl⟩
set_option maxHeartbeats 8000000 in
theorem aMp (a1 a2:Option Addr) (c1 c2:Nat) (c d:List Lt) (i j:Int) (w:World) (h1:bS w a1 c) (h2:bS w a2 d) (hT:gW w) :
  Calls Tryz.prog 64 #[.slice a1 c.length c1,.int .i64 i,.slice a2 d.length c2,.int .i64 j] w fun e w'=>oS (mC c d i j) w e w':=by
 have CI1:=aA (aE0 a1 c1 c w h1 hT)
 have HT:=aA hT
 have H1:=aA h1
 have H2:=aA h2
 clear h1 h2 hT
 cases i1:bV c with
 | false=>
  have HR:Hid (mC c d i j [] false 5):=aA (Or.inl ⟨by simp [i1],rfl,rfl,rfl⟩)
  rw [i1] at CI1
  clear i1
  go_enter Tryz.func64,Tryz.ntmps64
  go_wp2_with (go_at_call 95;refine (aB CI1).mono ?_;rintro e w1 ⟨rfl,hb1⟩;have HB1:=aA hb1;clear hb1)
  go_returns
  exact oS.none HR.out HB1.out
 | true=>
  rw [i1] at CI1
  have CI2:=aA (fun wx (hx:Below w.heap.size w wx)=>aE0 a2 c2 d wx (H2.out.below hx (Nat.le_refl _)) (HT.out.below hx (Nat.le_refl _)))
  cases i2:bV d with
  | false=>
   have HR:Hid (mC c d i j [] false 5):=aA (Or.inl ⟨by simp [i2],rfl,rfl,rfl⟩)
   rw [i2] at CI2
   clear i1 i2
   go_enter Tryz.func64,Tryz.ntmps64
   go_wp2_with (first
    | (go_at_call 95;refine (aB CI2 _ HB1.out).mono ?_;rintro e w2 ⟨rfl,hb2⟩;have HB2:=aA (HB1.out.trans (hb2.mono hb1s));clear hb2)
    | (go_at_call 95;refine (aB CI1).mono ?_;rintro e w1 ⟨rfl,hb1⟩;have HB1:=aA hb1;have hb1s:=hb1.size;clear hb1))
   go_returns
   exact oS.none HR.out HB2.out
  | true=>
   rw [i2] at CI2
   have HI:=aA (And.intro i1 i2)
   have P1:=aA (fun wx=>aE1 a1 c.length c1 i wx)
   have P2:=aA (fun wx=>aE1 a2 d.length c2 j wx)
   have HBAD:Hid ((¬∃a b,zO c d i j a b)→mC c d i j [] false 6):=aA fun hn=>Or.inr ⟨i1,i2,Or.inl ⟨hn,rfl,rfl,rfl⟩⟩
   clear i1 i2
   by_cases hi:0≤i∧i < c.length
   ·rw [decide_eq_true hi] at P1
    obtain ⟨a,rfl⟩ : ∃a:Nat,i=a:=⟨i.toNat,by omega⟩
    have ha:a < c.length:=by omega
    by_cases hj:0≤j∧j < d.length
    ·rw [decide_eq_true hj] at P2
     obtain ⟨b,rfl⟩ : ∃b:Nat,j=b:=⟨j.toNat,by omega⟩
     have hb:b < d.length:=by omega
     have hai:(a:Int) < (c.length:Int):=by omega
     have hbi:(b:Int) < (d.length:Int):=by omega
     have haz:(0:Int)≤(a:Int):=by omega
     have hbz:(0:Int)≤(b:Int):=by omega
     obtain ⟨b1,o1,aa,ac,rfl,e1,_,_⟩:=H1.out.cell a ha
     obtain ⟨b2,o2,ba,bc,rfl,f1,_,_⟩:=H2.out.cell b hb
     by_cases hs:c[a].1=d[b].1
     ·have HR:=aA (HBAD.out (fun ⟨a',b',p1,p2,p3,p4,p5⟩=>by
       obtain rfl:a=a':=by omega
       obtain rfl:b=b':=by omega
       exact p5 hs))
      rw [hs] at e1
      clear HBAD hi hj hs
      go_enter Tryz.func64,Tryz.ntmps64
      go_upto_region 3 with (first
       | (go_at_call 95;refine (aB CI2 _ HB1.out).mono ?_;rintro e w2 ⟨rfl,hb2⟩;have HB2:=aA (HB1.out.trans (hb2.mono hb1s));clear hb2)
       | (go_at_call 95;refine (aB CI1).mono ?_;rintro e w1 ⟨rfl,hb1⟩;have HB1:=aA hb1;have hb1s:=hb1.size;clear hb1))
      have e2:=Below.at' HB2.out (Nat.le_refl _) e1
      have f2:=Below.at' HB2.out (Nat.le_refl _) f1
      go_quiet (first | (go_at_call_of 96 (Value.slice (some ⟨b1,o1,none⟩) c.length c1);exact Calls.quiet_of_same (aB P1 _)) | (go_at_call_of 96 (Value.slice (some ⟨b2,o2,none⟩) d.length c2);exact Calls.quiet_of_same (aB P2 _)))
      go_wp2
      go_returns
      exact oS.none HR.out (HB2.out.trans ((aN ⟨_,rfl⟩).mono HB2.out.size))
     ·have hne:(c[a].1 == d[b].1)=false:=by simpa using hs
      have hcc:=kT HI.out.1
      have hdd:=kT HI.out.2
      have CR:=aA (fun (wx:World) (hx:Below w.heap.size w wx)=>aH5 (some ⟨b1,o1,none⟩) (some ⟨b2,o2,none⟩) c1 c2 c d a b wx (H1.out.below hx (Nat.le_refl _)) (H2.out.below hx (Nat.le_refl _)) hcc.term hdd.term ha hb hcc.len hdd.len)
      have HR:Hid (∀v yes er w3 w4,Below w.heap.size w w3→uV w3 w3.heap.size (aJ 0 c[a].2++aJ 1 d[b].2) 0 c[a].2.length (aX 0 [(c,a),(d,b)]) v yes er w4→oS (mC c d a b) w (.returned (.tuple #[v,.bool yes,.int .i64 er])) w4):=aA fun v yes er w3 w4 hx hC=>by
       obtain ⟨out,h1,h2,h3⟩:=(hC.lift hx).out
       exact ⟨v,out,yes,er,rfl,Or.inr ⟨HI.out.1,HI.out.2,Or.inr ⟨a,b,⟨ha,hb,rfl,rfl,hs⟩,by simpa [ha,hb] using h1⟩⟩,h2,h3,(hC.lift hx).low⟩
      clear HBAD hi hj hcc hdd
      obtain ⟨ca,hca⟩ : ∃x,c[a].1=x:=⟨_,rfl⟩
      obtain ⟨db,hdb⟩ : ∃x,d[b].1=x:=⟨_,rfl⟩
      rw [hca] at e1
      rw [hdb] at f1
      rw [hca,hdb] at hne
      clear hca hdb hs
      go_enter Tryz.func64,Tryz.ntmps64
      go_upto_region 3 with (first
       | (go_at_call 95;refine (aB CI2 _ HB1.out).mono ?_;rintro e w2 ⟨rfl,hb2⟩;have HB2:=aA (HB1.out.trans (hb2.mono hb1s));clear hb2)
       | (go_at_call 95;refine (aB CI1).mono ?_;rintro e w1 ⟨rfl,hb1⟩;have HB1:=aA hb1;have hb1s:=hb1.size;clear hb1))
      have e2:=Below.at' HB2.out (Nat.le_refl _) e1
      have f2:=Below.at' HB2.out (Nat.le_refl _) f1
      go_quiet (first | (go_at_call_of 96 (Value.slice (some ⟨b1,o1,none⟩) c.length c1);exact Calls.quiet_of_same (aB P1 _)) | (go_at_call_of 96 (Value.slice (some ⟨b2,o2,none⟩) d.length c2);exact Calls.quiet_of_same (aB P2 _)))
      have hd:Below w.heap.size w (w2.drewN nq):=HB2.out.trans ((aN (w1:=w2.drewN nq) ⟨nq,rfl⟩).mono HB2.out.size)
      have CR2:=aA (CR.out _ hd)
      have HD:=aA hd
      clear e1 f1 e2 f2 hd
      go_wp2_with (first
       | (go_at_call 97;refine (aB CR2).mono ?_)
       | go_in)
      rintro e w4 ⟨v4,y4,r4,rfl,h4⟩
      have H4:=aA (HR.out v4 y4 r4 _ w4 HD.out h4)
      clear h4
      go_wp2
      go_returns
      exact H4.out
    ·rw [decide_eq_false hj] at P2
     have HR:=aA (HBAD.out (fun ⟨a',b',p1,p2,p3,p4,_⟩=>hj (by omega)))
     clear HBAD hi hj
     go_enter Tryz.func64,Tryz.ntmps64
     go_upto_region 3 with (first
      | (go_at_call 95;refine (aB CI2 _ HB1.out).mono ?_;rintro e w2 ⟨rfl,hb2⟩;have HB2:=aA (HB1.out.trans (hb2.mono hb1s));clear hb2)
      | (go_at_call 95;refine (aB CI1).mono ?_;rintro e w1 ⟨rfl,hb1⟩;have HB1:=aA hb1;have hb1s:=hb1.size;clear hb1))
     go_quiet (first | (go_at_call_of 96 (Value.slice a1 c.length c1);exact Calls.quiet_of_same (aB P1 _)) | (go_at_call_of 96 (Value.slice a2 d.length c2);exact Calls.quiet_of_same (aB P2 _)))
     go_wp2
     go_returns
     exact oS.none HR.out (HB2.out.trans ((aN ⟨_,rfl⟩).mono HB2.out.size))
   ·rw [decide_eq_false hi] at P1
    have HR:=aA (HBAD.out (fun ⟨a,b,p1,p2,p3,p4,_⟩=>hi (by omega)))
    clear HBAD hi
    go_enter Tryz.func64,Tryz.ntmps64
    go_upto_region 3 with (first
     | (go_at_call 95;refine (aB CI2 _ HB1.out).mono ?_;rintro e w2 ⟨rfl,hb2⟩;have HB2:=aA (HB1.out.trans (hb2.mono hb1s));clear hb2)
     | (go_at_call 95;refine (aB CI1).mono ?_;rintro e w1 ⟨rfl,hb1⟩;have HB1:=aA hb1;have hb1s:=hb1.size;clear hb1))
    go_quiet ((go_at_call 96;exact Calls.quiet_of_same (aB P1 _)))
    go_wp2
    go_returns
    exact oS.none HR.out (HB2.out.trans ((aN ⟨_,rfl⟩).mono HB2.out.size))
theorem zP (k n:Int) (w:World):Calls Tryz.prog 63 #[.int .i64 k,.int .i64 n] w fun e w'=>e=.returned (.bool (decide (0≤k∧k < n)))∧w'=w:=by
 by_cases h0:0≤k
 ·by_cases h1:k < n
  ·have:decide (0≤k∧k < n)=true:=by simp [h0,h1]
   rw [this]
   go_enter Tryz.func63,Tryz.ntmps63
   go_wp2
   go_ret
   exact ⟨rfl,rfl⟩
  ·have:decide (0≤k∧k < n)=false:=by simp [h1]
   rw [this]
   go_enter Tryz.func63,Tryz.ntmps63
   go_wp2
   go_ret
   exact ⟨rfl,rfl⟩
 ·have:decide (0≤k∧k < n)=false:=by simp [h0]
  rw [this]
  go_enter Tryz.func63,Tryz.ntmps63
  go_wp2
  go_ret
  exact ⟨rfl,rfl⟩
theorem aMq (x:Lt):kH x x=true:=by rw [aCh];simp
set_option maxHeartbeats 1000000 in
theorem aMr (a1 a2:Option Addr) (c1 c2:Nat) (l:List Lt) (w:World) (h1:bS w a1 l) (h2:bS w a2 l) :
  Calls Tryz.prog 42 #[.slice a1 l.length c1,.slice a2 l.length c2,.func (Fn.func 43) #[] #[]] w fun e w'=>e=.returned (.bool true)∧Below w.heap.size w w':=by
 have hfl:=h1.few
 have H1:=aA h1
 have H2:=aA h2
 clear h1 h2
 go_enter Tryz.func42,Tryz.ntmps42
 go_wp2
 go_loopw [17] (fun i wr=>∃k:Nat,k≤l.length∧i=.int .i64 k∧Below w.heap.size w wr) (fun i _=>l.length - (intOf i).toNat)
 case atStart=>exact ⟨0,Nat.zero_le _,rfl,Below.refl _ _⟩
 case round=>
  obtain ⟨k,hk,rfl,hb⟩:=hrel
  by_cases hlt:k < l.length
  ·obtain ⟨b1,o1,aa,ac,rfl,e1,e2,n1⟩:=H1.out.cell k hlt
   obtain ⟨b2,o2,ba,bc,rfl,f1,f2,n2⟩:=H2.out.cell k hlt
   have CS:=aA (fun (wx:World) (hx:Below w.heap.size w wx)=>zY l[k].1 l[k].1 aa ba ac bc l[k].2 l[k].2 wx (n1.below hx (Nat.le_refl _)) (n2.below hx (Nat.le_refl _)))
   rw [show kH (l[k].1,l[k].2) (l[k].1,l[k].2)=true from aMq _] at CS
   generalize l[k]=x at *
   obtain ⟨xb,xl⟩:=x
   simp only at e1 e2 f1 f2 CS n1 n2
   have g1:=Below.at' hb (Nat.le_refl _) e1
   have g2:=Below.at' hb (Nat.le_refl _) e2
   have hb1:=fun X=>Below.trans hb ((Below.refl w.heap.size wr).alloc hb.size X)
   have g3:=fun X=>Below.at' (hb1 X) (Nat.le_refl _) f1
   have g4:=fun X=>Below.at' (hb1 X) (Nat.le_refl _) f2
   have hki:(k:Int) < (l.length:Int):=by omega
   have HB:=aA hb
   have HB2:=aA (fun X Y=>Below.trans (hb1 X) ((Below.refl w.heap.size (wr.alloc X)).alloc (Nat.le_trans hb.size (by simp)) Y))
   have hbs:=hb.size
   clear e1 e2 f1 f2 n1 n2 hb hb1
   generalize xl.length=xn at *
   go_wp2_with (first
    | (go_at_call 43;refine (aB CS _ (HB2.out _ _)).mono ?_;rintro e w1 ⟨rfl,hb3⟩;have HB3:=aA ((HB2.out _ _).trans (hb3.mono (HB2.out _ _).size));clear hb3)
    | go_in)
   go_roundw
   case rel=>exact ⟨k+1,by omega,by go_num,HB3.out⟩
   case measure=>simp [intOf];omega
  ·obtain rfl:k=l.length:=by omega
   have HB:=aA hb
   clear hb H1 H2
   go_wp2
   go_ret
   exact ⟨rfl,HB.out⟩
set_option maxHeartbeats 4000000 in
theorem aMs (gP nP capP a:Nat) (va:Value) (sa:Option Addr) (sn sc:Nat) (oa:Option Addr) (n c:Nat) (w:World) (hc:w.cell? ⟨gP,a,none⟩=some (.slice oa n c)) (ha:a < nP) :
  Calls Tryz.prog 40 #[.slice (some ⟨gP,0,none⟩) nP capP,va,.agg #[.int .i64 1,.int .i64 a,.int .i64 0,.int .i64 0,.int .i64 0,.slice sa sn sc]] w fun e w'=>e=.returned (.tuple #[.slice oa n c,.bool true])∧Below w.heap.size w w':=by
 have CI:=aA (fun wx=>zP (a:Int) (nP:Int) wx)
 rw [decide_eq_true (show (0:Int)≤(a:Int)∧(a:Int) < (nP:Int) by omega)] at CI
 have hai:(a:Int) < (nP:Int):=by omega
 have hcx:=fun X=>Below.at' ((Below.refl w.heap.size w).alloc (Nat.le_refl _) X) (Nat.le_refl _) hc
 have HB:=aA (fun X=>(Below.refl w.heap.size w).alloc (Nat.le_refl _) X)
 clear hc
 go_enter Tryz.func40,Tryz.ntmps40
 go_wp2_with (first
  | (go_at_call 63;refine (aB CI _).mono ?_;rintro e wx ⟨rfl,hwx⟩;rw [hwx];clear hwx wx)
  | go_in)
 go_returns
 exact ⟨rfl,HB.out _⟩
set_option maxHeartbeats 8000000 in
theorem aMt (pa:Option Addr) (pn pc gs n cap a b i j:Nat) (sa:Option Addr) (sn sc:Nat) (oa ob:Option Addr) (ca cb:Nat) (c d out:List Lt) (w:World) (ha:a < n) (hb:b < n) (c1:w.cell? ⟨gs,a * 6+5,none⟩=some (.slice oa c.length ca)) (c2:w.cell? ⟨gs,b * 6+5,none⟩=some (.slice ob d.length cb)) (h1:bS w oa c) (h2:bS w ob d) (hT:gW w) (hR:mC c d i j out true 0) (ho:bV out=true) :
  Calls Tryz.prog 40 #[.slice pa pn pc,.slice (some ⟨gs,0,none⟩) n cap,.agg #[.int .i64 2,.int .i64 a,.int .i64 b,.int .i64 i,.int .i64 j,.slice sa sn sc]] w fun e w'=>∃ra rc,e=.returned (.tuple #[.slice ra out.length rc,.bool true])∧bS w' ra out∧Below w.heap.size w w':=by
 have CI1:=aA (fun wx=>zP (a:Int) (n:Int) wx)
 have CI2:=aA (fun wx=>zP (b:Int) (n:Int) wx)
 rw [decide_eq_true (show (0:Int)≤(a:Int)∧(a:Int) < (n:Int) by omega)] at CI1
 rw [decide_eq_true (show (0:Int)≤(b:Int)∧(b:Int) < (n:Int) by omega)] at CI2
 have hai:(a:Int) < (n:Int):=by omega
 have hbi:(b:Int) < (n:Int):=by omega
 obtain ⟨w1,hw1,hb1,hx1,hs1⟩ : ∃w1,w.alloc (.cells #[.int .i64 2,.int .i64 a,.int .i64 b,.int .i64 i,.int .i64 j,.slice sa sn sc] 54)=w1∧Below w.heap.size w w1∧w1.heap[w.heap.size]?=some (.cells #[.int .i64 2,.int .i64 a,.int .i64 b,.int .i64 i,.int .i64 j,.slice sa sn sc] 54 (0,0))∧w1.heap.size=w.heap.size+1:=⟨_,rfl,(Below.refl _ w).alloc (Nat.le_refl _) _,World.alloc_heap_new w _,by simp⟩
 have k1:=Below.at' hb1 (Nat.le_refl _) c1
 have k2:=Below.at' hb1 (Nat.le_refl _) c2
 have x0:w1.cell? ⟨w.heap.size,0,none⟩=some (.int .i64 2):=by simp [World.cell?,hx1]
 have x1:w1.cell? ⟨w.heap.size,1,none⟩=some (.int .i64 a):=by simp [World.cell?,hx1]
 have x2:w1.cell? ⟨w.heap.size,2,none⟩=some (.int .i64 b):=by simp [World.cell?,hx1]
 have x3:w1.cell? ⟨w.heap.size,3,none⟩=some (.int .i64 i):=by simp [World.cell?,hx1]
 have x4:w1.cell? ⟨w.heap.size,4,none⟩=some (.int .i64 j):=by simp [World.cell?,hx1]
 have CR:=aA (fun (wx:World) (hx:∃m,wx=w1.drewN m)=>(aMp oa ob ca cb c d i j wx (by obtain ⟨m,rfl⟩:=hx;exact (h1.below hb1 (Nat.le_refl _)).below (aN ⟨m,rfl⟩) (Nat.le_refl _)) (by obtain ⟨m,rfl⟩:=hx;exact (h2.below hb1 (Nat.le_refl _)).below (aN ⟨m,rfl⟩) (Nat.le_refl _)) (by obtain ⟨m,rfl⟩:=hx;exact (hT.below hb1 (Nat.le_refl _)).below (aN ⟨m,rfl⟩) (Nat.le_refl _))).mono (R':=fun e w2=>∃ra rc,e=.returned (.tuple #[.slice ra out.length rc,.bool true,.int .i64 0])∧bS w2 ra out∧Below w.heap.size w w2∧Below w1.heap.size w1 w2) (fun e w2 he=>by
  obtain ⟨m,rfl⟩:=hx
  obtain ⟨v2,o2,yes,er,rfl,hsp,hcm,_,hb2⟩:=he
  obtain ⟨rfl,rfl,rfl⟩:=hsp.one hR
  obtain ⟨ra,rc,rfl,_,hl,_⟩:=hcm.lits (kT ho)
  exact ⟨ra,rc,rfl,hl,hb1.trans (((aN ⟨m,rfl⟩).trans hb2).mono hb1.size),(aN ⟨m,rfl⟩).trans hb2⟩))
 clear c1 c2 h1 h2 hT hR ho hx1 hs1
 go_enter Tryz.func40,Tryz.ntmps40
 go_upto_region 1 with (fail)
 clear hw1
 go_upto_region 9 with (first
  | (go_at_call_of 63 (Value.int IntKind.i64 (a:Int));refine (aB CI1 _).mono ?_;rintro e wx ⟨rfl,hwx⟩;rw [hwx];clear hwx wx)
  | (go_at_call_of 63 (Value.int IntKind.i64 (b:Int));refine (aB CI2 _).mono ?_;rintro e wx ⟨rfl,hwx⟩;rw [hwx];clear hwx wx)
  | go_in)
 generalize c.length=cn at *
 generalize d.length=dn at *
 go_region_held3 (fun w'=>w'.cell? ⟨w.heap.size,1,none⟩=some (.int .i64 a)∧w'.cell? ⟨w.heap.size,2,none⟩=some (.int .i64 b)∧w'.cell? ⟨w.heap.size,3,none⟩=some (.int .i64 i)∧w'.cell? ⟨w.heap.size,4,none⟩=some (.int .i64 j)∧w'.cell? ⟨gs,a * 6+5,none⟩=some (.slice oa cn ca)∧w'.cell? ⟨gs,b * 6+5,none⟩=some (.slice ob dn cb)) (first | trivial | go_keep)
  (first
   | (go_at_call 64;refine (aB CR _ (by first | exact ⟨0,rfl⟩ | exact ⟨1,rfl⟩ | exact ⟨_,rfl⟩)).mono ?_;rintro e w2 ⟨ra,rc,rfl,hl2,hb2,hb3⟩;have HL2:=aA hl2;have HB2:=aA hb2;have y1:=Below.at' hb3 (Nat.le_refl _) x1;have y2:=Below.at' hb3 (Nat.le_refl _) x2;have y3:=Below.at' hb3 (Nat.le_refl _) x3;have y4:=Below.at' hb3 (Nat.le_refl _) x4;have y5:=Below.at' hb3 (Nat.le_refl _) k1;have y6:=Below.at' hb3 (Nat.le_refl _) k2;clear hl2 hb2 hb3)
   | go_in)
 go_wp2
 go_returns
 exact ⟨_,_,rfl,HL2.out,HB2.out⟩
set_option maxHeartbeats 4000000 in
theorem aMu (vc va:Value) (r a b i j:Nat) (sa:Option Addr) (sc:Nat) (out:List Lt) (w:World) (hs:bS w sa out) (hf:dV out=true)
  (hg:∀wx,Below w.heap.size w wx→Calls Tryz.prog 40 #[vc,va,.agg #[.int .i64 r,.int .i64 a,.int .i64 b,.int .i64 i,.int .i64 j,.slice sa out.length sc]] wx fun e w'=>∃ra rc,e=.returned (.tuple #[.slice ra out.length rc,.bool true])∧bS w' ra out∧Below wx.heap.size wx w') :
  Calls Tryz.prog 21 #[vc,va,.agg #[.int .i64 r,.int .i64 a,.int .i64 b,.int .i64 i,.int .i64 j,.slice sa out.length sc]] w fun e w'=>e=.returned (.bool true)∧Below w.heap.size w w':=by
 obtain ⟨w1,hw1,hb1,hx1,hs1⟩ : ∃w1,w.alloc (.cells #[.int .i64 r,.int .i64 a,.int .i64 b,.int .i64 i,.int .i64 j,.slice sa out.length sc] 54)=w1∧Below w.heap.size w w1∧w1.heap[w.heap.size]?=some (.cells #[.int .i64 r,.int .i64 a,.int .i64 b,.int .i64 i,.int .i64 j,.slice sa out.length sc] 54 (0,0))∧w1.heap.size=w.heap.size+1:=⟨_,rfl,(Below.refl _ w).alloc (Nat.le_refl _) _,World.alloc_heap_new w _,by simp⟩
 have x0:w1.cell? ⟨w.heap.size,0,none⟩=some (.int .i64 r):=by simp [World.cell?,hx1]
 have x1:w1.cell? ⟨w.heap.size,1,none⟩=some (.int .i64 a):=by simp [World.cell?,hx1]
 have x2:w1.cell? ⟨w.heap.size,2,none⟩=some (.int .i64 b):=by simp [World.cell?,hx1]
 have x3:w1.cell? ⟨w.heap.size,3,none⟩=some (.int .i64 i):=by simp [World.cell?,hx1]
 have x4:w1.cell? ⟨w.heap.size,4,none⟩=some (.int .i64 j):=by simp [World.cell?,hx1]
 have x5:w1.cell? ⟨w.heap.size,5,none⟩=some (.slice sa out.length sc):=by simp [World.cell?,hx1]
 have CG:=aA (hg w1 hb1)
 have CF:=aA (fun (ra:Option Addr) (rc:Nat) (wx:World) (hl:bS wx ra out)=>tY ra rc out wx hl)
 rw [hf] at CF
 have CE:=aA (fun (ra:Option Addr) (rc:Nat) (wx:World) (hl:bS wx ra out) (hb:Below w.heap.size w wx)=>aMr ra sa rc sc out wx hl (hs.below hb (Nat.le_refl _)))
 have HB1:=aA hb1
 clear hg hs hf hx1 hb1
 go_enter Tryz.func21,Tryz.ntmps21
 go_upto_region 1 with (fail)
 clear hw1
 go_wp2_with (first
  | (go_at_call 40;refine (aB CG).mono ?_;rintro e w2 ⟨ra,rc,rfl,hl2,hb2⟩;have y5:=Below.at' hb2 (Nat.le_refl _) x5;have HL2:=aA hl2;have HB2:=aA (HB1.out.trans (hb2.mono HB1.out.size));clear hl2 hb2)
  | (go_at_call 41;refine (aB CF ra rc _ HL2.out).mono ?_;rintro e w3 ⟨rfl,hb3⟩;have z5:=Below.at' hb3 (Nat.le_refl _) y5;have HL3:=aA (HL2.out.below hb3 (Nat.le_refl _));have HB3:=aA (HB2.out.trans (hb3.mono HB2.out.size));clear hb3)
  | (go_at_call 42;refine (aB CE ra rc _ HL3.out HB3.out).mono ?_;rintro e w4 ⟨rfl,hb4⟩;have HB4:=aA (HB3.out.trans (hb4.mono HB3.out.size));clear hb4)
  | go_in)
 go_ret
 exact ⟨rfl,HB4.out⟩
end Go.Proofs.YthicbnejchpmgaaGreatDoor
