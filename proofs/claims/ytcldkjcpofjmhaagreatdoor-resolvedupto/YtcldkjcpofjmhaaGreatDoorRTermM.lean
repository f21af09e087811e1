import Derived.Test.YtcldkjcpofjmhaaGreatDoorBase0M
namespace Go.Proofs.YtcldkjcpofjmhaaGreatDoor
set_option maxHeartbeats 1000000
set_option maxRecDepth 100000
section
open Go.RowKit
theorem aR5(a:Option Addr)(cp:Nat)(l:List Nd)(w:World)(h:cM w a l) :
  Calls Tryz.prog 42 #[.slice a l.length cp] w λe w'=>e=.returned (.bool (fK l))/\Below w.heap.size w w':=by
 have hfew:=h.few;go_enter Tryz.func42,Tryz.ntmps42;go_wp2;go_loopw [3,4] (λq i wr=>∃k m:Nat,k<=l.length/\m<=1+5*k/\i=.int .i64 k/\q=.int .i64 m/\Below w.heap.size w wr/\aW l 1=aW (l.drop k) m) (λ_ i _=>l.length-(intOf i).toNat);case atStart=>exact ⟨0,1,by omega,by omega,rfl,rfl,Below.refl _ _,rfl⟩
 case round=>
  obtain ⟨k,m,hk,hm,rfl,rfl,hbel,hg⟩:=hrel;by_cases hlt:k<l.length
  ·obtain ⟨b,o,rfl,e1,f1⟩:=h.cell k hlt;have e2:=Below.at' hbel (Nat.le_refl _) e1;have f2:=Below.at' hbel (Nat.le_refl _) f1;have hsh:=h.short k hlt;clear e1 f1 h;by_cases hm0:m=0
   ·subst hm0;rw [aE9 l k hlt] at hg;have HR:Hid (fK l=false):=by unfold fK;rw [hg];rfl
    have HB:=aA hbel;clear hg hbel;go_wp2;go_ret;exact ⟨cH HR.out.symm,HB.out.alloc HB.out.size _⟩
   ·have hb1:((m:Int) == 0)=false:=by rw [beq_eq_false_iff_ne];omega
    have hon:=aEb l k m hlt hm0;have hbad:=aEa l k m hlt;generalize l[k]=nd at *;obtain ⟨s,x⟩:=nd;simp only at e2 f2 hsh;have cN:=λwx=>aLs s wx (by omega)
    by_cases hok:dU (s,x)=true
    ·have hg2:=hg.trans (hon hok);have HG:=aA hg2;have HB:=aA hbel;clear hg hg2 hon hbad hbel;by_cases hv:s.toList.isEmpty=true
     ·have hx:0<=x/\x<60:=by simpa [dU,aF,hv] using hok
      have HW:Hid (bK (s,x)=0):=by unfold bK aF;rw [if_pos hv];exact rfl
      obtain ⟨hx1,hx2⟩:=hx;clear hok;go_wp2;go_roundw;case rel=>exact ⟨k+1,m-1,by omega,by omega,by go_num,by go_num,HB.out.alloc HB.out.size _,by rw [HG.out,HW.out];rfl⟩
      case measure=>simp [intOf];omega
     ·have hx:fW s=true/\0<=x/\x<=5:=by simpa [dU,aF,hv] using hok
      have HW:Hid (bK (s,x)=x.toNat):=by unfold bK aF;rw [if_neg hv];exact rfl
      obtain ⟨hn,hx1,hx2⟩:=hx;simp only [hn] at cN;have HC:=aA cN;have hv':s.toList.isEmpty=false:=by simpa using hv
      clear hok cN hn hv;go_wp2_with (go_at_call 67;refine (aB HC _).mono ?_;rintro e w' ⟨rfl,rfl⟩);go_roundw;case rel=>exact ⟨k+1,m-1+x.toNat,by omega,by omega,by go_num,by go_num,HB.out.alloc HB.out.size _,by rw [HG.out,HW.out]⟩
      case measure=>simp [intOf];omega
    ·have hok':dU (s,x)=false:=by simpa using hok
     rw [hbad hok'] at hg;have HR:Hid (fK l=false):=by unfold fK;rw [hg];rfl
     have HB:=aA hbel;clear hg hon hbad hbel;by_cases hv:s.toList.isEmpty=true
     ·have hx:x<0\/60<=x:=by
       have:¬(0<=x/\x<60):=by simpa [dU,aF,hv] using hok
       omega
      clear hok hok';rcases hx with hx | hx;all_goals
       go_wp2;go_ret;exact ⟨cH HR.out.symm,HB.out.alloc HB.out.size _⟩
     ·have hv':s.toList.isEmpty=false:=by simpa using hv
      have hx:fW s=false\/(fW s=true/\(x<0\/5<x)):=by
       cases hn:fW s
       ·exact Or.inl rfl
       ·have:¬(0<=x/\x<=5):=by simpa [dU,aF,hv,hn] using hok
        exact Or.inr ⟨rfl,by omega⟩
      clear hok hok' hv;rcases hx with hx | ⟨hx,hy | hy⟩;all_goals
       simp only [hx] at cN;have HC:=aA cN;clear cN hx;go_wp2_with (go_at_call 67;refine (aB HC _).mono ?_;rintro e w' ⟨rfl,rfl⟩);go_ret;exact ⟨cH HR.out.symm,HB.out.alloc HB.out.size _⟩
  ·have hd:l.drop k=[]:=List.drop_eq_nil_of_le (by omega);rw [hd] at hg;have HR:Hid (fK l=(decide (m=0) && decide (l.length<=60))):=by unfold fK;rw [hg];rfl
   have HB:=aA hbel;clear hg hd hbel;go_wp2;all_goals
    go_ret;refine ⟨cH ?_,HB.out⟩;rw [HR.out,Bool.eq_iff_iff];simp;omega
end
section
def aI:List Nd->Nat->Nat
 | _,0=>0
 | [],_+1=>0
 | n :: r,q+1=>1+aI r (q+bK n)
@[simp] theorem aZ1(l:List Nd):aI l 0=0:=by cases l <;> rfl
theorem uT(n:Nd)(r:List Nd)(q:Nat):aW (n :: r) (q+1)=(dU n && aW r (q+bK n)):=by simp only [aW];cases dU n <;> simp
theorem zE(t:List Nd):∀p s,aW t p=true->aI (t++s) p=t.length:=by
 induction t with
 | nil=>intro p s h;simp [aW] at h;subst h;simp
 | cons n r ih=>
  intro p s h;cases p with
  | zero=>simp [aW] at h
  | succ p=>
   rw [uT,Bool.and_eq_true] at h;simp [aI,ih _ s h.2];omega
theorem oC(l:List Nd):∀q,aI l q<=l.length:=by
 induction l with
 | nil=>intro q;cases q <;> simp [aI]
 | cons n r ih=>intro q;cases q with
  | zero=>simp
  | succ q=>have:=ih (q+bK n);simp [aI];omega
abbrev Bd':=List (Int×List Nd)
def aR6(L:Bd')(x:Int):Option (List Nd):=L.lookup x
def subst(σ:Int->List Nd)(l:List Nd):List Nd:=l.flatMap λn=>if aF n then σ n.2 else [n]
def Tm(σ:Int->List Nd):Prop:=∀x,aW (σ x) 1=true
def Ext(σ:Int->List Nd)(L:Bd'):Prop:=∀x t,aR6 L x=some t->σ x=t
theorem oZ{n:Nd}(hv:aF n=true):bK n=0:=by simp [bK,hv]
def Cov(d c:List Lt)(L:Bd'):Prop:=∃σ,Tm σ/\Ext σ L/\∀l∈c,(l.1,subst σ l.2)∈d
end
end Go.Proofs.YtcldkjcpofjmhaaGreatDoor
