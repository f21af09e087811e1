/- The program: nodes, terms, atoms, sizes. -/
import Derived.Test.YtbddofieljiihaaGreatDoorPTermI
namespace Go.Proofs.YtbddofieljiihaaGreatDoor
open Go.RowKit Go.Shelf
set_option maxRecDepth 100000
theorem aAe (s:ByteArray) (x:Int) (w:World) :
  Calls Tryz.prog 78 #[.agg #[.string s,.int .i64 x]] w fun e w'=>e=.returned (.int .i64 (if s.toList.isEmpty then 0 else x))∧Below w.heap.size w w':=by
 have CV:=aA (fun wx=>nE s x wx)
 cases hv:s.toList.isEmpty
 all_goals
  rw [hv] at CV
  clear hv
  go_enter Tryz.func78,Tryz.ntmps78
  go_wp2_with (go_at_call 49;refine (aB CV _).mono ?_;rintro e w1 ⟨rfl,hb1⟩;obtain ⟨q1,q2,q3⟩:=gD hb1;have HB1:=aA q3;clear hb1 q3)
  go_ret
  exact ⟨rfl,HB1.out⟩
set_option maxHeartbeats 400000 in
theorem aPc (s:ByteArray) (x:Int) (w:World) (hs:s.size≤140737488355328) (hT:gL w) :
  Calls Tryz.prog 77 #[.agg #[.string s,.int .i64 x]] w fun e w'=>e=.returned (.bool (dG (s,x)))∧Below w.heap.size w w':=by
 have CV:=aA (fun wx=>nE s x wx)
 have hb0:Below w.heap.size w (w.alloc (.cells #[.string s,.int .i64 x] 106)):=(Below.refl _ _).alloc (Nat.le_refl _) _
 have HB0:=aA hb0
 have HT:=aA hT
 clear hb0 hT
 cases hv:s.toList.isEmpty
 ·have HE:Hid (dG (s,x)=(dW s && (decide (0≤x) && decide (x≤5)))):=aA (by simp [dG,aH,hv])
  rw [hv] at CV
  by_cases h0:0≤x
  ·by_cases h5:x≤5
   ·have CN:=aA (fun wx (hx:gL wx)=>aPg s wx hs hx)
    clear hv
    go_enter Tryz.func77,Tryz.ntmps77
    go_wp2_with (first
     | (go_at_call 49;refine (aB CV _).mono ?_;rintro e w1 ⟨rfl,hb1⟩;obtain ⟨q1,q2,q3⟩:=gD hb1;have HB1:=aA q3;clear hb1 q3)
     | (go_at_call 106;refine (aB CN _ (HT.out.below HB1.out (Nat.le_refl _))).mono ?_;rintro e w2 ⟨rfl,hb2⟩;have HB2:=aA (HB1.out.trans (hb2.mono HB1.out.size));clear hb2))
    go_ret
    refine ⟨cO ?_,HB2.out⟩
    rw [HE.out]
    simp [h0,h5]
   ·clear hv
    go_enter Tryz.func77,Tryz.ntmps77
    go_wp2_with (first
     | (go_at_call 49;refine (aB CV _).mono ?_;rintro e w1 ⟨rfl,hb1⟩;obtain ⟨q1,q2,q3⟩:=gD hb1;have HB1:=aA q3;clear hb1 q3))
    go_ret
    refine ⟨cO ?_,HB1.out⟩
    rw [HE.out]
    simp [h5]
  ·have HD:=aA (show decide (0≤x)=false by simpa using h0)
   clear hv
   go_enter Tryz.func77,Tryz.ntmps77
   go_wp2_with (first
    | (go_at_call 49;refine (aB CV _).mono ?_;rintro e w1 ⟨rfl,hb1⟩;obtain ⟨q1,q2,q3⟩:=gD hb1;have HB1:=aA q3;clear hb1 q3))
   go_ret
   refine ⟨cO ?_,HB1.out⟩
   rw [HE.out,HD.out]
   simp
 ·have HE:Hid (dG (s,x)=(decide (0≤x) && decide (x < 60))):=aA (by simp [dG,aH,hv])
  rw [hv] at CV
  clear hv
  by_cases h0:0≤x
  all_goals
   go_enter Tryz.func77,Tryz.ntmps77
   go_wp2_with (first
    | (go_at_call 49;refine (aB CV _).mono ?_;rintro e w1 ⟨rfl,hb1⟩;obtain ⟨q1,q2,q3⟩:=gD hb1;have HB1:=aA q3;clear hb1 q3))
   go_ret
   refine ⟨cO ?_,HB1.out⟩
   rw [HE.out,Bool.eq_iff_iff]
   simp
   try omega
theorem aPd (l:List Nd) (h:¬l.length≤60):iA l=false:=by simp [iA,h]
theorem aPe (l:List Nd) (h:l.length≤60):iA l=aI l 1:=by simp [iA,h]
set_option maxHeartbeats 1000000 in
theorem aPf (a:Option Addr) (cp:Nat) (l:List Nd) (w:World) (h:dB w a l) (hT:gL w) :
  Calls Tryz.prog 48 #[.slice a l.length cp] w fun e w'=>e=.returned (.bool (iA l))∧Below w.heap.size w w':=by
 have hfew:=h.few
 by_cases h60:l.length≤60
 ·have HE:=aA (aPe l h60)
  have HT:=aA hT
  clear hT
  go_enter Tryz.func48,Tryz.ntmps48
  go_wp2
  go_loopw [3,11] (fun q i wr=>∃k m:Nat,k≤l.length∧m≤1+5 * k∧i=.int .i64 k∧q=.int .i64 m∧Below w.heap.size w wr∧aI l 1=aI (l.drop k) m) (fun _ i _=>l.length - (intOf i).toNat)
  case atStart=>exact ⟨0,1,by omega,by omega,rfl,rfl,Below.refl _ _,rfl⟩
  case round=>
   obtain ⟨k,m,hk,hm,rfl,rfl,hbel,hg⟩:=hrel
   by_cases hlt:k < l.length
   ·obtain ⟨b,o,rfl,e1,f1⟩:=h.cell k hlt
    have e2:=Below.at' hbel (Nat.le_refl _) e1
    have f2:=Below.at' hbel (Nat.le_refl _) f1
    have hsh:=h.short k hlt
    have hbs:=hbel.size
    clear e1 f1 h
    by_cases hm0:m=0
    ·subst hm0
     rw [yF l k hlt] at hg
     have HR:Hid (iA l=false):=HE.out.trans hg
     have HB:=aA hbel
     clear hg hbel
     go_wp2
     go_ret
     exact ⟨cO HR.out.symm,HB.out.alloc HB.out.size _⟩
    ·have hb1:((m:Int) == 0)=false:=by rw [beq_eq_false_iff_ne];omega
     have hon:=aIt l k m hlt hm0
     have hbad:=aIs l k m hlt
     generalize l[k]=nd at *
     obtain ⟨s,x⟩:=nd
     simp only at e2 f2 hsh
     have CN:=aA (fun wx (hx:gL wx)=>aPc s x wx hsh hx)
     have CV:=aA (fun wx=>aAe s x wx)
     have HB:=aA hbel
     have hTA:=aA (HT.out.below (hbel.alloc hbs (.cells #[.string s,.int .i64 x] 106)) (Nat.le_refl _))
     by_cases hok:dG (s,x)=true
     ·have HG:=aA (hg.trans (hon hok))
      simp only [hok] at CN
      clear hg hon hbad hbel
      by_cases hv:s.toList.isEmpty=true
      ·have HW:Hid (aX (s,x)=0):=by unfold aX aH;rw [if_pos hv];exact rfl
       rw [if_pos hv] at CV
       clear hok hv
       go_wp2_with (first
        | (go_at_call 77;refine (aB CN _ hTA.out).mono ?_;rintro e w1 ⟨rfl,hb1⟩;obtain ⟨q1,q2,q3⟩:=gD hb1;have HB1:=aA (HB.out.trans (q3.mono hbs));have h1s:=HB1.out.size;have hq1:=q3.size;clear hb1 q3)
        | (go_at_call 78;refine (aB CV _).mono ?_;rintro e w2 ⟨rfl,hb2⟩;have q5:=Below.at' hb2 (Nat.le_refl _) q1;have q6:=Below.at' hb2 (Nat.le_refl _) q2;have HB2:=aA (HB1.out.trans (hb2.mono h1s));clear hb2))
       go_roundw
       case rel=>exact ⟨k+1,m - 1,by omega,by omega,by go_num,by go_num,HB2.out,by rw [HG.out,HW.out];rfl⟩
       case measure=>simp [intOf];omega
      ·have HW:Hid (aX (s,x)=x.toNat):=by unfold aX aH;rw [if_neg hv];exact rfl
       have hv':s.toList.isEmpty=false:=by simpa using hv
       have hx:dW s=true∧0≤x∧x≤5:=by simpa [dG,aH,hv] using hok
       obtain ⟨_,hx1,hx2⟩:=hx
       rw [if_neg hv] at CV
       clear hok hv hv'
       go_wp2_with (first
        | (go_at_call 77;refine (aB CN _ hTA.out).mono ?_;rintro e w1 ⟨rfl,hb1⟩;obtain ⟨q1,q2,q3⟩:=gD hb1;have HB1:=aA (HB.out.trans (q3.mono hbs));have h1s:=HB1.out.size;have hq1:=q3.size;clear hb1 q3)
        | (go_at_call 78;refine (aB CV _).mono ?_;rintro e w2 ⟨rfl,hb2⟩;have q5:=Below.at' hb2 (Nat.le_refl _) q1;have q6:=Below.at' hb2 (Nat.le_refl _) q2;have HB2:=aA (HB1.out.trans (hb2.mono h1s));clear hb2))
       go_roundw
       case rel=>exact ⟨k+1,m - 1+x.toNat,by omega,by omega,by go_num,by go_num,HB2.out,by rw [HG.out,HW.out]⟩
       case measure=>simp [intOf];omega
     ·have hok':dG (s,x)=false:=by simpa using hok
      rw [hbad hok'] at hg
      have HR:Hid (iA l=false):=HE.out.trans hg
      simp only [hok'] at CN
      clear hg hon hbad hbel hok hok'
      go_wp2_with (first
       | (go_at_call 77;refine (aB CN _ hTA.out).mono ?_;rintro e w1 ⟨rfl,hb1⟩;obtain ⟨q1,q2,q3⟩:=gD hb1;have HB1:=aA (HB.out.trans (q3.mono hbs));clear hb1 q3))
      go_ret
      exact ⟨cO HR.out.symm,HB1.out⟩
   ·have hd:l.drop k=[]:=List.drop_eq_nil_of_le (by omega)
    rw [hd] at hg
    have HR:Hid (iA l=decide (m=0)):=HE.out.trans hg
    have HB:=aA hbel
    clear hg hd hbel
    go_wp2
    go_ret
    refine ⟨cO ?_,HB.out⟩
    rw [HR.out,Bool.eq_iff_iff]
    simp
 ·have HE:=aA (aPd l h60)
  clear h hT
  go_enter Tryz.func48,Tryz.ntmps48
  go_wp2
  go_ret
  exact ⟨cO HE.out.symm,Below.refl _ _⟩
end Go.Proofs.YtbddofieljiihaaGreatDoor
