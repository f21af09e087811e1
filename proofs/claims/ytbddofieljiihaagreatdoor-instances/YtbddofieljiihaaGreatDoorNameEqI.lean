/- Two ways to say which names may be: character by character, and by the library's words. -/
import Derived.Test.YtbddofieljiihaaGreatDoorText0I
import Derived.Lib.ValidLaws
import Derived.Lib.RuneCount
import Derived.Lib.IndexAny
namespace Go.Proofs.YtbddofieljiihaaGreatDoor
open Go.RowKit
set_option maxRecDepth 100000
theorem jQ (s:ByteArray) (i:Nat):aC s i=(s.data.toList.getD i 0).toNat:=by
 unfold aC
 split
 ·next h=>
  obtain ⟨⟨l⟩⟩:=s
  have hl:i < l.length:=h
  simp [List.getD,hl]
  rfl
 ·next h=>
  obtain ⟨⟨l⟩⟩:=s
  have hl:¬i < l.length:=h
  simp [List.getD,List.getElem?_eq_none (show l.length≤i by omega)]
theorem pX (s:ByteArray) (i:Nat):aC s i < 256:=by
 rw [jQ]
 exact UInt8.toNat_lt _
def oP (d:Nat×Nat):Nat:=if d.1=65533∧d.2=1 then 0 else d.2
set_option maxHeartbeats 1000000 in
theorem qW (n b0 b1 b2 b3 sz lo hi:Nat) (h2:2≤sz) (h4:sz≤4):oP (Lib.slowN n b0 b1 b2 b3 sz lo hi)=if n < sz∨b1 < lo∨hi < b1∨(3≤sz∧(b2 < 128∨191 < b2))∨(4≤sz∧(b3 < 128∨191 < b3)) then 0 else sz:=by
 unfold oP Lib.slowN
 repeat' split
 all_goals first | rfl | omega | (exfalso;omega) | (simp only at *;omega)
theorem oQ (s:ByteArray) (p z:Nat) (hz:cK (aC s p)=z) (h2:2≤z) (h4:z≤4) :
  bD s p=if s.size < p+z∨(aC s (p+1) < 128∨191 < aC s (p+1))∨(3≤z∧(aC s (p+2) < 128∨191 < aC s (p+2)))∨(4≤z∧(aC s (p+3) < 128∨191 < aC s (p+3)))∨qK (aC s p) (aC s (p+1))=true then 0 else z:=by
 by_cases hsh:s.size < p+z
 ·rw [aIp s p z hz (by omega) hsh,if_pos (Or.inl hsh)]
 ·by_cases hall:∀i,0 < i→i < z→kS (aC s (p+i))=true
  ·rw [aIq s p z hz (by omega) hsh hall]
   have c1:=hall 1 (by omega) (by omega)
   have c2:3≤z→kS (aC s (p+2))=true:=fun h=>hall 2 (by omega) (by omega)
   have c3:4≤z→kS (aC s (p+3))=true:=fun h=>hall 3 (by omega) (by omega)
   simp only [kS,Bool.and_eq_true,decide_eq_true_eq] at c1 c2 c3
   by_cases hb:qK (aC s p) (aC s (p+1))=true
   ·rw [if_pos hb,if_pos (by simp [hb])]
   ·rw [if_neg hb,if_neg]
    intro h
    rcases h with h | h | h | h | h
    ·omega
    ·omega
    ·have:=c2 h.1;omega
    ·have:=c3 h.1;omega
    ·exact hb h
  ·obtain ⟨i,hi⟩:=Classical.not_forall.1 hall
   obtain ⟨hi0,hi⟩:=Classical.not_imp.1 hi
   obtain ⟨hiz,hi⟩:=Classical.not_imp.1 hi
   have hi':kS (aC s (p+i))=false:=by simpa using hi
   rw [aC5 s p z i hz (by omega) hi0 hiz hi',if_pos]
   simp only [kS,Bool.and_eq_false_iff,decide_eq_false_iff_not] at hi'
   rcases (show i=1∨i=2∨i=3 by omega) with rfl | rfl | rfl
   ·right;left;omega
   ·right;right;left;omega
   ·right;right;right;left;omega
theorem wK (s:ByteArray) (p:Nat) (hp:p < s.size):bD s p=oP (Utf8.decode s p):=by
 rw [Lib.decode_N,←jQ,←jQ,←jQ,←jQ,←kK]
 have h0:=pX s p
 have h1:=pX s (p+1)
 have h2:=pX s (p+2)
 have h3:=pX s (p+3)
 have hn:1≤s.size - p:=by omega
 have hbad:=aIo (aC s p) (aC s (p+1))
 rcases (show aC s p < 128∨((128≤aC s p∧aC s p < 194)∨245≤aC s p)∨(194≤aC s p∧aC s p < 224)∨aC s p=224∨((225≤aC s p∧aC s p < 237)∨(238≤aC s p∧aC s p < 240))∨aC s p=237∨aC s p=240∨(241≤aC s p∧aC s p < 244)∨aC s p=244 by omega) with h | h | h | h | h | h | h | h | h
 ·rw [qL s p (by unfold cK;rw [if_pos h];omega)]
  unfold cK Lib.decodeN oP
  rw [if_pos h,if_pos h,if_neg (by simp only;omega)]
 ·have hz:cK (aC s p)=0:=by unfold cK;split <;> (try split) <;> (try split) <;> (try split) <;> (try split) <;> omega
  have hf:Lib.firstT (aC s p)=241:=by unfold Lib.firstT;(repeat' split) <;> omega
  rw [qL s p (by omega),hz,Lib.bad_eq _ _ _ _ _ h0 hf]
  rfl
 ·have hz:cK (aC s p)=2:=by unfold cK;split <;> (try split) <;> (try split) <;> (try split) <;> (try split) <;> omega
  rw [oQ s p 2 hz (by omega) (by omega),←Lib.slow_C2 _ _ _ _ _ hn h1 h2 h3 h,qW _ _ _ _ _ 2 _ _ (by omega) (by omega)]
  simp only [hbad]
  split <;> split <;> omega
 ·have hz:cK (aC s p)=3:=by unfold cK;split <;> (try split) <;> (try split) <;> (try split) <;> (try split) <;> omega
  rw [oQ s p 3 hz (by omega) (by omega),←Lib.slow_E0 _ _ _ _ _ hn h1 h2 h3 h,qW _ _ _ _ _ 3 _ _ (by omega) (by omega)]
  simp only [hbad]
  split <;> split <;> omega
 ·have hz:cK (aC s p)=3:=by unfold cK;split <;> (try split) <;> (try split) <;> (try split) <;> (try split) <;> omega
  rw [oQ s p 3 hz (by omega) (by omega),←Lib.slow_E1 _ _ _ _ _ hn h1 h2 h3 h,qW _ _ _ _ _ 3 _ _ (by omega) (by omega)]
  simp only [hbad]
  split <;> split <;> omega
 ·have hz:cK (aC s p)=3:=by unfold cK;split <;> (try split) <;> (try split) <;> (try split) <;> (try split) <;> omega
  rw [oQ s p 3 hz (by omega) (by omega),←Lib.slow_ED _ _ _ _ _ hn h1 h2 h3 h,qW _ _ _ _ _ 3 _ _ (by omega) (by omega)]
  simp only [hbad]
  split <;> split <;> omega
 ·have hz:cK (aC s p)=4:=by unfold cK;split <;> (try split) <;> (try split) <;> (try split) <;> (try split) <;> omega
  rw [oQ s p 4 hz (by omega) (by omega),←Lib.slow_F0 _ _ _ _ _ hn h1 h2 h3 h,qW _ _ _ _ _ 4 _ _ (by omega) (by omega)]
  simp only [hbad]
  split <;> split <;> omega
 ·have hz:cK (aC s p)=4:=by unfold cK;split <;> (try split) <;> (try split) <;> (try split) <;> (try split) <;> omega
  rw [oQ s p 4 hz (by omega) (by omega),←Lib.slow_F1 _ _ _ _ _ hn h1 h2 h3 h,qW _ _ _ _ _ 4 _ _ (by omega) (by omega)]
  simp only [hbad]
  split <;> split <;> omega
 ·have hz:cK (aC s p)=4:=by unfold cK;split <;> (try split) <;> (try split) <;> (try split) <;> (try split) <;> omega
  rw [oQ s p 4 hz (by omega) (by omega),←Lib.slow_F4 _ _ _ _ _ hn h1 h2 h3 h,qW _ _ _ _ _ 4 _ _ (by omega) (by omega)]
  simp only [hbad]
  split <;> split <;> omega
theorem aEl (s:ByteArray) (p i:Nat) (hc:bD s p≠0) (h0:0 < i) (hi:i < bD s p):128≤aC s (p+i):=by
 by_cases h1:cK (aC s p)≤1
 ·rw [qL s p h1] at hi;omega
 ·have h4:cK (aC s p)≤4:=by unfold cK;split <;> (try split) <;> (try split) <;> (try split) <;> (try split) <;> omega
  cases hco:kS (aC s (p+i))
  ·have hle:bD s p≤cK (aC s p):=by
    simp only [bD,if_neg h1]
    split
    ·omega
    ·split <;> omega
   exact absurd (aC5 s p _ i rfl h1 h0 (by omega) hco) hc
  ·simp only [kS,Bool.and_eq_true,decide_eq_true_eq] at hco
   exact hco.1
theorem aOl (s:ByteArray) (p:Nat) (hp:p < s.size) (hc:bD s p≠0):(10∈s.data.toList.drop p)↔aC s p=10∨10∈s.data.toList.drop (p+bD s p):=by
 have hle:=yC s p hp
 rw [List.mem_iff_getElem,List.mem_iff_getElem]
 constructor
 ·rintro ⟨i,hi,he⟩
  simp only [List.length_drop,←kK,List.getElem_drop] at hi he
  have hbi:aC s (p+i)=10:=by rw [kR s (p+i) (by omega)];show (s.data.toList[p+i]'_).toNat=10;rw [he];rfl
  by_cases hic:i < bD s p
  ·by_cases hi0:i=0
   ·subst hi0;exact Or.inl hbi
   ·have:=aEl s p i hc (by omega) hic;omega
  ·refine Or.inr ⟨i - bD s p,by simp only [List.length_drop,←kK];omega,?_⟩
   simp only [List.getElem_drop]
   have:p+bD s p+(i - bD s p)=p+i:=by omega
   simp only [this]
   exact he
 ·rintro (h | ⟨i,hi,he⟩)
  ·refine ⟨0,by simp only [List.length_drop,←kK];omega,?_⟩
   simp only [List.getElem_drop,Nat.add_zero]
   rw [kR s p hp] at h
   have h':(s.data.toList[p]'(by rw [←kK];exact hp)).toNat=10:=h
   exact UInt8.toNat_inj.1 h'
  ·simp only [List.length_drop,←kK,List.getElem_drop] at hi he
   refine ⟨bD s p+i,by simp only [List.length_drop,←kK];omega,?_⟩
   simp only [List.getElem_drop]
   have:p+(bD s p+i)=p+bD s p+i:=by omega
   simp only [this]
   exact he
theorem aOm (s:ByteArray):∀f p m,s.size - p≤f→
  (eW s f p m=true↔Lib.validD (s.data.toList.drop p)=true∧¬10∈s.data.toList.drop p∧1≤m+Lib.runeCountFrom s f p∧m+Lib.runeCountFrom s f p≤20):=by
 intro f
 induction f with
 | zero=>
  intro p m hf
  have hd:s.data.toList.drop p=[]:=List.drop_eq_nil_of_le (by rw [←kK];omega)
  rw [hd]
  simp [eW,Lib.validD_nil,Lib.runeCountFrom]
 | succ f ih=>
  intro p m hf
  by_cases hp:p < s.size
  ·have hne:s.data.toList.drop p≠[]:=by
    intro h
    have:=congrArg List.length h
    simp only [List.length_drop,←kK,List.length_nil] at this
    omega
   have hch:=wK s p hp
   rw [Lib.validD_step _ hne,Lib.decodeL_drop,List.drop_drop]
   by_cases hbad:(Utf8.decode s p).1=65533∧(Utf8.decode s p).2=1
   ·have h0:bD s p=0:=by rw [hch];unfold oP;rw [if_pos hbad]
    rw [if_pos hbad,yE s (f+1) p m hp hf (Or.inl h0)]
    simp
   ·have hw:=Lib.decode_width_pos s p hp
    have hc:bD s p=(Utf8.decode s p).2:=by rw [hch];unfold oP;rw [if_neg hbad]
    rw [if_neg hbad,aOl s p hp (by omega)]
    have hrc:Lib.runeCountFrom s (f+1) p=1+Lib.runeCountFrom s f (p+(Utf8.decode s p).2):=by simp [Lib.runeCountFrom,hp]
    rw [hrc]
    by_cases h10:aC s p=10
    ·rw [yE s (f+1) p m hp hf (Or.inr h10)]
     simp [h10]
    ·have hstep:eW s (f+1) p m=eW s f (p+bD s p) (m+1):=by
      simp only [eW,if_pos hp]
      rw [if_neg (by omega)]
     rw [hstep,ih (p+bD s p) (m+1) (by omega),hc]
     simp only [h10,false_or]
     constructor
     ·rintro ⟨a,b,c,d⟩;exact ⟨a,b,by omega,by omega⟩
     ·rintro ⟨a,b,c,d⟩;exact ⟨a,b,by omega,by omega⟩
  ·have hd:s.data.toList.drop p=[]:=List.drop_eq_nil_of_le (by rw [←kK];omega)
   rw [yD s (f+1) p m hp,hd,Lib.runeCountFrom_end s (f+1) p hp]
   simp [Lib.validD_nil]
theorem aOn (s:ByteArray):dW s=(Lib.validD s.data.toList && !decide (0≤Lib.indexByte s.data.toList 10) && (decide (1≤Lib.runeCount s) && decide (Lib.runeCount s≤20))):=by
 rw [Bool.eq_iff_iff]
 unfold dW
 rw [aOm s s.size 0 0 (by omega),←Lib.contains_iff_indexByte]
 have hr:Lib.runeCountFrom s s.size 0=Lib.runeCount s:=rfl
 rw [hr]
 simp [and_assoc]
end Go.Proofs.YtbddofieljiihaaGreatDoor
