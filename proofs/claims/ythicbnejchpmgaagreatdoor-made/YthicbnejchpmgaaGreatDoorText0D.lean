/- How long a name can be. Two ways to say which names may be: character by character, and by the library's words. The document's own answer: the first name that is another thing than where it stood first, or has too many parts. -/
import Derived.Test.YthicbnejchpmgaaGreatDoorBase0D
import Derived.Lib.ValidLaws
import Derived.Lib.RuneCount
import Derived.Lib.IndexAny
namespace Go.Proofs.YthicbnejchpmgaaGreatDoor
open Go.RowKit
theorem kM (x:ByteArray):x.size=x.data.toList.length:=rfl
theorem aPx (s:ByteArray) (p:Nat):bD s p≤4:=by
 have hz:cW (aC s p)≤4:=by unfold cW;split <;> (try split) <;> (try split) <;> (try split) <;> (try split) <;> omega
 simp only [bD]
 split
 ·omega
 ·split
  ·omega
  ·split <;> omega
theorem aPy (s:ByteArray):∀f p m,s.size - p≤f→m≤20→fW s f p m=true→s.size≤p+4 * (20 - m):=by
 intro f
 induction f with
 | zero=>intro p m hf hm h;omega
 | succ f ih=>
  intro p m hf hm h
  by_cases hp:p < s.size
  ·by_cases hb:bD s p=0∨aC s p=10
   ·rw [yP s (f+1) p m hp hf hb] at h;simp at h
   ·have hc:=aPx s p
    simp only [fW,if_pos hp,if_neg hb] at h
    by_cases hm20:m=20
    ·exfalso
     subst hm20
     have:∀f p m,20 < m→fW s f p m=false:=by
      intro f
      induction f with
      | zero=>intro p m hm;simp [fW];omega
      | succ f ih=>
       intro p m hm
       simp only [fW]
       split
       ·split
        ·rfl
        ·exact ih _ _ (by omega)
       ·simp;omega
     rw [this _ _ _ (by omega)] at h
     simp at h
    ·have:=ih (p+bD s p) (m+1) (by omega) (by omega) h
     omega
  ·omega
theorem aFe (s:ByteArray) (h:gR s=true):0 < s.size∧s.size≤80:=by
 refine ⟨?_,?_⟩
 ·rcases Nat.eq_zero_or_pos s.size with h0 | h0
  ·unfold gR at h;rw [h0] at h;simp [fW] at h
  ·exact h0
 ·have:=aPy s s.size 0 0 (by omega) (by omega) h
  omega
end Go.Proofs.YthicbnejchpmgaaGreatDoor
namespace Go.Proofs.YthicbnejchpmgaaGreatDoor
open Go.RowKit
set_option maxRecDepth 100000
theorem kB (s:ByteArray) (i:Nat):aC s i=(s.data.toList.getD i 0).toNat:=by
 unfold aC
 split
 ·next h=>
  obtain ⟨⟨l⟩⟩:=s
  have hl:i < l.length:=h
  simp [List.getD,hl]
  rfl
 ·next h=>
  obtain ⟨⟨l⟩⟩:=s
  have hl:¬i < l.length:=h
  simp [List.getD,List.getElem?_eq_none (show l.length≤i by omega)]
theorem qJ (s:ByteArray) (i:Nat):aC s i < 256:=by
 rw [kB]
 exact UInt8.toNat_lt _
def pC (d:Nat×Nat):Nat:=if d.1=65533∧d.2=1 then 0 else d.2
set_option maxHeartbeats 1000000 in
theorem rN (n b0 b1 b2 b3 sz lo hi:Nat) (h2:2≤sz) (h4:sz≤4):pC (Lib.slowN n b0 b1 b2 b3 sz lo hi)=if n < sz∨b1 < lo∨hi < b1∨(3≤sz∧(b2 < 128∨191 < b2))∨(4≤sz∧(b3 < 128∨191 < b3)) then 0 else sz:=by
 unfold pC Lib.slowN
 repeat' split
 all_goals first | rfl | omega | (exfalso;omega) | (simp only at *;omega)
theorem pD (s:ByteArray) (p z:Nat) (hz:cW (aC s p)=z) (h2:2≤z) (h4:z≤4) :
  bD s p=if s.size < p+z∨(aC s (p+1) < 128∨191 < aC s (p+1))∨(3≤z∧(aC s (p+2) < 128∨191 < aC s (p+2)))∨(4≤z∧(aC s (p+3) < 128∨191 < aC s (p+3)))∨qX (aC s p) (aC s (p+1))=true then 0 else z:=by
 by_cases hsh:s.size < p+z
 ·rw [aIx s p z hz (by omega) hsh,if_pos (Or.inl hsh)]
 ·by_cases hall:∀i,0 < i→i < z→kY (aC s (p+i))=true
  ·rw [aIy s p z hz (by omega) hsh hall]
   have c1:=hall 1 (by omega) (by omega)
   have c2:3≤z→kY (aC s (p+2))=true:=fun h=>hall 2 (by omega) (by omega)
   have c3:4≤z→kY (aC s (p+3))=true:=fun h=>hall 3 (by omega) (by omega)
   simp only [kY,Bool.and_eq_true,decide_eq_true_eq] at c1 c2 c3
   by_cases hb:qX (aC s p) (aC s (p+1))=true
   ·rw [if_pos hb,if_pos (by simp [hb])]
   ·rw [if_neg hb,if_neg]
    intro h
    rcases h with h | h | h | h | h
    ·omega
    ·omega
    ·have:=c2 h.1;omega
    ·have:=c3 h.1;omega
    ·exact hb h
  ·obtain ⟨i,hi⟩:=Classical.not_forall.1 hall
   obtain ⟨hi0,hi⟩:=Classical.not_imp.1 hi
   obtain ⟨hiz,hi⟩:=Classical.not_imp.1 hi
   have hi':kY (aC s (p+i))=false:=by simpa using hi
   rw [aCd s p z i hz (by omega) hi0 hiz hi',if_pos]
   simp only [kY,Bool.and_eq_false_iff,decide_eq_false_iff_not] at hi'
   rcases (show i=1∨i=2∨i=3 by omega) with rfl | rfl | rfl
   ·right;left;omega
   ·right;right;left;omega
   ·right;right;right;left;omega
theorem xC (s:ByteArray) (p:Nat) (hp:p < s.size):bD s p=pC (Utf8.decode s p):=by
 rw [Lib.decode_N,←kB,←kB,←kB,←kB,←kM]
 have h0:=qJ s p
 have h1:=qJ s (p+1)
 have h2:=qJ s (p+2)
 have h3:=qJ s (p+3)
 have hn:1≤s.size - p:=by omega
 have hbad:=aIw (aC s p) (aC s (p+1))
 rcases (show aC s p < 128∨((128≤aC s p∧aC s p < 194)∨245≤aC s p)∨(194≤aC s p∧aC s p < 224)∨aC s p=224∨((225≤aC s p∧aC s p < 237)∨(238≤aC s p∧aC s p < 240))∨aC s p=237∨aC s p=240∨(241≤aC s p∧aC s p < 244)∨aC s p=244 by omega) with h | h | h | h | h | h | h | h | h
 ·rw [sI s p (by unfold cW;rw [if_pos h];omega)]
  unfold cW Lib.decodeN pC
  rw [if_pos h,if_pos h,if_neg (by simp only;omega)]
 ·have hz:cW (aC s p)=0:=by unfold cW;split <;> (try split) <;> (try split) <;> (try split) <;> (try split) <;> omega
  have hf:Lib.firstT (aC s p)=241:=by unfold Lib.firstT;(repeat' split) <;> omega
  rw [sI s p (by omega),hz,Lib.bad_eq _ _ _ _ _ h0 hf]
  rfl
 ·have hz:cW (aC s p)=2:=by unfold cW;split <;> (try split) <;> (try split) <;> (try split) <;> (try split) <;> omega
  rw [pD s p 2 hz (by omega) (by omega),←Lib.slow_C2 _ _ _ _ _ hn h1 h2 h3 h,rN _ _ _ _ _ 2 _ _ (by omega) (by omega)]
  simp only [hbad]
  split <;> split <;> omega
 ·have hz:cW (aC s p)=3:=by unfold cW;split <;> (try split) <;> (try split) <;> (try split) <;> (try split) <;> omega
  rw [pD s p 3 hz (by omega) (by omega),←Lib.slow_E0 _ _ _ _ _ hn h1 h2 h3 h,rN _ _ _ _ _ 3 _ _ (by omega) (by omega)]
  simp only [hbad]
  split <;> split <;> omega
 ·have hz:cW (aC s p)=3:=by unfold cW;split <;> (try split) <;> (try split) <;> (try split) <;> (try split) <;> omega
  rw [pD s p 3 hz (by omega) (by omega),←Lib.slow_E1 _ _ _ _ _ hn h1 h2 h3 h,rN _ _ _ _ _ 3 _ _ (by omega) (by omega)]
  simp only [hbad]
  split <;> split <;> omega
 ·have hz:cW (aC s p)=3:=by unfold cW;split <;> (try split) <;> (try split) <;> (try split) <;> (try split) <;> omega
  rw [pD s p 3 hz (by omega) (by omega),←Lib.slow_ED _ _ _ _ _ hn h1 h2 h3 h,rN _ _ _ _ _ 3 _ _ (by omega) (by omega)]
  simp only [hbad]
  split <;> split <;> omega
 ·have hz:cW (aC s p)=4:=by unfold cW;split <;> (try split) <;> (try split) <;> (try split) <;> (try split) <;> omega
  rw [pD s p 4 hz (by omega) (by omega),←Lib.slow_F0 _ _ _ _ _ hn h1 h2 h3 h,rN _ _ _ _ _ 4 _ _ (by omega) (by omega)]
  simp only [hbad]
  split <;> split <;> omega
 ·have hz:cW (aC s p)=4:=by unfold cW;split <;> (try split) <;> (try split) <;> (try split) <;> (try split) <;> omega
  rw [pD s p 4 hz (by omega) (by omega),←Lib.slow_F1 _ _ _ _ _ hn h1 h2 h3 h,rN _ _ _ _ _ 4 _ _ (by omega) (by omega)]
  simp only [hbad]
  split <;> split <;> omega
 ·have hz:cW (aC s p)=4:=by unfold cW;split <;> (try split) <;> (try split) <;> (try split) <;> (try split) <;> omega
  rw [pD s p 4 hz (by omega) (by omega),←Lib.slow_F4 _ _ _ _ _ hn h1 h2 h3 h,rN _ _ _ _ _ 4 _ _ (by omega) (by omega)]
  simp only [hbad]
  split <;> split <;> omega
theorem aFf (s:ByteArray) (p i:Nat) (hc:bD s p≠0) (h0:0 < i) (hi:i < bD s p):128≤aC s (p+i):=by
 by_cases h1:cW (aC s p)≤1
 ·rw [sI s p h1] at hi;omega
 ·have h4:cW (aC s p)≤4:=by unfold cW;split <;> (try split) <;> (try split) <;> (try split) <;> (try split) <;> omega
  cases hco:kY (aC s (p+i))
  ·have hle:bD s p≤cW (aC s p):=by
    simp only [bD,if_neg h1]
    split
    ·omega
    ·split <;> omega
   exact absurd (aCd s p _ i rfl h1 h0 (by omega) hco) hc
  ·simp only [kY,Bool.and_eq_true,decide_eq_true_eq] at hco
   exact hco.1
theorem aPz (s:ByteArray) (p:Nat) (hp:p < s.size) (hc:bD s p≠0):(10∈s.data.toList.drop p)↔aC s p=10∨10∈s.data.toList.drop (p+bD s p):=by
 have hle:=yN s p hp
 rw [List.mem_iff_getElem,List.mem_iff_getElem]
 constructor
 ·rintro ⟨i,hi,he⟩
  simp only [List.length_drop,←kM,List.getElem_drop] at hi he
  have hbi:aC s (p+i)=10:=by rw [nE s (p+i) (by omega)];show (s.data.toList[p+i]'_).toNat=10;rw [he];rfl
  by_cases hic:i < bD s p
  ·by_cases hi0:i=0
   ·subst hi0;exact Or.inl hbi
   ·have:=aFf s p i hc (by omega) hic;omega
  ·refine Or.inr ⟨i - bD s p,by simp only [List.length_drop,←kM];omega,?_⟩
   simp only [List.getElem_drop]
   have:p+bD s p+(i - bD s p)=p+i:=by omega
   simp only [this]
   exact he
 ·rintro (h | ⟨i,hi,he⟩)
  ·refine ⟨0,by simp only [List.length_drop,←kM];omega,?_⟩
   simp only [List.getElem_drop,Nat.add_zero]
   rw [nE s p hp] at h
   have h':(s.data.toList[p]'(by rw [←kM];exact hp)).toNat=10:=h
   exact UInt8.toNat_inj.1 h'
  ·simp only [List.length_drop,←kM,List.getElem_drop] at hi he
   refine ⟨bD s p+i,by simp only [List.length_drop,←kM];omega,?_⟩
   simp only [List.getElem_drop]
   have:p+(bD s p+i)=p+bD s p+i:=by omega
   simp only [this]
   exact he
theorem aQ0 (s:ByteArray):∀f p m,s.size - p≤f→
  (fW s f p m=true↔Lib.validD (s.data.toList.drop p)=true∧¬10∈s.data.toList.drop p∧1≤m+Lib.runeCountFrom s f p∧m+Lib.runeCountFrom s f p≤20):=by
 intro f
 induction f with
 | zero=>
  intro p m hf
  have hd:s.data.toList.drop p=[]:=List.drop_eq_nil_of_le (by rw [←kM];omega)
  rw [hd]
  simp [fW,Lib.validD_nil,Lib.runeCountFrom]
 | succ f ih=>
  intro p m hf
  by_cases hp:p < s.size
  ·have hne:s.data.toList.drop p≠[]:=by
    intro h
    have:=congrArg List.length h
    simp only [List.length_drop,←kM,List.length_nil] at this
    omega
   have hch:=xC s p hp
   rw [Lib.validD_step _ hne,Lib.decodeL_drop,List.drop_drop]
   by_cases hbad:(Utf8.decode s p).1=65533∧(Utf8.decode s p).2=1
   ·have h0:bD s p=0:=by rw [hch];unfold pC;rw [if_pos hbad]
    rw [if_pos hbad,yP s (f+1) p m hp hf (Or.inl h0)]
    simp
   ·have hw:=Lib.decode_width_pos s p hp
    have hc:bD s p=(Utf8.decode s p).2:=by rw [hch];unfold pC;rw [if_neg hbad]
    rw [if_neg hbad,aPz s p hp (by omega)]
    have hrc:Lib.runeCountFrom s (f+1) p=1+Lib.runeCountFrom s f (p+(Utf8.decode s p).2):=by simp [Lib.runeCountFrom,hp]
    rw [hrc]
    by_cases h10:aC s p=10
    ·rw [yP s (f+1) p m hp hf (Or.inr h10)]
     simp [h10]
    ·have hstep:fW s (f+1) p m=fW s f (p+bD s p) (m+1):=by
      simp only [fW,if_pos hp]
      rw [if_neg (by omega)]
     rw [hstep,ih (p+bD s p) (m+1) (by omega),hc]
     simp only [h10,false_or]
     constructor
     ·rintro ⟨a,b,c,d⟩;exact ⟨a,b,by omega,by omega⟩
     ·rintro ⟨a,b,c,d⟩;exact ⟨a,b,by omega,by omega⟩
  ·have hd:s.data.toList.drop p=[]:=List.drop_eq_nil_of_le (by rw [←kM];omega)
   rw [yO s (f+1) p m hp,hd,Lib.runeCountFrom_end s (f+1) p hp]
   simp [Lib.validD_nil]
theorem aQ1 (s:ByteArray):gR s=(Lib.validD s.data.toList && !decide (0≤Lib.indexByte s.data.toList 10) && (decide (1≤Lib.runeCount s) && decide (Lib.runeCount s≤20))):=by
 rw [Bool.eq_iff_iff]
 unfold gR
 rw [aQ0 s s.size 0 0 (by omega),←Lib.contains_iff_indexByte]
 have hr:Lib.runeCountFrom s s.size 0=Lib.runeCount s:=rfl
 rw [hr]
 simp [and_assoc]
abbrev Pl:=ByteArray×Bool×Int×Int
def aAp (x y:Pl):Prop:=x.1=y.1∧(x.2.1≠y.2.1∨x.2.2.1≠y.2.2.1)
def pE (l:List Pl) (i:Nat) (h:i < l.length):Prop:=5 < l[i].2.2.1∨∃k,∃hk:k < i,aAp (l[k]'(by omega)) l[i]
def uJ (l:List Pl) (r:Int):Prop:=(r=-1∧∀i h,¬pE l i h)∨∃i h,pE l i h∧(∀j hj,j < i→¬pE l j hj)∧r=l[i].2.2.2
end Go.Proofs.YthicbnejchpmgaaGreatDoor
