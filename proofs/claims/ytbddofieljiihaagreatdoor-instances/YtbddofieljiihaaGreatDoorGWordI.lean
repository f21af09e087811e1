/- The program's scanner: a word. Pure: a name between signs, by characters. The program's scanner: a word, walked. The program's scanner: a name between signs, walked. -/
import Derived.Test.YtbddofieljiihaaGreatDoorGSpecI
import Derived.Laws.Cover4
import Derived.Lib.MapLaws
import Derived.Test.YtbddofieljiihaaGreatDoorStepAppI
namespace Go.Proofs.YtbddofieljiihaaGreatDoor
open Go.RowKit
set_option maxRecDepth 100000
theorem aE2:(Tryz.prog.info? 21).map (fun i=>(i.zero,i.size,i.bytes))=some (some (.int .i32 0),1,4):=by kernel_rfl
theorem zN (x:Int):∀u∈[Value.int .i32 x],u.oneCell'=true:=by
 intro u hu
 simp at hu
 subst hu
 rfl
theorem aNd (b:Nat) (h:b < 128):Utf8.encode (b:Int)=⟨#[UInt8.ofNat b]⟩:=by
 have hv:Utf8.valid (b:Int)=true:=by rw [validRune_eq];unfold validRune;simp;omega
 unfold Utf8.encode
 simp [hv,h]
theorem wE (l:List Int) (r:Int):runesBytes (l++[r])=runesBytes l++Utf8.encode r:=by
 unfold runesBytes
 rw [List.foldl_append]
 rfl
theorem aNe (s:ByteArray) (p q:Nat) (hpq:p≤q) (hq:q < s.size):s.extract p (q+1)=s.extract p q++⟨#[UInt8.ofNat (aC s q)]⟩:=by
 have h1:s.extract q (q+1)=⟨#[UInt8.ofNat (aC s q)]⟩:=by
  rw [kR s q hq]
  apply ByteArray.ext
  rw [ByteArray.data_extract]
  apply Array.ext
  ·simp;have:q < s.data.size:=hq;omega
  ·intro i h1 h2
   simp at h2
   subst h2
   simp
   rfl
 rw [←h1]
 apply ByteArray.ext
 simp only [ByteArray.data_append,ByteArray.data_extract]
 rw [Array.extract_append_extract]
 congr 1
 ·omega
 ·omega
def lY (s:ByteArray) (p q:Nat):List Int:=(List.range q).map fun i=>(aC s (p+i):Int)
theorem aE3 (s:ByteArray) (p q:Nat):lY s p (q+1)=lY s p q++[(aC s (p+q):Int)]:=by simp [lY,List.range_succ]
theorem aNf (s:ByteArray) (p:Nat):∀q,p+q≤s.size→(∀i,i < q→aC s (p+i) < 128)→runesBytes (lY s p q)=s.extract p (p+q):=by
 intro q
 induction q with
 | zero=>
  intro _ _
  have:s.extract p (p+0)=ByteArray.empty:=by
   apply ByteArray.ext
   rw [ByteArray.data_extract]
   apply Array.ext
   ·simp;omega
   ·intro i h1 h2;simp at h2
  rw [this]
  rfl
 | succ q ih=>
  intro h1 h2
  rw [aE3,wE,ih (by omega) (fun i hi=>h2 i (by omega)),aNd _ (h2 q (by omega)),←aNe s p (p+q) (by omega) (by omega)]
  rfl
theorem zO (c:Nat) (h:fA (c:Int)=true):c < 128:=by
 simp only [fA,eH,eD,pZ,Bool.or_eq_true,Bool.and_eq_true,decide_eq_true_eq,beq_iff_eq] at h
 omega
theorem aNg (s:ByteArray) (p:Nat):fA (aM s p)=(decide (p < s.size) && fA (aC s p)):=by
 by_cases h:p < s.size
 ·by_cases hb:aC s p < 128
  ·rw [(kC s p h hb).1];simp [h]
  ·have h2:fA (aC s p:Int)=false:=by
    cases hi:fA (aC s p:Int)
    ·rfl
    ·exact absurd (zO _ hi) hb
   rw [h2]
   rcases tP s p h (by omega) with e | e
   ·rw [e];simp;decide
   ·have:fA (aM s p)=false:=by
     simp only [fA,eH,eD,pZ,Bool.or_eq_false_iff,Bool.and_eq_false_iff,decide_eq_false_iff_not,beq_eq_false_iff_ne]
     omega
    rw [this];simp
 ·rw [lX s p h];simp [h];decide
section
variable {B:Nat} {pb:Nat} {s:ByteArray} {p g j m c:Nat} {k a:Int} {wd:ByteArray} {vC vP vM:Value}
theorem bB.letters {w:World} (h:bB B w pb s p g j m c k a wd vC vP vM):∀q,p+q≤s.size→(∀i,i < q→aC s (p+i) < 128)→(bL s 0).drop (j+q)=bL s (p+q)∧q≤m:=by
 intro q
 induction q with
 | zero=>intro _ _;exact ⟨h.drop,Nat.zero_le _⟩
 | succ q ih=>
  intro h1 h2
  obtain ⟨i1,i2⟩:=ih (by omega) (fun i hi=>h2 i (by omega))
  have hw:=(kC s (p+q) (by omega) (h2 q (by omega))).2
  unfold fL at hw
  have hd:(bL s 0).drop (j+(q+1))=bL s (p+(q+1)):=by
   have e:(bL s 0).drop (j+(q+1))=((bL s 0).drop (j+q)).drop 1:=by rw [List.drop_drop];rfl
   rw [e,i1,pS (by omega),hw]
   rfl
  refine ⟨hd,?_⟩
  have:=congrArg List.length hd
  rw [List.length_drop,h.len] at this
  have h3:=(wA s _ (p+(q+1)) (Nat.le_refl _)).1
  omega
theorem bB.cells {w:World} (h:bB B w pb s p g j m c k a wd vC vP vM) (q p':Nat) (hd:(bL s 0).drop (j+q)=bL s p') (hp':p'≤s.size) (hq:q≤m):w.cell? ⟨g,j * 2+q * 2,none⟩=some (.int .i32 (aM s p'))∧w.cell? ⟨g,j * 2+q * 2+1,none⟩=some (.int .i64 p'):=by
 obtain ⟨r,hr⟩:=zL s p' hp'
 have hl:=h.len
 have hj:j+q < (bL s 0).length:=by omega
 have he:(bL s 0)[j+q]=(aM s p',p'):=by
  have h1:((bL s 0).drop (j+q))[0]?=some (aM s p',p'):=by rw [hd,hr];rfl
  rw [List.getElem?_drop,List.getElem?_eq_getElem (by omega)] at h1
  simpa using h1
 obtain ⟨q1,q2⟩:=zH (bL s 0) (j+q) hj
 rw [he] at q1 q2
 rw [show (j+q) * 2=j * 2+q * 2 by omega] at q1 q2
 exact ⟨by rw [h.row.cellAt _ (by omega),q1],by rw [h.row.cellAt _ (by omega),q2]⟩
theorem bB.jump {w:World} (q p' m' c':Nat) (h:bB B w pb s p g j (m'+q) (c'+q) k a wd vC vP vM) (hd:(bL s 0).drop (j+q)=bL s p') (hp':p'≤s.size):bB B (w.setCell ⟨pb,0,none⟩ (.slice (some ⟨g,j * 2+q * 2,none⟩) (m'+1) (c'+1))) pb s p' g (j+q) m' c' k a wd vC vP vM:=by
 rw [show j * 2+q * 2=(j+q) * 2 by omega]
 refine ⟨h.box.set0 _,h.high,?_,by have:=h.len;omega,hd,hp'⟩
 have:=h.box.row h.row (by decide) 0 (.slice (some ⟨g,(j+q) * 2,none⟩) (m'+1) (c'+1))
 rw [show j+q+m'+1=j+(m'+q)+1 by omega,show j+q+c'+1=j+(c'+q)+1 by omega]
 exact this
theorem bB.mc {w:World} (h:bB B w pb s p g j m c k a wd vC vP vM):m≤c:=by
 obtain ⟨_,hr⟩:=h.row
 rcases hr with ⟨e,_⟩ | ⟨g',cap,cur,e,_,_,hc,_⟩
 ·simp at e
 ·simp at e
  obtain ⟨_,rfl⟩:=e
  omega
end
theorem aE4 {s n:ByteArray} {q p:Nat} (hc:bD s q≠0) (hp:p+bD s q≤n.size) (hb:∀i,i < bD s q→aC n (p+i)=aC s (q+i)):bD n p=bD s q:=by
 have hb0:=hb 0 (by omega)
 simp only [Nat.add_zero] at hb0
 by_cases h1:cK (aC s q)≤1
 ·rw [qL s q h1] at hc ⊢
  rw [qL n p (by rw [hb0];exact h1),hb0]
 ·obtain ⟨z,hz⟩ : ∃z,cK (aC s q)=z:=⟨_,rfl⟩
  have h4:z≤4:=by rw [←hz];unfold cK;split <;> (try split) <;> (try split) <;> (try split) <;> (try split) <;> omega
  have e1:=oQ s q z hz (by omega) h4
  have e2:=oQ n p z (by rw [hb0];exact hz) (by omega) h4
  rw [e1] at hc
  split at hc
  ·exact absurd rfl hc
  ·rename_i hcond
   rw [if_neg hcond] at e1
   rw [e1] at hp hb ⊢
   rw [e2,if_neg]
   intro h
   apply hcond
   have b1:=hb 1 (by omega)
   rcases h with h | h | h | h | h
   ·omega
   ·right;left;rw [←b1];exact h
   ·right;right;left;exact ⟨h.1,by rw [←hb 2 (by omega)];exact h.2⟩
   ·right;right;right;left;exact ⟨h.1,by rw [←hb 3 (by omega)];exact h.2⟩
   ·right;right;right;right;rw [←hb0,←b1];exact h
inductive jP (n:ByteArray):Nat→Nat→Nat→Prop
 | done (p:Nat):jP n p p 0
 | step {p e k:Nat}:p < n.size→bD n p≠0→aC n p≠10→jP n (p+bD n p) e k→jP n p e (k+1)
theorem jP.name {n:ByteArray} {p e k:Nat} (h:jP n p e k) (he:e=n.size):∀f m,n.size - p≤f→eW n f p m=(decide (1≤m+k) && decide (m+k≤20)):=by
 induction h with
 | done p=>intro f m _;rw [yD n f p m (by omega)];rfl
 | @step p e k h1 h2 h3 _ ih=>
  intro f m hf
  obtain ⟨g,hg,e1⟩:=aIr n f p m h1 hf (fun h=>h.elim h2 h3)
  rw [e1,ih he g (m+1) hg,show m+1+k=m+(k+1) by omega]
theorem zP (a b:ByteArray) (i:Nat):aC (a++b) i=if i < a.size then aC a i else aC b (i - a.size):=by
 rw [jQ,jQ,jQ]
 have:(a++b).data.toList=a.data.toList++b.data.toList:=by rw [ByteArray.data_append,Array.toList_append]
 rw [this,kK]
 by_cases h:i < a.data.toList.length
 ·rw [if_pos h,List.getD_eq_getElem?_getD,List.getD_eq_getElem?_getD,List.getElem?_append_left h]
 ·rw [if_neg h,List.getD_eq_getElem?_getD,List.getD_eq_getElem?_getD,List.getElem?_append_right (by omega)]
theorem jP.grow {n x:ByteArray} {p e k:Nat} (h:jP n p e k) (he:e≤n.size):jP (n++x) p e k:=by
 induction h with
 | done p=>exact .done p
 | @step p e k h1 h2 h3 _ ih=>
  have hle:=yC n p h1
  have hc:bD (n++x) p=bD n p:=aE4 h2 (by rw [ByteArray.size_append];omega) (fun i hi=>by rw [zP,if_pos (by omega)])
  refine .step (by rw [ByteArray.size_append];omega) (by rw [hc];exact h2) (by rw [zP,if_pos h1];exact h3) ?_
  rw [hc]
  exact ih he
theorem jP.snoc {n:ByteArray} {p e k:Nat} (h:jP n p e k) (he:e < n.size) (hc:bD n e≠0) (hb:aC n e≠10):jP n p (e+bD n e) (k+1):=by
 induction h with
 | done p=>exact .step he hc hb (.done _)
 | step h1 h2 h3 _ ih=>exact .step h1 h2 h3 (ih he hc hb)
theorem jP.char {n s:ByteArray} {k q:Nat} (h:jP n 0 n.size k) (hq:q < s.size) (hc:bD s q≠0) (hb:aC s q≠10):jP (n++s.extract q (q+bD s q)) 0 (n++s.extract q (q+bD s q)).size (k+1):=by
 have hle:=yC s q hq
 have hsz:(s.extract q (q+bD s q)).size=bD s q:=by rw [ByteArray.size_extract];omega
 have hx:∀i,i < bD s q→aC (n++s.extract q (q+bD s q)) (n.size+i)=aC s (q+i):=by
  intro i hi
  rw [zP,if_neg (by omega),show n.size+i - n.size=i by omega,kR _ i (by omega),kR s (q+i) (by omega)]
  rw [ByteArray.getElem_extract]
 have e1:bD (n++s.extract q (q+bD s q)) n.size=bD s q:=aE4 hc (by rw [ByteArray.size_append,hsz];omega) hx
 have h0:=hx 0 (by omega)
 simp only [Nat.add_zero] at h0
 have:=(h.grow (x:=s.extract q (q+bD s q)) (Nat.le_refl _)).snoc (by rw [ByteArray.size_append,hsz];omega) (by rw [e1];exact hc) (by rw [h0];exact hb)
 rw [e1] at this
 rw [ByteArray.size_append,hsz]
 exact this
theorem aNh (n:Nat) (hv:Utf8.valid (n:Int)=true):(Utf8.encode (n:Int)).data.toList=Lib.encodeRune (n:Int):=by
 have hv':=hv
 rw [validRune_eq] at hv'
 unfold validRune at hv'
 rw [decide_eq_true_eq] at hv'
 unfold Lib.encodeRune Utf8.encode
 simp only [hv,if_true,Int.toNat_natCast]
 by_cases h1:n < 128
 ·rw [if_pos h1,Lib.encodeRuneZ_one (by omega) (by omega)]
  rfl
 ·rw [if_neg h1]
  by_cases h2:n < 2048
  ·rw [if_pos h2,Lib.encodeRuneZ_two (by omega) (by omega)]
   have a:(192+(n:Int) / 64).toNat=192+n / 64:=by omega
   have b:(128+(n:Int) % 64).toNat=128+n % 64:=by omega
   simp only [List.map_cons,List.map_nil,a,b]
  ·rw [if_neg h2]
   by_cases h3:n < 65536
   ·rw [if_pos h3,Lib.encodeRuneZ_three (by omega)]
    have a:(224+(n:Int) / 4096).toNat=224+n / 4096:=by omega
    have b:(128+(n:Int) / 64 % 64).toNat=128+n / 64 % 64:=by omega
    have c:(128+(n:Int) % 64).toNat=128+n % 64:=by omega
    simp only [List.map_cons,List.map_nil,a,b,c]
   ·rw [if_neg h3,Lib.encodeRuneZ_four (by omega) (by omega)]
    have a:(240+(n:Int) / 262144).toNat=240+n / 262144:=by omega
    have b:(128+(n:Int) / 4096 % 64).toNat=128+n / 4096 % 64:=by omega
    have c:(128+(n:Int) / 64 % 64).toNat=128+n / 64 % 64:=by omega
    have d:(128+(n:Int) % 64).toNat=128+n % 64:=by omega
    simp only [List.map_cons,List.map_nil,a,b,c,d]
theorem zQ (s:ByteArray) (q:Nat) (hq:q < s.size) (h:aM s q≠-2):Utf8.encode (aM s q)=s.extract q (q+fL s q)∧bD s q=fL s q:=by
 have hv:¬((Utf8.decode s q).1=65533∧(Utf8.decode s q).2=1):=by
  intro e
  apply h
  unfold aM jO
  rw [if_pos hq,if_pos e]
 have hg:aM s q=((Utf8.decode s q).1:Int):=by unfold aM jO;rw [if_pos hq,if_neg hv]
 have hne:s.data.toList.drop q≠[]:=by
  intro h
  have:=congrArg List.length h
  simp only [List.length_drop,←kK,List.length_nil] at this
  omega
 have hen:=Lib.encode_decode (s.data.toList.drop q) hne (by rw [Lib.decodeL_drop];exact hv)
 rw [Lib.decodeL_drop] at hen
 have hin:=tR s q hq
 refine ⟨?_,by rw [wK s q hq];unfold oP;rw [if_neg hv];rfl⟩
 rw [hg]
 apply ByteArray.ext
 apply Array.toList_inj.1
 have hok:=zK s q
 have hval:Utf8.valid ((Utf8.decode s q).1:Int)=true:=by
  rcases hok with e | e | e
  ·exact absurd e (wD s q hq)
  ·exact absurd e h
  ·rw [←hg];exact e
 have:(Utf8.encode ((Utf8.decode s q).1:Int)).data.toList=Lib.encodeRune ((Utf8.decode s q).1:Int):=aNh _ hval
 rw [this,hen,ByteArray.data_extract,Array.toList_extract]
 simp [fL]
structure oN (rs:List Int):Prop where
 cs:jP (runesBytes rs) 0 (runesBytes rs).size rs.length
theorem oN.nil:oN []:=⟨.done _⟩
theorem oN.name {rs:List Int} (h:oN rs):dW (runesBytes rs)=(decide (1≤rs.length) && decide (rs.length≤20)):=by
 unfold dW
 rw [h.cs.name rfl _ 0 (by omega)]
 simp
theorem oN.more {rs:List Int} {s:ByteArray} {q:Nat} (h:oN rs) (hq:q < s.size) (h2:aM s q≠-2) (h10:aM s q≠10):oN (rs++[aM s q]):=by
 obtain ⟨e1,e2⟩:=zQ s q hq h2
 have hw:=tQ s q
 refine ⟨?_⟩
 rw [wE,e1,←e2,List.length_append,List.length_singleton]
 exact h.cs.char hq (by omega) (fun e=>h10 ((eC s q hq 10 (by omega)).2 e))
section
variable {s:ByteArray} {rs:List Int} {f q:Nat}
theorem aNi (hf:s.size≤q+f) (h:aM s q=39):q < s.size∧eI s f (runesBytes rs) q=if dW (runesBytes rs) then some (runesBytes rs,q+1) else none:=by
 have hlt:q < s.size:=Classical.byContradiction fun hn=>by rw [lX s q hn] at h;omega
 obtain ⟨f',rfl⟩ : ∃f',f=f'+1:=⟨f - 1,by omega⟩
 refine ⟨hlt,?_⟩
 rw [eI,if_pos hlt,if_pos ((eC s q hlt 39 (by omega)).1 h)]
theorem aNj (hf:s.size≤q+f) (h39:aM s q≠39) (h92:aM s q≠92) (h:aM s q=10∨aM s q=-2∨aM s q=-1):eI s f (runesBytes rs) q=none:=by
 by_cases hlt:q < s.size
 ·obtain ⟨f',rfl⟩ : ∃f',f=f'+1:=⟨f - 1,by omega⟩
  rw [eI,if_pos hlt,if_neg (fun e=>h39 ((eC s q hlt 39 (by omega)).2 e)),if_neg (fun e=>h92 ((eC s q hlt 92 (by omega)).2 e)),if_pos]
  rcases h with h | h | h
  ·exact Or.inr ((eC s q hlt 10 (by omega)).1 h)
  ·left
   unfold aM jO at h
   rw [if_pos hlt] at h
   rw [wK s q hlt]
   unfold oP
   split at h
   ·rename_i e;rw [if_pos e]
   ·omega
  ·exact absurd h (wD s q hlt)
 ·cases f with
  | zero=>rfl
  | succ f=>rw [eI,if_neg hlt]
theorem aNk (hlt:q < s.size) (h39:aM s q≠39) (h92:aM s q≠92) (h10:aM s q≠10) (h2:aM s q≠-2):eI s (f+1) (runesBytes rs) q=eI s f (runesBytes (rs++[aM s q])) (q+fL s q):=by
 obtain ⟨e1,e2⟩:=zQ s q hlt h2
 have hw:=tQ s q
 rw [eI,if_pos hlt,if_neg (fun e=>h39 ((eC s q hlt 39 (by omega)).2 e)),if_neg (fun e=>h92 ((eC s q hlt 92 (by omega)).2 e)),if_neg,wE,e1,e2]
 rintro (h | h)
 ·omega
 ·exact h10 ((eC s q hlt 10 (by omega)).2 h)
theorem aNl (hlt:q < s.size) (h92:aM s q=92):eI s (f+1) (runesBytes rs) q=if mE (aM s (q+1))=true then eI s f (runesBytes (rs++[aM s (q+1)])) (q+2) else none:=by
 have hb:=(eC s q hlt 92 (by omega)).1 h92
 rw [eI,if_pos hlt,if_neg (by rw [hb];decide),if_pos hb]
 by_cases h1:q+1 < s.size
 ·have i1:=eC s (q+1) h1 39 (by omega)
  have i2:=eC s (q+1) h1 92 (by omega)
  by_cases he:aC s (q+1)=39∨aC s (q+1)=92
  ·have hesc:mE (aM s (q+1))=true:=by
    unfold mE
    rcases he with he | he
    ·rw [i1.2 he];rfl
    ·rw [i2.2 he];rfl
   have hlow:aC s (q+1) < 128:=by omega
   obtain ⟨g1,g2⟩:=kC s (q+1) h1 hlow
   obtain ⟨e1,_⟩:=zQ s (q+1) h1 (by rw [g1];omega)
   rw [if_pos ⟨h1,he⟩,if_pos hesc,wE,e1,g2]
  ·have hesc:¬mE (aM s (q+1))=true:=by
    unfold mE
    intro h
    simp only [Bool.or_eq_true,decide_eq_true_eq] at h
    rcases h with h | h
    ·exact he (Or.inl (i1.1 h))
    ·exact he (Or.inr (i2.1 h))
   rw [if_neg (fun h=>he h.2),if_neg hesc]
 ·rw [if_neg (fun h=>h1 h.1),lX s (q+1) h1]
  rfl
end
theorem kX {w w':World} (h:Below w.heap.size w w') (row:Option Nat):w.grownBy w' row:=⟨h.os,h.tape,h.output,h.size,fun k hk _=>h.block k hk⟩
structure wF (w1:World) (s:ByteArray) (p:Nat) (v:Value) (q:Nat) (wr:World):Prop where
 le:p+q≤s.size
 low:∀i,i < q→aC s (p+i) < 128
 run:dH s p=dH s (p+q)
 row:wr.ownsRow w1.heap.size 21 1 v q ((lY s p q).map (Value.int .i32))
 far:Below w1.heap.size w1 wr
theorem wF.next {w1:World} {s:ByteArray} {p:Nat} {v v':Value} {q:Nat} {wr w':World} {X Y:Obj} (h:wF w1 s p v q wr) (hp:p+q < s.size) (hi:fA (aC s (p+q))=true) (ho:w'.ownsRow w1.heap.size 21 1 v' (q+1) ((lY s p q).map (Value.int .i32)++[.int .i32 (aC s (p+q))])) (hg:((wr.alloc X).alloc Y).grownBy w' v.ownBlock):wF w1 s p v' (q+1) w':=by
 have hf:=(h.far.alloc h.far.size X).alloc (Nat.le_trans h.far.size (by simp)) Y
 refine ⟨by omega,fun i hi'=>?_,?_,?_,?_⟩
 ·by_cases e:i=q
  ·subst e;exact zO _ hi
  ·exact h.low i (by omega)
 ·rw [h.run,wQ hp hi];rfl
 ·rw [aE3,List.map_append];exact ho
 ·exact hf.grown hg hf.size (fun k e=>(bY h.row k e).1)
theorem aE5 {W:World} {B:Nat} {g2 vc:Nat} {s:ByteArray} {p q:Nat} (hr:W.ownsRow B 21 1 (.slice (some ⟨g2,0,none⟩) q vc) q ((lY s p q).map (Value.int .i32))) (hb:runesBytes (lY s p q)=s.extract p (p+q)) :
  (convert 144 9 (.slice (some ⟨g2,0,none⟩) q vc)).run Tryz.prog W=.ok (.string (s.extract p (p+q))) W:=by
 have hl:(lY s p q).length=q:=by simp [lY]
 have h:=run_convert_runes (P:=Tryz.prog) W 144 9 21 ⟨g2,0,none⟩ q vc (lY s p q) (by omega) Tryz.underlying144 (by kernel_rfl) (by kernel_rfl) (fun i hi=>by
  have:=hr.cellAt i (by omega)
  rw [List.getElem?_map,List.getElem?_eq_getElem hi,Option.map_some] at this
  rw [show (⟨g2,0,none⟩ : Addr).add i=⟨g2,i,none⟩ by simp [Addr.add];omega,this]
  simp [List.getD,hi])
 rw [h,List.take_of_length_le (by omega),hb]
section
variable {B:Nat} {pb:Nat} {s:ByteArray} {p g j m c:Nat} {k a:Int} {wd:ByteArray} {vC vP vM:Value}
def aNm (B pb:Nat) (s:ByteArray) (p g j m c:Nat) (k a:Int) (wd:ByteArray) (vC vP vM:Value) (kd:Int) (w:World) (e:Ending) (w':World):Prop:=
 w.grownBy w' (some pb)∧
  if dH s p - p > 20 then e=.returned (eQ (-2) p ⟨#[]⟩)∧bB B w' pb s p g j m c k a wd vC vP vM
  else e=.returned (eQ kd p (s.extract p (dH s p)))∧∃j' m' c',bB B w' pb s (dH s p) g j' m' c' k a wd vC vP vM
theorem gB {w:World} {b i:Nat} {u v:Value} (h:w.cell? ⟨b,i,none⟩=some u):(w.setCell ⟨b,i,none⟩ v).cell? ⟨b,i,none⟩=some v:=World.cell?_setCell_same _ _ _ h
set_option maxHeartbeats 3000000 in
theorem wG {w:World} (kd:Int) (h:bB B w pb s p g j m c k a wd vC vP vM) (hs:s.size≤3000) (hp0:p < s.size) (h1:fA (aC s p)=true) :
  Calls Tryz.prog 68 #[.pointer (some ⟨pb,0,none⟩),.int .i32 kd] w fun e w'=>aNm B pb s p g j m c k a wd vC vP vM kd w e w':=by
 obtain ⟨iR,hR,hR0,hR1,hR2⟩:=info_parts aE2
 have d0:=h.box.c0
 have e0:∀o,(w.alloc o).cell? ⟨pb,0,none⟩=some (.slice (some ⟨g,j * 2,none⟩) (m+1) (c+1)):=fun o=>Below.at' ((Below.refl _ w).alloc (Nat.le_refl _) o) (Nat.le_refl _) d0
 have HB0:Hid (∀o,Below w.heap.size w (w.alloc o)):=aA fun o=>(Below.refl _ _).alloc (Nat.le_refl _) o
 have HX0:Hid (∀o,(w.alloc o).heap[w.heap.size]?=some o∧(w.alloc o).heap.size=w.heap.size+1):=aA fun o=>⟨by show (w.heap.push _)[w.heap.size]?=_;simp,by simp⟩
 have HS:=aA h
 have hpb:=h.box.lt
 clear h d0
 go_enter Tryz.func68,Tryz.ntmps68
 go_wp2
 have hb1:=HB0.out (.cells #[.int .i32 0,.int .i64 0,.string ⟨#[]⟩] 59)
 have HS1:=aA (HS.out.below hb1)
 obtain ⟨hx1,hz1⟩:=HX0.out (.cells #[.int .i32 0,.int .i64 0,.string ⟨#[]⟩] 59)
 have HB1:=aA hb1
 have HX1:=aA hx1
 clear hb1 hx1 HB0 HX0
 generalize w.alloc (.cells #[.int .i32 0,.int .i64 0,.string ⟨#[]⟩] 59)=w1 at *
 have hrb:w.heap.size < w1.heap.size:=by omega
 obtain ⟨rb,hrbe⟩ : ∃rb,w.heap.size=rb:=⟨_,rfl⟩
 rw [hrbe] at hrb HX1 hpb
 simp only [hrbe]
 have HRB:=aA hrbe
 clear hrbe hz1 e0
 go_loopw [5,14] (fun v i wr=>∃q:Nat,i=.int .i64 q∧wF w1 s p v q wr) (fun _ i _=>s.size+1 - (intOf i).toNat)
 case atStart=>exact ⟨0,rfl,by omega,fun i hi=>by omega,rfl,World.ownsRow_nil _ _ _ _,Below.refl _ _⟩
 case round=>
  obtain ⟨q,rfl,hL⟩:=hrel
  have hle:=hL.le
  obtain ⟨hd,hqm⟩:=HS1.out.letters q hle hL.low
  have hSr:=HS1.out.below hL.far
  obtain ⟨c0,c1⟩:=hSr.cells q (p+q) hd hle hqm
  have hqi:(q:Int) < ((m+1:Nat):Int):=by omega
  have hq0:(0:Int)≤(q:Int):=by omega
  have hig:=aNg s (p+q)
  have CW:=aA (fun wx=>aPs (aM s (p+q)) wx)
  rw [hig] at CW
  obtain ⟨va,vc,rfl⟩:=aR hL.row
  have HL:=aA hL
  have hfs:=hL.far.size
  by_cases hin:p+q < s.size∧fA (aC s (p+q))=true
  ·have hgl:=(kC s (p+q) hin.1 (zO _ hin.2)).1
   rw [hin.2,decide_eq_true hin.1] at CW
   rw [hgl] at CW c0
   have HN:=aA (fun (v':Value) (w':World) (X Y:Obj) ho hg=>HL.out.next hin.1 hin.2 (v':=v') (w':=w') (X:=X) (Y:=Y) ho hg)
   have HR:=aA (hL.row)
   have hps:p+q < s.size:=hin.1
   clear hL hig hgl hin hSr hd HL
   generalize aC s (p+q)=bb at *
   go_wp2_with (first
    | (go_at_call 101;refine (aB CW _).mono ?_;rintro e w2 ⟨rfl,rfl⟩)
    | (at_builtin;refine wpList_append_own _ rfl (.tmp 22) (.tmp 25) 144 rfl w1.heap.size 21 iR (.int .i32 0) 1 4 Tryz.underlying144 hR hR0 hR1 hR2 rfl (by decide) _ _ _ rfl ((HR.out.alloc _).alloc _) ⟨_,0,none⟩ 1 1 [.int .i32 bb] rfl rfl (oH _ _ _ _ (by simp)) (zN _) (by unfold maxLen;omega) (by omega) (by simp;omega) ?_;intro v3 w3 ho3 hg3 _;have HN3:=aA (HN.out _ _ _ _ ho3 hg3);obtain ⟨va3,vc3,rfl⟩:=aR ho3;clear ho3 hg3)
    | go_in)
   go_roundw
   case rel=>exact ⟨q+1,by go_num,HN3.out⟩
   case measure=>simp [intOf];omega
  ·have hrun:dH s (p+q)=p+q:=aPh hin
   have HRUN:Hid (dH s p=p+q):=aA (by rw [hL.run,hrun])
   have hq1:1≤q:=by
    apply Classical.byContradiction
    intro hn
    obtain rfl:q=0:=by omega
    exact hin ⟨hp0,h1⟩
   have hcf:(decide (p+q < s.size) && fA (aC s (p+q)))=false:=by
    rw [Bool.and_eq_false_iff]
    by_cases e:p+q < s.size
    ·right
     cases hb:fA (aC s (p+q))
     ·rfl
     ·exact absurd ⟨e,hb⟩ hin
    ·left;simpa using e
   rw [hcf] at CW
   have HWB:Hid (runesBytes (lY s p q)=s.extract p (p+q)):=aA (aNf s p q hle hL.low)
   have HR:=aA hL.row
   have HF:=aA hL.far
   have HD:=aA hd
   have HSR:=aA hSr
   have xr:=hL.far.block rb hrb
   rw [HX1.out] at xr
   have HXR:=aA xr
   have hmc:=hSr.mc
   clear hL hig hSr hd hcf hrun hin xr
   have HB2:Hid (∀o,Below w.heap.size w (wr.alloc o)):=aA fun o=>((HB1.out.trans (HF.out.mono HB1.out.size)).alloc (Nat.le_trans HB1.out.size hfs) o)
   have HX2:Hid (∀o,(wr.alloc o).heap[rb]?=some (.cells #[.int .i32 0,.int .i64 0,.string ⟨#[]⟩] 59)):=aA fun o=>by
    rw [((Below.refl wr.heap.size wr).alloc (Nat.le_refl _) o).block rb (by omega)];exact HXR.out
   by_cases hq20:20 < q
   ·have hq20i:(20:Int) < (q:Int):=by omega
    have CB:=aA (fun o=>rY (HSR.out.below ((Below.refl wr.heap.size wr).alloc (Nat.le_refl _) o)))
    unfold eQ at CB
    go_wp2_with (first
     | (go_at_call 101;refine (aB CW _).mono ?_;rintro e w2 ⟨rfl,rfl⟩)
     | (go_at_call 73;refine (aB CB _).mono ?_;rintro e w3 ⟨rfl,hb3⟩;have hx3:=(hb3.block rb (by simp;omega)).trans (HX2.out _);have HB3:=aA hb3;have HX3:=aA hx3;have t0:w3.cell? ⟨rb,0,none⟩=some (.int .i32 0):=(by simp [World.cell?,hx3]);have t1:w3.cell? ⟨rb,1,none⟩=some (.int .i64 0):=(by simp [World.cell?,hx3]);have t2:w3.cell? ⟨rb,2,none⟩=some (.string ⟨#[]⟩):=(by simp [World.cell?,hx3]);have tt0:=gB (v:=.int .i32 (-2)) t0;have tt1:=gB (v:=.int .i64 p) t1;have tt2:=gB (v:=.string ⟨#[]⟩) t2;have t3:∀i,w3.frozen? ⟨rb,i,none⟩=false:=(fun i=>by simp [World.frozen?,hx3]);clear hb3 hx3)
     | go_in)
    refine bodyPost_ret (by simp [results,Tryz.results68,go_sem,tt0,t1,t2];try rfl) rfl ?_
    have hfin:Below w.heap.size w w3:=(HB2.out _).trans (HB3.out.mono (HB2.out _).size)
    have hrw:w.heap.size≤rb:=by rw [HRB.out];exact Nat.le_refl _
    have hf2:=eJ (eJ (eJ hfin (p:=⟨rb,0,none⟩) hrw (.int .i32 (-2))) (p:=⟨rb,1,none⟩) hrw (.int .i64 p)) (p:=⟨rb,2,none⟩) hrw (.string ⟨#[]⟩)
    refine ⟨kX hf2 _,?_⟩
    rw [if_pos (by rw [HRUN.out];omega)]
    exact ⟨rfl,HS.out.below hf2⟩
   ·have hq20i:¬(20:Int) < (q:Int):=by omega
    obtain ⟨g2,vc2,hv2⟩:=sM HR.out (by omega)
    simp only [Value.slice.injEq] at hv2
    obtain ⟨rfl,_,rfl⟩:=hv2
    obtain ⟨m',rfl⟩ : ∃m',m=m'+q:=⟨m - q,by omega⟩
    obtain ⟨c',rfl⟩ : ∃c',c=c'+q:=⟨c - q,by omega⟩
    go_upto_region 10 with (first
     | (go_at_call 101;refine (aB CW _).mono ?_;rintro e w2 ⟨rfl,rfl⟩)
     | go_in)
    have hS2:=HSR.out.below ((Below.refl wr.heap.size wr).alloc (Nat.le_refl _) (.cells #[.int .i32 (aM s (p+q)),.int .i64 ((p:Int)+q)] 128))
    have hR2':=HR.out.alloc (.cells #[.int .i32 (aM s (p+q)),.int .i64 ((p:Int)+q)] 128)
    have hB2':=HB2.out (.cells #[.int .i32 (aM s (p+q)),.int .i64 ((p:Int)+q)] 128)
    have hX2':=HX2.out (.cells #[.int .i32 (aM s (p+q)),.int .i64 ((p:Int)+q)] 128)
    have hzz:rb < (wr.alloc (.cells #[.int .i32 (aM s (p+q)),.int .i64 ((p:Int)+q)] 128)).heap.size:=by simp;omega
    generalize wr.alloc (.cells #[.int .i32 (aM s (p+q)),.int .i64 ((p:Int)+q)] 128)=W at *
    have v0:=hS2.box.c0
    have v1:=hS2.at0.2
    have v0A:∀o,(W.alloc o).cell? ⟨pb,0,none⟩=some (.slice (some ⟨g,j * 2,none⟩) (m'+q+1) (c'+q+1)):=fun o=>Below.at' ((Below.refl W.heap.size W).alloc (Nat.le_refl _) o) (Nat.le_refl _) v0
    have v1A:∀o,(W.alloc o).cell? ⟨g,j * 2+1,none⟩=some (.int .i64 p):=fun o=>Below.at' ((Below.refl W.heap.size W).alloc (Nat.le_refl _) o) (Nat.le_refl _) v1
    have hcv:=aE5 (W:=W.drew) hR2' HWB.out
    have hcvA:=fun o=>aE5 (W:=(W.alloc o).drew) (World.ownsRow.alloc (w:=W) hR2' o) HWB.out
    have hpos:(0:Int) < (m':Int)+q+1:=by omega
    have HS2:=aA hS2
    have HB2':=aA hB2'
    have HX2':=aA hX2'
    clear hS2 hB2' hX2' hR2'
    go_region
    have hz9:Below W.heap.size W (W.alloc (.cells #[.int .i32 kd,.int .i64 p,.string (s.extract p (p+q))] 59)).drew:=((Below.refl W.heap.size W).alloc (Nat.le_refl _) _).trans ((aJ (w1:=(W.alloc (.cells #[.int .i32 kd,.int .i64 p,.string (s.extract p (p+q))] 59)).drew) ⟨1,rfl⟩).mono (by simp))
    have hS9:=HS2.out.below hz9
    have hX9:=(hz9.block rb hzz).trans HX2'.out
    have hT9:(W.alloc (.cells #[.int .i32 kd,.int .i64 p,.string (s.extract p (p+q))] 59)).drew.heap[W.heap.size]?=some (.cells #[.int .i32 kd,.int .i64 p,.string (s.extract p (p+q))] 59):=by show (W.heap.push _)[W.heap.size]?=_;simp
    have hb9:=HB2'.out.trans (hz9.mono HB2'.out.size)
    have hwb:W.heap.size < (W.alloc (.cells #[.int .i32 kd,.int .i64 p,.string (s.extract p (p+q))] 59)).drew.heap.size:=by show W.heap.size < (W.heap.push _).size;simp
    generalize (W.alloc (.cells #[.int .i32 kd,.int .i64 p,.string (s.extract p (p+q))] 59)).drew=Y at *
    generalize W.heap.size=tb at *
    have y0:=hS9.box.c0
    have yf:=hS9.box.soft 0
    have HS9:=aA hS9
    have HX9:=aA hX9
    have HT9:=aA hT9
    have HB9:=aA hb9
    have hrt:rb≠tb:=by omega
    have hpr:pb≠rb:=by omega
    have hpt:pb≠tb:=by omega
    have HJ:=aA (bB.jump q (p+q) m' c' hS9 HD.out hle)
    have cY:∀u,(Y.setCell ⟨pb,0,none⟩ u).heap[rb]?=some (.cells #[.int .i32 0,.int .i64 0,.string ⟨#[]⟩] 59)∧(Y.setCell ⟨pb,0,none⟩ u).heap[tb]?=some (.cells #[.int .i32 kd,.int .i64 p,.string (s.extract p (p+q))] 59):=fun u=>⟨by rw [Below.heap_setCell _ _ _ _ hpr.symm];exact hX9,by rw [Below.heap_setCell _ _ _ _ hpt.symm];exact hT9⟩
    have z0:∀u,(Y.setCell ⟨pb,0,none⟩ u).cell? ⟨rb,0,none⟩=some (.int .i32 0):=fun u=>by simp [World.cell?,(cY u).1]
    have z1:∀u,(Y.setCell ⟨pb,0,none⟩ u).cell? ⟨rb,1,none⟩=some (.int .i64 0):=fun u=>by simp [World.cell?,(cY u).1]
    have z2:∀u,(Y.setCell ⟨pb,0,none⟩ u).cell? ⟨rb,2,none⟩=some (.string ⟨#[]⟩):=fun u=>by simp [World.cell?,(cY u).1]
    have z3:∀u i,(Y.setCell ⟨pb,0,none⟩ u).frozen? ⟨rb,i,none⟩=false:=fun u i=>by simp [World.frozen?,(cY u).1]
    have z4:∀u,(Y.setCell ⟨pb,0,none⟩ u).cell? ⟨tb,0,none⟩=some (.int .i32 kd):=fun u=>by simp [World.cell?,(cY u).2]
    have z5:∀u,(Y.setCell ⟨pb,0,none⟩ u).cell? ⟨tb,1,none⟩=some (.int .i64 p):=fun u=>by simp [World.cell?,(cY u).2]
    have z6:∀u,(Y.setCell ⟨pb,0,none⟩ u).cell? ⟨tb,2,none⟩=some (.string (s.extract p (p+q))):=fun u=>by simp [World.cell?,(cY u).2]
    clear cY hS9 hX9 hT9 hb9
    have hm1:m'+q+1 - q=m'+1:=by omega
    have hc1:c'+q+1 - q=c'+1:=by omega
    have zz0:=fun u=>gB (v:=.int .i32 kd) (z0 u)
    have zz1:=fun u=>gB (v:=.int .i64 p) (z1 u)
    have zz2:=fun u=>gB (v:=.string (s.extract p (p+q))) (z2 u)
    go_wp2
    refine bodyPost_ret (by simp [results,Tryz.results68,go_sem,zz0,z1,z2];try rfl) rfl ?_
    have hY:Below (w.setCell ⟨pb,0,none⟩ (.slice (some ⟨g,j * 2+q * 2,none⟩) (m'+1) (c'+1))).heap.size (w.setCell ⟨pb,0,none⟩ (.slice (some ⟨g,j * 2+q * 2,none⟩) (m'+1) (c'+1))) (Y.setCell ⟨pb,0,none⟩ (.slice (some ⟨g,j * 2+q * 2,none⟩) (m'+1) (c'+1))):=zM HB9.out (HS.out.box.lt) _
    have hrw:(w.setCell ⟨pb,0,none⟩ (.slice (some ⟨g,j * 2+q * 2,none⟩) (m'+1) (c'+1))).heap.size≤rb:=by rw [←HRB.out];simp [World.setCell]
    have hf2:=eJ (eJ (eJ hY (p:=⟨rb,0,none⟩) hrw (.int .i32 kd)) (p:=⟨rb,1,none⟩) hrw (.int .i64 p)) (p:=⟨rb,2,none⟩) hrw (.string (s.extract p (p+q)))
    have hJ:=(bB.jump q (p+q) m' c' HS.out HD.out hle).below hf2
    have hg0:w.grownBy (w.setCell ⟨pb,0,none⟩ (.slice (some ⟨g,j * 2+q * 2,none⟩) (m'+1) (c'+1))) (some pb):=cB _ _ _
    refine ⟨hg0.trans (kX hf2 _),?_⟩
    rw [HRUN.out,if_neg (by omega)]
    exact ⟨rfl,_,_,_,hJ⟩
end
structure nB (B:Nat) (w:World) (s:ByteArray) (p g j m c:Nat):Prop where
 row:w.ownsRow B 128 2 (.slice (some ⟨g,0,none⟩) (j+m+1) (j+c+1)) (j+m+1) (kW (bL s 0))
 len:(bL s 0).length=j+m+1
 drop:(bL s 0).drop j=bL s p
 le:p≤s.size
section
variable {B:Nat} {w w':World} {pb:Nat} {s:ByteArray} {p g j m c:Nat} {k a:Int} {wd:ByteArray} {vC vP vM:Value}
theorem bB.gl (h:bB B w pb s p g j m c k a wd vC vP vM):nB B w s p g j m c:=⟨h.row,h.len,h.drop,h.le⟩
theorem nB.below (h:nB B w s p g j m c) (q:Below w.heap.size w w'):nB B w' s p g j m c:=⟨aZ h.row q (Nat.le_refl _),h.len,h.drop,h.le⟩
theorem nB.at0 (h:nB B w s p g j m c):w.cell? ⟨g,j * 2,none⟩=some (.int .i32 (aM s p))∧w.cell? ⟨g,j * 2+1,none⟩=some (.int .i64 p):=by
 obtain ⟨r,hr⟩:=zL s p h.le
 have hj:j < (bL s 0).length:=by have:=h.len;omega
 have he:(bL s 0)[j]=(aM s p,p):=by
  have h1:((bL s 0).drop j)[0]?=some (aM s p,p):=by rw [h.drop,hr];rfl
  rw [List.getElem?_drop,List.getElem?_eq_getElem (by omega)] at h1
  simpa using h1
 obtain ⟨q1,q2⟩:=zH (bL s 0) j hj
 rw [he] at q1 q2
 exact ⟨by rw [h.row.cellAt _ (by omega),q1],by rw [h.row.cellAt _ (by omega),q2]⟩
theorem nB.more (h:nB B w s p g j m c) (hp:p < s.size):∃m' c',m=m'+1∧c=c'+1∧nB B w s (p+fL s p) g (j+1) m' c':=by
 have hl:=h.len
 have hd:=congrArg List.length h.drop
 rw [List.length_drop,pS hp,List.length_cons] at hd
 have h1:=(wA s _ (p+(Utf8.decode s p).2) (Nat.le_refl _)).1
 obtain ⟨_,hr⟩:=h.row
 rcases hr with ⟨e,_⟩ | ⟨g',cap,cur,e,_,_,hc,_⟩
 ·simp at e
 ·simp at e
  obtain ⟨_,rfl⟩:=e
  have hrow:=h.row
  obtain ⟨m',rfl⟩ : ∃m',m=m'+1:=⟨m - 1,by omega⟩
  obtain ⟨c',rfl⟩ : ∃c',c=c'+1:=⟨c - 1,by omega⟩
  refine ⟨m',c',rfl,rfl,?_,by omega,?_,tR s p hp⟩
  ·rw [show j+1+m'+1=j+(m'+1)+1 by omega,show j+1+c'+1=j+(c'+1)+1 by omega]
   exact hrow
  ·have e1:(bL s 0).drop (j+1)=((bL s 0).drop j).drop 1:=by rw [List.drop_drop]
   rw [e1,h.drop,pS hp]
   rfl
theorem bB.put (h:bB B w pb s p g j m c k a wd vC vP vM) {p' j' m' c':Nat} (hg:nB B w s p' g j' m' c'):bB B (w.setCell ⟨pb,0,none⟩ (.slice (some ⟨g,j' * 2,none⟩) (m'+1) (c'+1))) pb s p' g j' m' c' k a wd vC vP vM:=
 ⟨h.box.set0 _,h.high,h.box.row hg.row (by decide) _ _,hg.len,hg.drop,hg.le⟩
end
structure Qlp (B:Nat) (w w1:World) (s:ByteArray) (p g:Nat) (v rest:Value) (f q j m c:Nat) (rs:List Int) (wr:World):Prop where
 gl:nB B w s q g j m c
 rst:rest=.slice (some ⟨g,j * 2,none⟩) (m+1) (c+1)
 row:wr.ownsRow w1.heap.size 21 1 v rs.length (rs.map (Value.int .i32))
 far:Below w1.heap.size w1 wr
 quo:mC s p=eI s f (runesBytes rs) q
 fuel:s.size≤q+f
 ok:oN rs
 few:rs.length≤q
theorem aE6 {W:World} {B:Nat} {g2 vc:Nat} {rs:List Int} (hr:W.ownsRow B 21 1 (.slice (some ⟨g2,0,none⟩) rs.length vc) rs.length (rs.map (Value.int .i32))) :
  (convert 144 9 (.slice (some ⟨g2,0,none⟩) rs.length vc)).run Tryz.prog W=.ok (.string (runesBytes rs)) W:=by
 have h:=run_convert_runes (P:=Tryz.prog) W 144 9 21 ⟨g2,0,none⟩ rs.length vc rs (by omega) Tryz.underlying144 (by kernel_rfl) (by kernel_rfl) (fun i hi=>by
  have:=hr.cellAt i (by omega)
  rw [List.getElem?_map,List.getElem?_eq_getElem hi,Option.map_some] at this
  rw [show (⟨g2,0,none⟩ : Addr).add i=⟨g2,i,none⟩ by simp [Addr.add];omega,this]
  simp [List.getD,hi])
 rw [h,List.take_of_length_le (by omega)]
def qV (B pb:Nat) (s:ByteArray) (p g j m c:Nat) (k a:Int) (wd:ByteArray) (vC vP vM:Value) (w:World) (e:Ending) (w':World):Prop:=
 w.grownBy w' (some pb)∧
  match mC s p with
  | none=>e=.returned (eQ (-2) p ⟨#[]⟩)∧bB B w' pb s p g j m c k a wd vC vP vM
  | some (n,e')=>e=.returned (eQ 97 p n)∧∃j' m' c',bB B w' pb s e' g j' m' c' k a wd vC vP vM
theorem qV.bad {B pb:Nat} {s:ByteArray} {p g j m c:Nat} {k a:Int} {wd:ByteArray} {vC vP vM:Value} {w w':World} (h:bB B w pb s p g j m c k a wd vC vP vM) (hb:Below w.heap.size w w') (hq:mC s p=none):qV B pb s p g j m c k a wd vC vP vM w (.returned (eQ (-2) p ⟨#[]⟩)) w':=by
 refine ⟨kX hb _,?_⟩
 rw [hq]
 exact ⟨rfl,h.below hb⟩
section
variable {B:Nat} {pb:Nat} {s:ByteArray} {p g j m c:Nat} {k a:Int} {wd:ByteArray} {vC vP vM:Value}
set_option maxHeartbeats 3000000 in
theorem aE7 {w:World} (h:bB B w pb s p g j m c k a wd vC vP vM) (hs:s.size≤3000) (h39:aM s p=39) :
  Calls Tryz.prog 70 #[.pointer (some ⟨pb,0,none⟩)] w fun e w'=>qV B pb s p g j m c k a wd vC vP vM w e w':=by
 have hp0:p < s.size:=Classical.byContradiction fun hn=>by rw [lX s p hn] at h39;omega
 have hw1:fL s p=1:=(kC s p hp0 (by have:=(eC s p hp0 39 (by omega)).1 h39;omega)).2
 obtain ⟨iR,hR,hR0,hR1,hR2⟩:=info_parts aE2
 obtain ⟨m0,c0,rfl,rfl,hG0⟩:=h.gl.more hp0
 rw [hw1] at hG0
 have d0:=h.box.c0
 have e0:∀o,(w.alloc o).cell? ⟨pb,0,none⟩=some (.slice (some ⟨g,j * 2,none⟩) (m0+1+1) (c0+1+1)):=fun o=>Below.at' ((Below.refl _ w).alloc (Nat.le_refl _) o) (Nat.le_refl _) d0
 have HB0:Hid (∀o,Below w.heap.size w (w.alloc o)):=aA fun o=>(Below.refl _ _).alloc (Nat.le_refl _) o
 have HX0:Hid (∀o,(w.alloc o).heap[w.heap.size]?=some o∧(w.alloc o).heap.size=w.heap.size+1):=aA fun o=>⟨by show (w.heap.push _)[w.heap.size]?=_;simp,by simp⟩
 have HS:=aA h
 have hpb:=h.box.lt
 have HG0:=aA hG0
 clear h d0 hG0
 go_enter Tryz.func70,Tryz.ntmps70
 go_wp2
 have hb1:=HB0.out (.cells #[.int .i32 0,.int .i64 0,.string ⟨#[]⟩] 59)
 have HS1:=aA (HS.out.below hb1)
 obtain ⟨hx1,hz1⟩:=HX0.out (.cells #[.int .i32 0,.int .i64 0,.string ⟨#[]⟩] 59)
 have HB1:=aA hb1
 have HX1:=aA hx1
 clear hb1 hx1 HB0 HX0
 generalize w.alloc (.cells #[.int .i32 0,.int .i64 0,.string ⟨#[]⟩] 59)=w1 at *
 have hrb:w.heap.size < w1.heap.size:=by omega
 obtain ⟨rb,hrbe⟩ : ∃rb,w.heap.size=rb:=⟨_,rfl⟩
 rw [hrbe] at hrb HX1 hpb
 simp only [hrbe]
 have HRB:=aA hrbe
 clear hrbe hz1 e0
 go_loopg [3,4] s.size (fun f v rest wr=>∃q j' m' c' rs,Qlp B w w1 s p g v rest f q j' m' c' rs wr)
 case atStart=>exact ⟨p+1,j+1,m0,c0,[],HG0.out,by rw [show (j+1) * 2=j * 2+2 by omega],World.ownsRow_nil _ _ _ _,Below.refl _ _,rfl,by omega,oN.nil,by simp⟩
 case round=>
  obtain ⟨q,jq,mq,cq,rs,hL⟩:=hrel
  have hrst:=hL.rst
  subst hrst
  have hGr:=(hL.gl.below HB1.out).below hL.far
  have a0:=hGr.at0.1
  have hqle:=hL.gl.le
  have hfuel:=hL.fuel
  have hfew:=hL.few
  have hfs:=hL.far.size
  have HL:=aA hL
  have HBW:Hid (Below w.heap.size w wr):=aA (HB1.out.trans (hL.far.mono HB1.out.size))
  have HXR:Hid (wr.heap[rb]?=some (.cells #[.int .i32 0,.int .i64 0,.string ⟨#[]⟩] 59)):=aA ((hL.far.block rb hrb).trans HX1.out)
  have HSR:=aA (HS1.out.below hL.far)
  by_cases c39:aM s q=39
  ·obtain ⟨hlt,hqe⟩:=aNi (rs:=rs) hfuel c39
   have hname:=hL.ok.name
   rw [c39] at a0
   by_cases hn:1≤rs.length∧rs.length≤20
   ·have HYES:Hid (mC s p=some (runesBytes rs,q+1)):=aA (by rw [hL.quo,hqe,hname,decide_eq_true hn.1,decide_eq_true hn.2];rfl)
    obtain ⟨m2,c2,rfl,rfl,hG2⟩:=hL.gl.more hlt
    have hw1q:fL s q=1:=(kC s q hlt (by have:=(eC s q hlt 39 (by omega)).1 c39;omega)).2
    rw [hw1q] at hG2
    obtain ⟨g2,vc2,rfl⟩:=sM hL.row (by omega)
    have hn0:((rs.length:Int) == 0)=false:=by rw [beq_eq_false_iff_ne];omega
    have hn20:decide ((20:Int) < (rs.length:Int))=false:=by simp;omega
    have v0:=HSR.out.box.c0
    have v1:=HSR.out.at0.2
    have v0A:∀o,(wr.alloc o).cell? ⟨pb,0,none⟩=some (.slice (some ⟨g,j * 2,none⟩) (m0+1+1) (c0+1+1)):=fun o=>Below.at' ((Below.refl wr.heap.size wr).alloc (Nat.le_refl _) o) (Nat.le_refl _) v0
    have v1A:∀o,(wr.alloc o).cell? ⟨g,j * 2+1,none⟩=some (.int .i64 p):=fun o=>Below.at' ((Below.refl wr.heap.size wr).alloc (Nat.le_refl _) o) (Nat.le_refl _) v1
    have hcv:=aE6 (W:=wr.drew) hL.row
    have hcvA:=fun o=>aE6 (W:=(wr.alloc o).drew) (World.ownsRow.alloc (w:=wr) hL.row o)
    have hpos:(0:Int) < (m0:Int)+1+1:=by omega
    have HG2:=aA hG2
    have hzz:rb < wr.heap.size:=by omega
    clear hL hGr hG2 hqe hname
    go_upto_region 18 with (fail)
    go_region
    have hz9:Below wr.heap.size wr (wr.alloc (.cells #[.int .i32 97,.int .i64 p,.string (runesBytes rs)] 59)).drew:=((Below.refl wr.heap.size wr).alloc (Nat.le_refl _) _).trans ((aJ (w1:=(wr.alloc (.cells #[.int .i32 97,.int .i64 p,.string (runesBytes rs)] 59)).drew) ⟨1,rfl⟩).mono (by simp))
    have hS9:=HSR.out.below hz9
    have hX9:=(hz9.block rb hzz).trans HXR.out
    have hT9:(wr.alloc (.cells #[.int .i32 97,.int .i64 p,.string (runesBytes rs)] 59)).drew.heap[wr.heap.size]?=some (.cells #[.int .i32 97,.int .i64 p,.string (runesBytes rs)] 59):=by show (wr.heap.push _)[wr.heap.size]?=_;simp
    have hb9:=HBW.out.trans (hz9.mono HBW.out.size)
    generalize (wr.alloc (.cells #[.int .i32 97,.int .i64 p,.string (runesBytes rs)] 59)).drew=Y at *
    generalize wr.heap.size=tb at *
    have y0:=hS9.box.c0
    have yf:=hS9.box.soft 0
    have HB9:=aA hb9
    have hrt:rb≠tb:=by omega
    have hpr:pb≠rb:=by omega
    have hpt:pb≠tb:=by omega
    have cY:∀u,(Y.setCell ⟨pb,0,none⟩ u).heap[rb]?=some (.cells #[.int .i32 0,.int .i64 0,.string ⟨#[]⟩] 59)∧(Y.setCell ⟨pb,0,none⟩ u).heap[tb]?=some (.cells #[.int .i32 97,.int .i64 p,.string (runesBytes rs)] 59):=fun u=>⟨by rw [Below.heap_setCell _ _ _ _ hpr.symm];exact hX9,by rw [Below.heap_setCell _ _ _ _ hpt.symm];exact hT9⟩
    have z0:∀u,(Y.setCell ⟨pb,0,none⟩ u).cell? ⟨rb,0,none⟩=some (.int .i32 0):=fun u=>by simp [World.cell?,(cY u).1]
    have z1:∀u,(Y.setCell ⟨pb,0,none⟩ u).cell? ⟨rb,1,none⟩=some (.int .i64 0):=fun u=>by simp [World.cell?,(cY u).1]
    have z2:∀u,(Y.setCell ⟨pb,0,none⟩ u).cell? ⟨rb,2,none⟩=some (.string ⟨#[]⟩):=fun u=>by simp [World.cell?,(cY u).1]
    have z3:∀u i,(Y.setCell ⟨pb,0,none⟩ u).frozen? ⟨rb,i,none⟩=false:=fun u i=>by simp [World.frozen?,(cY u).1]
    have z4:∀u,(Y.setCell ⟨pb,0,none⟩ u).cell? ⟨tb,0,none⟩=some (.int .i32 97):=fun u=>by simp [World.cell?,(cY u).2]
    have z5:∀u,(Y.setCell ⟨pb,0,none⟩ u).cell? ⟨tb,1,none⟩=some (.int .i64 p):=fun u=>by simp [World.cell?,(cY u).2]
    have z6:∀u,(Y.setCell ⟨pb,0,none⟩ u).cell? ⟨tb,2,none⟩=some (.string (runesBytes rs)):=fun u=>by simp [World.cell?,(cY u).2]
    clear cY hS9 hX9 hT9 hb9
    have zz0:=fun u=>gB (v:=.int .i32 97) (z0 u)
    go_wp2
    refine bodyPost_ret (by simp [results,Tryz.results70,go_sem,zz0,z1,z2];try rfl) rfl ?_
    have hP:=HS.out.put HG2.out
    rw [show (jq+1) * 2=jq * 2+2 by omega] at hP
    have hY:Below (w.setCell ⟨pb,0,none⟩ (.slice (some ⟨g,jq * 2+2,none⟩) (m2+1) (c2+1))).heap.size (w.setCell ⟨pb,0,none⟩ (.slice (some ⟨g,jq * 2+2,none⟩) (m2+1) (c2+1))) (Y.setCell ⟨pb,0,none⟩ (.slice (some ⟨g,jq * 2+2,none⟩) (m2+1) (c2+1))):=zM HB9.out (HS.out.box.lt) _
    have hrw:(w.setCell ⟨pb,0,none⟩ (.slice (some ⟨g,jq * 2+2,none⟩) (m2+1) (c2+1))).heap.size≤rb:=by rw [←HRB.out];simp [World.setCell]
    have hf2:=eJ (eJ (eJ hY (p:=⟨rb,0,none⟩) hrw (.int .i32 97)) (p:=⟨rb,1,none⟩) hrw (.int .i64 p)) (p:=⟨rb,2,none⟩) hrw (.string (runesBytes rs))
    have hg0:w.grownBy (w.setCell ⟨pb,0,none⟩ (.slice (some ⟨g,jq * 2+2,none⟩) (m2+1) (c2+1))) (some pb):=cB _ _ _
    refine ⟨hg0.trans (kX hf2 _),?_⟩
    rw [HYES.out]
    exact ⟨rfl,_,_,_,hP.below hf2⟩
   ·have HNO:Hid (mC s p=none):=aA (by
     rw [hL.quo,hqe,hname,if_neg]
     intro e
     simp only [Bool.and_eq_true,decide_eq_true_eq] at e
     exact hn e)
    have CB:=aA (rY HSR.out)
    unfold eQ at CB
    obtain ⟨va,vc,rfl⟩:=aR hL.row
    clear hL hGr hqe hname
    by_cases hz:rs.length=0
    ·have hn0:((rs.length:Int) == 0)=true:=by rw [hz];rfl
     go_wp2_with (first
      | (go_at_call 73;refine (aB CB).mono ?_;rintro e w3 ⟨rfl,hb3⟩;have hx3:=(hb3.block rb (by omega)).trans HXR.out;have HB3:=aA hb3;have t0:w3.cell? ⟨rb,0,none⟩=some (.int .i32 0):=(by simp [World.cell?,hx3]);have t1:w3.cell? ⟨rb,1,none⟩=some (.int .i64 0):=(by simp [World.cell?,hx3]);have t2:w3.cell? ⟨rb,2,none⟩=some (.string ⟨#[]⟩):=(by simp [World.cell?,hx3]);have tt0:=gB (v:=.int .i32 (-2)) t0;have t3:∀i,w3.frozen? ⟨rb,i,none⟩=false:=(fun i=>by simp [World.frozen?,hx3]);clear hb3 hx3)
      | go_in)
     refine bodyPost_ret (by simp [results,Tryz.results70,go_sem,tt0,t1,t2];try rfl) rfl ?_
     have hfin:Below w.heap.size w w3:=HBW.out.trans (HB3.out.mono HBW.out.size)
     have hrw:w.heap.size≤rb:=by rw [HRB.out];exact Nat.le_refl _
     have hf2:=eJ (eJ (eJ hfin (p:=⟨rb,0,none⟩) hrw (.int .i32 (-2))) (p:=⟨rb,1,none⟩) hrw (.int .i64 p)) (p:=⟨rb,2,none⟩) hrw (.string ⟨#[]⟩)
     exact qV.bad HS.out hf2 HNO.out
    ·have hn0:((rs.length:Int) == 0)=false:=by rw [beq_eq_false_iff_ne];omega
     have hn20:(20:Int) < (rs.length:Int):=by omega
     go_wp2_with (first
      | (go_at_call 73;refine (aB CB).mono ?_;rintro e w3 ⟨rfl,hb3⟩;have hx3:=(hb3.block rb (by omega)).trans HXR.out;have HB3:=aA hb3;have t0:w3.cell? ⟨rb,0,none⟩=some (.int .i32 0):=(by simp [World.cell?,hx3]);have t1:w3.cell? ⟨rb,1,none⟩=some (.int .i64 0):=(by simp [World.cell?,hx3]);have t2:w3.cell? ⟨rb,2,none⟩=some (.string ⟨#[]⟩):=(by simp [World.cell?,hx3]);have tt0:=gB (v:=.int .i32 (-2)) t0;have t3:∀i,w3.frozen? ⟨rb,i,none⟩=false:=(fun i=>by simp [World.frozen?,hx3]);clear hb3 hx3)
      | go_in)
     refine bodyPost_ret (by simp [results,Tryz.results70,go_sem,tt0,t1,t2];try rfl) rfl ?_
     have hfin:Below w.heap.size w w3:=HBW.out.trans (HB3.out.mono HBW.out.size)
     have hrw:w.heap.size≤rb:=by rw [HRB.out];exact Nat.le_refl _
     have hf2:=eJ (eJ (eJ hfin (p:=⟨rb,0,none⟩) hrw (.int .i32 (-2))) (p:=⟨rb,1,none⟩) hrw (.int .i64 p)) (p:=⟨rb,2,none⟩) hrw (.string ⟨#[]⟩)
     exact qV.bad HS.out hf2 HNO.out
  ·by_cases c92:aM s q=92
   ·have hlt:q < s.size:=Classical.byContradiction fun hn=>by rw [lX s q hn] at c92;omega
    obtain ⟨m2,c2,rfl,rfl,hG2⟩:=hL.gl.more hlt
    obtain ⟨f',rfl⟩ : ∃f',gk=f'+1:=⟨gk - 1,by omega⟩
    have hw1q:fL s q=1:=(kC s q hlt (by have:=(eC s q hlt 92 (by omega)).1 c92;omega)).2
    rw [hw1q] at hG2
    have HQ:=aA (aNl (rs:=rs) (f:=f') hlt c92)
    have a1:=((hG2.below HB1.out).below hL.far).at0.1
    rw [show (jq+1) * 2=jq * 2+2 by omega] at a1
    have CE:=aA (fun wx=>aPt (aM s (q+1)) wx)
    rw [c92] at a0
    cases hesc:mE (aM s (q+1))
    ·rw [hesc] at CE HQ
     have HNO:Hid (mC s p=none):=aA (by rw [hL.quo,HQ.out];rfl)
     have CB:=aA (rY HSR.out)
     unfold eQ at CB
     clear hL hGr hG2 c39 c92 hesc
     generalize aM s (q+1)=cc at *
     go_wp2_with (first
      | (go_at_call 102;refine (aB CE _).mono ?_;rintro e w2 ⟨rfl,rfl⟩)
      | (go_at_call 73;refine (aB CB).mono ?_;rintro e w3 ⟨rfl,hb3⟩;have hx3:=(hb3.block rb (by omega)).trans HXR.out;have HB3:=aA hb3;have t0:w3.cell? ⟨rb,0,none⟩=some (.int .i32 0):=(by simp [World.cell?,hx3]);have t1:w3.cell? ⟨rb,1,none⟩=some (.int .i64 0):=(by simp [World.cell?,hx3]);have t2:w3.cell? ⟨rb,2,none⟩=some (.string ⟨#[]⟩):=(by simp [World.cell?,hx3]);have tt0:=gB (v:=.int .i32 (-2)) t0;have t3:∀i,w3.frozen? ⟨rb,i,none⟩=false:=(fun i=>by simp [World.frozen?,hx3]);clear hb3 hx3)
      | go_in)
     refine bodyPost_ret (by simp [results,Tryz.results70,go_sem,tt0,t1,t2];try rfl) rfl ?_
     have hfin:Below w.heap.size w w3:=HBW.out.trans (HB3.out.mono HBW.out.size)
     have hrw:w.heap.size≤rb:=by rw [HRB.out];exact Nat.le_refl _
     have hf2:=eJ (eJ (eJ hfin (p:=⟨rb,0,none⟩) hrw (.int .i32 (-2))) (p:=⟨rb,1,none⟩) hrw (.int .i64 p)) (p:=⟨rb,2,none⟩) hrw (.string ⟨#[]⟩)
     exact qV.bad HS.out hf2 HNO.out
    ·rw [hesc] at CE HQ
     have h3992:aM s (q+1)=39∨aM s (q+1)=92:=by unfold mE at hesc;simpa using hesc
     have hlt1:q+1 < s.size:=Classical.byContradiction fun hn=>by rw [lX s (q+1) hn] at h3992;omega
     obtain ⟨m3,c3,rfl,rfl,hG3⟩:=hG2.more hlt1
     have hw2q:fL s (q+1)=1:=(kC s (q+1) hlt1 (by have e1:=eC s (q+1) hlt1 39 (by omega);have e2:=eC s (q+1) hlt1 92 (by omega);rcases h3992 with e | e;have:=e1.1 e;omega;have:=e2.1 e;omega)).2
     rw [hw2q] at hG3
     have HOK:=aA (hL.ok.more hlt1 (by omega) (by omega))
     obtain ⟨va,vc,rfl⟩:=aR hL.row
     have HR:=aA hL.row
     have HG3:=aA hG3
     clear hL hGr hG2 hG3 c39 c92 hesc
     generalize aM s (q+1)=cc at *
     have b10:(cc == 10)=false:=by rw [beq_eq_false_iff_ne];omega
     have b2:(cc == -2)=false:=by rw [beq_eq_false_iff_ne];omega
     have b1:(cc == -1)=false:=by rw [beq_eq_false_iff_ne];omega
     go_wp2_with (first
      | (go_at_call 102;refine (aB CE _).mono ?_;rintro e w2 ⟨rfl,rfl⟩)
      | (at_builtin;refine wpList_append_own _ rfl (.tmp 37) (.tmp 39) 144 rfl w1.heap.size 21 iR (.int .i32 0) 1 4 Tryz.underlying144 hR hR0 hR1 hR2 rfl (by decide) _ _ _ rfl (HR.out.alloc _) ⟨_,0,none⟩ 1 1 [.int .i32 cc] rfl rfl (oH _ _ _ _ rfl) (zN _) (by unfold maxLen;omega) (by omega) (by simp;omega) ?_;intro v3 w3 ho3 hg3 _;have HO3:=aA ho3;have HGW:=aA hg3;obtain ⟨va3,vc3,rfl⟩:=aR ho3;clear ho3 hg3)
      | go_in)
     go_roundg f'
     case measure=>omega
     case rel=>exact ⟨q+1+1,jq+1+1,m3,c3,rs++[cc],HG3.out,by rw [show (jq+1+1) * 2=jq * 2+2+2 by omega],by rw [List.map_append,List.length_append];exact HO3.out,(HL.out.far.alloc HL.out.far.size _).grown HGW.out (Nat.le_trans HL.out.far.size (by simp)) (fun k e=>(bY HR.out k e).1),by rw [HL.out.quo,HQ.out];rfl,by omega,HOK.out,by simp;omega⟩
   ·by_cases cb:aM s q=10∨aM s q=-2∨aM s q=-1
    ·have HNO:Hid (mC s p=none):=aA (by rw [hL.quo,aNj hfuel c39 c92 cb])
     have CB:=aA (rY HSR.out)
     unfold eQ at CB
     clear hL hGr
     rcases cb with e | e | e
     all_goals
      rw [e] at a0
      clear e c39 c92
      go_wp2_with (first
       | (go_at_call 73;refine (aB CB).mono ?_;rintro e w3 ⟨rfl,hb3⟩;have hx3:=(hb3.block rb (by omega)).trans HXR.out;have HB3:=aA hb3;have t0:w3.cell? ⟨rb,0,none⟩=some (.int .i32 0):=(by simp [World.cell?,hx3]);have t1:w3.cell? ⟨rb,1,none⟩=some (.int .i64 0):=(by simp [World.cell?,hx3]);have t2:w3.cell? ⟨rb,2,none⟩=some (.string ⟨#[]⟩):=(by simp [World.cell?,hx3]);have tt0:=gB (v:=.int .i32 (-2)) t0;have t3:∀i,w3.frozen? ⟨rb,i,none⟩=false:=(fun i=>by simp [World.frozen?,hx3]);clear hb3 hx3)
       | go_in)
      refine bodyPost_ret (by simp [results,Tryz.results70,go_sem,tt0,t1,t2];try rfl) rfl ?_
      have hfin:Below w.heap.size w w3:=HBW.out.trans (HB3.out.mono HBW.out.size)
      have hrw:w.heap.size≤rb:=by rw [HRB.out];exact Nat.le_refl _
      have hf2:=eJ (eJ (eJ hfin (p:=⟨rb,0,none⟩) hrw (.int .i32 (-2))) (p:=⟨rb,1,none⟩) hrw (.int .i64 p)) (p:=⟨rb,2,none⟩) hrw (.string ⟨#[]⟩)
      exact qV.bad HS.out hf2 HNO.out
    ·have hlt:q < s.size:=Classical.byContradiction fun hn=>cb (Or.inr (Or.inr (lX s q hn)))
     obtain ⟨m2,c2,rfl,rfl,hG2⟩:=hL.gl.more hlt
     obtain ⟨f',rfl⟩ : ∃f',gk=f'+1:=⟨gk - 1,by omega⟩
     have hn10:aM s q≠10:=fun e=>cb (Or.inl e)
     have hn2:aM s q≠-2:=fun e=>cb (Or.inr (Or.inl e))
     have hn1:aM s q≠-1:=fun e=>cb (Or.inr (Or.inr e))
     have HQ:=aA (aNk (rs:=rs) (f:=f') hlt c39 c92 hn10 hn2)
     have HOK:=aA (hL.ok.more hlt hn2 hn10)
     have hwp:=tQ s q
     obtain ⟨va,vc,rfl⟩:=aR hL.row
     have HR:=aA hL.row
     have HG2:=aA hG2
     clear hL hGr hG2 cb
     generalize aM s q=cc at *
     have b39:(cc != 39)=true:=by simpa using c39
     have b92:(cc == 92)=false:=by simpa using c92
     have b10:(cc == 10)=false:=by simpa using hn10
     have b2:(cc == -2)=false:=by simpa using hn2
     have b1:(cc == -1)=false:=by simpa using hn1
     go_wp2_with (first
      | (at_builtin;refine wpList_append_own _ rfl (.tmp 37) (.tmp 39) 144 rfl w1.heap.size 21 iR (.int .i32 0) 1 4 Tryz.underlying144 hR hR0 hR1 hR2 rfl (by decide) _ _ _ rfl (HR.out.alloc _) ⟨_,0,none⟩ 1 1 [.int .i32 cc] rfl rfl (oH _ _ _ _ rfl) (zN _) (by unfold maxLen;omega) (by omega) (by simp;omega) ?_;intro v3 w3 ho3 hg3 _;have HO3:=aA ho3;have HG3:=aA hg3;obtain ⟨va3,vc3,rfl⟩:=aR ho3;clear ho3 hg3)
      | go_in)
     go_roundg f'
     case measure=>omega
     case rel=>exact ⟨q+fL s q,jq+1,m2,c2,rs++[cc],HG2.out,by rw [show (jq+1) * 2=jq * 2+2 by omega],by rw [List.map_append,List.length_append];exact HO3.out,(HL.out.far.alloc HL.out.far.size _).grown HG3.out (Nat.le_trans HL.out.far.size (by simp)) (fun k e=>(bY HR.out k e).1),by rw [HL.out.quo,HQ.out],by omega,HOK.out,by simp;omega⟩
end
end Go.Proofs.YtbddofieljiihaaGreatDoor
