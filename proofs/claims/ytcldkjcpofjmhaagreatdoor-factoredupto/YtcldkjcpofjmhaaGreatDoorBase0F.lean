import Derived.Test.YtcldkjcpofjmhaaGreatDoorChecked
import Derived.WalkKit
import Derived.WalkSpells
import Derived.WalkLawsBesides
import Derived.Laws.StructEq
import Derived.Deep.QuietTactic
import Derived.BigQuiet
open List renaming take_succ_eq_append_getElem→zv,drop_eq_getElem_cons→zs,take_of_length_le→zn,length_append→zl,all_eq_true→zj,range→zg
open Nat renaming le_refl→zx,lt_of_lt_of_le→zr
open Or renaming inr→zm,inl→zh
namespace Go.Proofs.YtcldkjcpofjmhaaGreatDoor
open _root_.Go.Proofs.Tryz renaming prog→zz,ntmps101→zu,func101→zt,underlying37→zp
open Value renaming int→zy,ownBlock→zw
open World renaming setCell→zo,drewN_drewN→zk
set_option maxHeartbeats 2000000
set_option maxRecDepth 100000
variable{s:ByteArray}{sn:List Int}{xs:List Value}{B B' n size:Nat}{a:Option Addr}{T e:TypeId}{o sv v v':Value}{w w' w1:World}
section
open Go.RowKit
theorem aA{p:Prop}(h:p):Hid p:=h
theorem aB{p:Prop}(h:Hid p):p:=h
theorem kM{k:IntKind}{a b:Int}(h:a=b):Ending.returned (.int k a)=.returned (.int k b):=by rw [h]
theorem cI{a b:Bool}(h:a=b):Ending.returned (.bool a)=.returned (.bool b):=by rw [h]
theorem jZ(w:World)(n m:Nat):∃k,(w.drewN n).drewN m=w.drewN k:=⟨_,zk _ _ _⟩
theorem rP{w2:World}(h:∃n,w1=w.drewN n)(k:∃n,w2=w1.drewN n):∃n,w2=w.drewN n:=by obtain ⟨n,rfl⟩:=h;obtain ⟨m,rfl⟩:=k;exact ⟨_,zk _ _ _⟩
theorem aI(h:∃n,w1=w.drewN n):Below w.heap.size w w1:=by obtain ⟨n,rfl⟩:=h;exact ⟨rfl,rfl,rfl,zx _,λ_ _=>rfl⟩
theorem Below.at'(h:Below B w w1)(hB:w.heap.size<=B){a:Addr}{v:Value}(hc:w.cell? a=some v):w1.cell? a=some v:=
 (h.cell (zr (World.block_lt_of_cell? w a hc) hB)).trans hc
abbrev Nd:=ByteArray×Int
abbrev Lt:=Bool×List Nd
structure cU(w:World)(a:Option Addr)(l:List Nd):Prop where
 few:l.length<=5864062014805
 short:∀k (h:k<l.length),l[k].1.size<=140737488355328
 cell:∀k (h:k<l.length),∃b o,a=some ⟨b,o,none⟩/\w.cell? ⟨b,o+k*2,none⟩=some (.string l[k].1)/\w.cell? ⟨b,o+k*2+1,none⟩=some (.int .i64 l[k].2)
structure bE(w:World)(a:Option Addr)(c:List Lt):Prop where
 few:c.length<=4398046511104
 cell:∀k (h:k<c.length),∃b o aa cap,a=some ⟨b,o,none⟩/\w.cell? ⟨b,o+k*2,none⟩=some (.bool c[k].1)/\w.cell? ⟨b,o+k*2+1,none⟩=some (.slice aa c[k].2.length cap)/\cU w aa c[k].2
theorem cU.below{l:List Nd}(h:cU w a l){B:Nat}(k:Below B w w1)(hB:w.heap.size<=B):cU w1 a l:=
 ⟨h.few,h.short,λj hj=>by obtain ⟨b,o,h1,h2,h3⟩:=h.cell j hj;exact ⟨b,o,h1,Below.at' k hB h2,Below.at' k hB h3⟩⟩
theorem bE.below{l:List Lt}(h:bE w a l){B:Nat}(k:Below B w w1)(hB:w.heap.size<=B):bE w1 a l:=
 ⟨h.few,λj hj=>by obtain ⟨b,o,aa,cap,h1,h2,h3,h4⟩:=h.cell j hj;exact ⟨b,o,aa,cap,h1,Below.at' k hB h2,Below.at' k hB h3,h4.below k hB⟩⟩
theorem cU.drawn{l:List Nd}(h:cU w a l)(k:∃n,w1=w.drewN n):cU w1 a l:=h.below (aI k) (zx _)
theorem bE.drawn{l:List Lt}(h:bE w a l)(k:∃n,w1=w.drewN n):bE w1 a l:=h.below (aI k) (zx _)
theorem cU.drewN{l:List Nd}(h:cU w a l)(n:Nat):cU (w.drewN n) a l:=h.drawn ⟨n,rfl⟩
theorem bE.drewN{l:List Lt}(h:bE w a l)(n:Nat):bE (w.drewN n) a l:=h.drawn ⟨n,rfl⟩
theorem aMl:zz.stoodInHeld 36=false:=by kernel_rfl
theorem tJ:zz.eqGuardType zz.depth 36=false:=by kernel_rfl
theorem aMm:zz.underlying 36=some (.struct (zz.fieldsOf 36)):=by kernel_rfl
def yL(s:ByteArray)(a:Int)(t:ByteArray)(b:Int):Bool:=s.toList == t.toList && a == b
theorem aB7{t:ByteArray}:s.toList=t.toList↔s=t:=by rw [ByteArray.toList_eq,ByteArray.toList_eq];obtain ⟨⟨x⟩⟩:=s;obtain ⟨⟨y⟩⟩:=t;simp
theorem rQ(x y:ByteArray×Int):yL x.1 x.2 y.1 y.2=decide (x=y):=by rw [Bool.eq_iff_iff];simp [yL,aB7,Prod.ext_iff]
theorem rR(s t:ByteArray)(a b:Int)(w:World):(Op.equalIn 10000 36 (.agg #[.string s,.int .i64 a]) (.agg #[.string t,.int .i64 b])).run zz w=.ok (yL s a t b) w:=by unfold yL;rw [show (10000:Nat)=9999+1 from rfl,run_equalIn_agg w 9999 36 _ _ aMm aMl];simp only [Program.fieldsOf,Tryz.underlying36];go_simp;cases h1:(s.toList == t.toList) <;> cases h2:(a == b) <;> simp_all
structure dQ(B:Nat)(T:TypeId)(w w':World):Prop where
 os:w'.os=w.os
 tape:w'.tape=w.tape
 output:w'.output=w.output
 size:w.heap.size<=w'.heap.size
 block:∀k,k<w.heap.size->(k<B\/∀cs fr,w.heap[k]?≠some (.cells cs T fr))->w'.heap[k]?=w.heap[k]?
theorem dQ.refl(B:Nat)(T:TypeId)(w:World):dQ B T w w:=⟨rfl,rfl,rfl,zx _,λ_ _ _=>rfl⟩
theorem dQ.trans{B:Nat}{T:TypeId}{a b c:World}(h:dQ B T a b)(k:dQ B T b c):dQ B T a c:=
 ⟨k.os.trans h.os,k.tape.trans h.tape,k.output.trans h.output,Nat.le_trans h.size k.size,λi hi hc=>by
  have e:=h.block i hi hc;rw [k.block i (zr hi h.size) (by rw [e];exact hc),e]⟩
theorem dQ.of_below(h:Below w.heap.size w w'):dQ B T w w':=⟨h.os,h.tape,h.output,h.size,λk hk _=>h.block k hk⟩
theorem dQ.below(h:dQ B T w w')(hB:B<=w.heap.size):Below B w w':=⟨h.os,h.tape,h.output,h.size,λk hk=>h.block k (by omega) (zh hk)⟩
theorem dQ.alloc{a:World}(h:dQ B T a w)(o:Obj):dQ B T a (w.alloc o):=h.trans (.of_below ((Below.refl _ _).alloc (zx _) o))
theorem dQ.setCell{a:World}(h:dQ B T a w){p:Addr}(hp:a.heap.size<=p.block)(u:Value):dQ B T a (w.setCell p u):=
 ⟨h.os,h.tape,h.output,by have:=h.size;simpa [zo] using this,λk hk hc=>by
  rw [Below.heap_setCell _ _ _ _ (by omega)];exact h.block k hk hc⟩
theorem dQ.drawn{a:World}(h:dQ B T a w)(k:∃n,w1=w.drewN n):dQ B T a w1:=h.trans (.of_below (aI k))
theorem dQ.grownOwn{a:World}(h:dQ B T a w)(hg:w.grownBy w' v.ownBlock)(ho:w.ownsRow B T size v n xs):dQ B T a w':=by
 refine h.trans ⟨hg.os,hg.tape,hg.output,hg.size,λk hk hc=>hg.block k hk ?_⟩;intro e;obtain ⟨_,⟨rfl,_⟩ | ⟨g,cap,cur,rfl,hb,hh,_⟩⟩:=ho
 ·simp [zw] at e
 ·simp [zw] at e;subst e;rcases hc with hc | hc
  ·omega
  ·exact hc _ _ hh
theorem dQ.grownNew{a:World}(h:dQ B T a w)(hg:w.grownBy w' v.ownBlock)(ho:w.ownsRow B' e size v n xs)(hB:a.heap.size<=B'):dQ B T a w':=by
 refine ⟨hg.os.trans h.os,hg.tape.trans h.tape,hg.output.trans h.output,Nat.le_trans h.size hg.size,λk hk hc=>?_⟩;rw [hg.block k (zr hk h.size) ?_,h.block k hk hc];intro e;obtain ⟨_,⟨rfl,_⟩ | ⟨g,cap,cur,rfl,hb,hh,_⟩⟩:=ho
 ·simp [zw] at e
 ·simp [zw] at e;omega
theorem aT(h:w.ownsRow B e size v n xs):∀k,v.ownBlock=some k->B<=k/\k<w.heap.size:=World.ownsRow.lt h
theorem dQ.own(h:dQ B T w w')(he:e≠T)(ho:w.ownsRow B' e size v n xs):w'.ownsRow B' e size v n xs:=by
 obtain ⟨h1,⟨rfl,h2⟩ | ⟨g,cap,cur,rfl,hb,hh,hr⟩⟩:=ho
 ·exact ⟨h1,zh ⟨rfl,h2⟩⟩
 ·refine ⟨h1,zm ⟨g,cap,cur,rfl,hb,?_,hr⟩⟩;have hg:g<w.heap.size:=(Array.getElem?_eq_some_iff.1 hh).1;rw [h.block g hg (zm ?_),hh];intro cs fr hx;rw [hh] at hx;simp at hx;exact he hx.2.1
theorem bW{e':TypeId}{size':Nat}{n':Nat}{xs':List Value}(h:w.ownsRow B e size v n xs)(h':w.ownsRow B' e' size' v' n' xs')(he:e≠e'):v.ownBlock=none\/v.ownBlock≠v'.ownBlock:=by
 obtain ⟨_,⟨rfl,_⟩ | ⟨g,cap,cur,rfl,hb,hh,_⟩⟩:=h
 ·exact zh rfl
 ·obtain ⟨_,⟨rfl,_⟩ | ⟨g',cap',cur',rfl,hb',hh',_⟩⟩:=h'
  ·right;simp [zw]
  ·right;simp [zw];rintro rfl;rw [hh] at hh';simp at hh';exact he hh'.2
theorem aU(h:w.ownsRow B e size v n xs)(k:Below B' w w')(hB:w.heap.size<=B'):w'.ownsRow B e size v n xs:=by
 obtain ⟨h1,⟨rfl,h2⟩ | ⟨g,cap,cur,rfl,hb,hh,hr⟩⟩:=h
 ·exact ⟨h1,zh ⟨rfl,h2⟩⟩
 ·refine ⟨h1,zm ⟨g,cap,cur,rfl,hb,?_,hr⟩⟩;have hg:g<w.heap.size:=(Array.getElem?_eq_some_iff.1 hh).1;rw [k.block g (by omega),hh]
theorem dN(h:w.ownsRow B e size v n xs)(hB:B'<=B):w.ownsRow B' e size v n xs:=by
 obtain ⟨h1,⟨rfl,h2⟩ | ⟨g,cap,cur,rfl,hb,hr⟩⟩:=h
 ·exact ⟨h1,zh ⟨rfl,h2⟩⟩
 ·exact ⟨h1,zm ⟨g,cap,cur,rfl,by omega,hr⟩⟩
def aG(l:List Nd):List Value:=l.flatMap λn=>[.string n.1,.int .i64 n.2]
theorem qC(l:List Nd):(aG l).length=l.length*2:=by
 induction l with
 | nil=>rfl
 | cons x r ih=>simp [aG] at ih ⊢;omega
theorem rS(l:List Nd)(x:Nd):aG (l++[x])=aG l++[.string x.1,.int .i64 x.2]:=by simp [aG]
theorem tK(l:List Nd):∀k (h:k<l.length),(aG l)[k*2]?=some (.string l[k].1)/\(aG l)[k*2+1]?=some (.int .i64 l[k].2):=by
 induction l with
 | nil=>intro k h;simp at h
 | cons x r ih=>
  intro k h;cases k with
  | zero=>simp [aG]
  | succ k=>
   have:=ih k (by simpa using h);have e1:(k+1)*2=k*2+2:=by omega
   have e2:(k+1)*2+1=k*2+1+2:=by omega
   rw [e1];simp only [aG,List.flatMap_cons,List.cons_append,List.nil_append,List.getElem?_cons_succ,List.getElem_cons_succ] at this ⊢;exact this
theorem rT{l:List Nd}(h:w.ownsRow B 36 2 v l.length (aG l))(hf:l.length<=5864062014805)(hs:∀k (h:k<l.length),l[k].1.size<=140737488355328) :
  ∃a cap,v=.slice a l.length cap/\cU w a l:=by
 obtain ⟨h1,⟨rfl,h2⟩ | ⟨g,cap,cur,rfl,hb,hh,hc,hm,hz,ht⟩⟩:=h
 ·refine ⟨none,0,by rw [h2],⟨hf,hs,λk hk=>by omega⟩⟩
 ·have ho:w.ownsRow B 36 2 (.slice (some ⟨g,0,none⟩) l.length cap) l.length (aG l):=⟨h1,zm ⟨g,cap,cur,rfl,hb,hh,hc,hm,hz,ht⟩⟩;refine ⟨_,_,rfl,⟨hf,hs,λk hk=>⟨g,0,rfl,?_,?_⟩⟩⟩
  ·rw [Nat.zero_add,ho.cellAt (k*2) (by omega),(tK l k hk).1]
  ·rw [Nat.zero_add,ho.cellAt (k*2+1) (by omega),(tK l k hk).2]
end
section
open Go.RowKit
def aD(s:ByteArray)(i:Nat):Nat:=if h:i<s.size then (s[i]'h).toNat else 0
theorem gJ(s:ByteArray)(i:Nat)(h:i<s.size):aD s i=(s[i]'h).toNat:=dif_pos h
def cJ(b:Nat):Nat:=if b<128 then 1 else if b<194 then 0 else if b<224 then 2 else if b<240 then 3 else if b<245 then 4 else 0
def gM(b:Nat):Bool:=decide (128<=b) && decide (b<=191)
def pA(b c:Nat):Bool:=(decide (b=224) && decide (c<160)) || (decide (b=237) && decide (159<c)) || (decide (b=240) && decide (c<144)) || (decide (b=244) && decide (143<c))
theorem tL(b c:Nat):pA b c=true↔(b=224/\c<160)\/(b=237/\159<c)\/(b=240/\c<144)\/(b=244/\143<c):=by simp [pA,or_assoc]
def bC(s:ByteArray)(at':Nat):Nat:=
 let b:=aD s at';let z:=cJ b;if z<=1 then z
 else if s.size<at'+z then 0
 else if (zg z).all (λi=>i == 0 || gM (aD s (at'+i))) && !pA b (aD s (at'+1)) then z else 0
theorem rU(s:ByteArray)(p:Nat)(h:cJ (aD s p)<=1):bC s p=cJ (aD s p):=by simp [bC,h]
theorem yM(s:ByteArray)(p z:Nat)(hz:cJ (aD s p)=z)(h1:¬z<=1)(h:s.size<p+z):bC s p=0:=by subst hz;simp [bC,h1,h]
theorem wI(s:ByteArray)(p z i:Nat)(hz:cJ (aD s p)=z)(h1:¬z<=1)(hi:0<i)(hiz:i<z)(hc:gM (aD s (p+i))=false):bC s p=0:=by
 subst hz;have:((zg (cJ (aD s p))).all (λi=>i == 0 || gM (aD s (p+i))))=false:=by rw [Bool.eq_false_iff];intro h;rw [zj] at h;have:=h i (by simpa using hiz);simp [hc] at this;omega
 simp [bC,h1,this]
theorem yN(s:ByteArray)(p z:Nat)(hz:cJ (aD s p)=z)(h1:¬z<=1)(h:¬s.size<p+z)(hc:∀i,0<i->i<z->gM (aD s (p+i))=true) :
  bC s p=if pA (aD s p) (aD s (p+1)) then 0 else z:=by
 subst hz;have:((zg (cJ (aD s p))).all (λi=>i == 0 || gM (aD s (p+i))))=true:=by
  rw [zj];intro i hi;by_cases h0:i=0
  ·simp [h0]
  ·simp [hc i (by omega) (by simpa using hi)]
 simp only [bC,if_neg h1,if_neg h,this,Bool.true_and];cases pA (aD s p) (aD s (p+1)) <;> simp
theorem yO(s:ByteArray)(p:Nat)(h:p<s.size):p+bC s p<=s.size:=by
 by_cases h1:cJ (aD s p)<=1
 ·rw [rU s p h1];omega
 ·simp only [bC,if_neg h1];split
  ·omega
  ·split <;> omega
theorem aMn(s:ByteArray)(p:Nat)(w:World)(hp:p<s.size)(h2:aD s p<128) :
  Calls zz 101 #[.string s,.int .i64 p] w λe w'=>e=.returned (.int .i64 (bC s p))/\w'=w:=by
 have hz:cJ (aD s p)=1:=by unfold cJ;rw [if_pos h2]
 have HR:=aA (rU s p (by omega));have HZ:=aA hz;rw [gJ s p hp] at h2;clear hz;have g2:((s[p]'hp).toNat:Int)<128:=by omega
 go_enter zt,zu;go_wp2;go_ret;exact ⟨kM (by rw [HR.out,HZ.out];rfl),rfl⟩
theorem aMo(s:ByteArray)(p:Nat)(w:World)(hp:p<s.size)(h2:(128<=aD s p/\aD s p<194)\/245<=aD s p) :
  Calls zz 101 #[.string s,.int .i64 p] w λe w'=>e=.returned (.int .i64 (bC s p))/\w'=w:=by
 have hz:cJ (aD s p)=0:=by unfold cJ;split <;> (try split) <;> (try split) <;> (try split) <;> (try split) <;> omega
 have HR:=aA (rU s p (by omega));have HZ:=aA hz;rw [gJ s p hp] at h2;clear hz;have g2:((128:Int)<=((s[p]'hp).toNat:Int)/\((s[p]'hp).toNat:Int)<194)\/(245:Int)<=((s[p]'hp).toNat:Int):=by omega
 clear h2;rcases g2 with ⟨g1,g2⟩ | g2;all_goals
  go_enter zt,zu;go_wp2;go_ret;exact ⟨kM (by rw [HR.out,HZ.out];rfl),rfl⟩
theorem aMp(s:ByteArray)(p:Nat)(w:World)(hp:p<s.size)(hs:s.size<=9223372036854775000)(h1:194<=aD s p)(h2:aD s p<224) :
  Calls zz 101 #[.string s,.int .i64 p] w λe w'=>e=.returned (.int .i64 (bC s p))/\w'=w:=by
 have hz:cJ (aD s p)=2:=by unfold cJ;split <;> (try split) <;> (try split) <;> (try split) <;> (try split) <;> omega
 have HZ:=aA hz;have hb:=gJ s p hp;have HB:=aA hb;rw [hb] at h1 h2;clear hb hz;have g1:(194:Int)<=((s[p]'hp).toNat:Int):=by omega
 have g2:((s[p]'hp).toNat:Int)<224:=by omega
 by_cases hsh:s.size<p+2
 ·have HR:=aA (yM s p 2 HZ.out (by omega) hsh);go_enter zt,zu;go_wp2;go_ret;exact ⟨kM (by rw [HR.out];rfl),rfl⟩
 ·go_enter zt,zu;go_wp2;go_loop [7] (λi=>∃k:Nat,1<=k/\k<=2/\i=.int .i64 k/\∀j,0<j->j<k->gM (aD s (p+j))=true) (λi=>2-(intOf i).toNat);case atStart=>exact ⟨1,by omega,by omega,rfl,λj h1 h2=>by omega⟩
  case round=>
   obtain ⟨k,hk1,hk2,rfl,hc⟩:=hrel;have HC:=aA hc;clear hc;by_cases hlt:k<2
   ·have hpk:p+k<s.size:=by omega
    have hbk:=gJ s (p+k) hpk;have HBK:=aA hbk;clear hbk;by_cases hco:128<=(s[p+k]'hpk).toNat/\(s[p+k]'hpk).toNat<=191
    ·obtain ⟨hc1,hc2⟩:=hco;have hcz1:(128:Int)<=((s[p+k]'hpk).toNat:Int):=by omega
     have hcz2:((s[p+k]'hpk).toNat:Int)<=191:=by omega
     go_wp2;go_round;case rel=>
      refine ⟨k+1,by omega,by omega,by go_num,λj h1 h2=>?_⟩;by_cases hj:j=k
      ·subst hj;rw [HBK.out];simp [gM,hc1,hc2]
      ·exact HC.out j h1 (by omega)
     case measure=>simp [intOf];omega
    ·have HR:=aA (wI s p 2 k HZ.out (by omega) (by omega) hlt (by rw [HBK.out];simp [gM];omega));have hcz:((s[p+k]'hpk).toNat:Int)<128\/(191:Int)<((s[p+k]'hpk).toNat:Int):=by omega
     clear hco;rcases hcz with hcz | hcz;all_goals
      go_wp2;go_ret;exact ⟨kM (by rw [HR.out];rfl),rfl⟩
   ·have hp1:p+1<s.size:=by omega
    have hkz:k=2:=by omega
    have HR:=aA (yN s p 2 HZ.out (by omega) hsh (λi h1 h2=>HC.out i h1 (by omega)));have HB1:=aA (gJ s (p+1) hp1);go_wp2;all_goals
     go_ret;refine ⟨kM ?_,rfl⟩;rw [HR.out,HB.out,HB1.out];by_cases hbad:pA (s[p]'hp).toNat (s[p+1]'hp1).toNat=true
     ·rw [if_pos hbad];rw [tL] at hbad;first | rfl | (exfalso;omega)
     ·rw [if_neg hbad];rw [tL] at hbad;first | rfl | (exfalso;omega)
theorem aMq(s:ByteArray)(p:Nat)(w:World)(hp:p<s.size)(hs:s.size<=9223372036854775000)(h1:224<=aD s p)(h2:aD s p<240) :
  Calls zz 101 #[.string s,.int .i64 p] w λe w'=>e=.returned (.int .i64 (bC s p))/\w'=w:=by
 have hz:cJ (aD s p)=3:=by unfold cJ;split <;> (try split) <;> (try split) <;> (try split) <;> (try split) <;> omega
 have HZ:=aA hz;have hb:=gJ s p hp;have HB:=aA hb;rw [hb] at h1 h2;clear hb hz;have g1:(224:Int)<=((s[p]'hp).toNat:Int):=by omega
 have g2:((s[p]'hp).toNat:Int)<240:=by omega
 by_cases hsh:s.size<p+3
 ·have HR:=aA (yM s p 3 HZ.out (by omega) hsh);go_enter zt,zu;go_wp2;go_ret;exact ⟨kM (by rw [HR.out];rfl),rfl⟩
 ·go_enter zt,zu;go_wp2;go_loop [7] (λi=>∃k:Nat,1<=k/\k<=3/\i=.int .i64 k/\∀j,0<j->j<k->gM (aD s (p+j))=true) (λi=>3-(intOf i).toNat);case atStart=>exact ⟨1,by omega,by omega,rfl,λj h1 h2=>by omega⟩
  case round=>
   obtain ⟨k,hk1,hk2,rfl,hc⟩:=hrel;have HC:=aA hc;clear hc;by_cases hlt:k<3
   ·have hpk:p+k<s.size:=by omega
    have hbk:=gJ s (p+k) hpk;have HBK:=aA hbk;clear hbk;by_cases hco:128<=(s[p+k]'hpk).toNat/\(s[p+k]'hpk).toNat<=191
    ·obtain ⟨hc1,hc2⟩:=hco;have hcz1:(128:Int)<=((s[p+k]'hpk).toNat:Int):=by omega
     have hcz2:((s[p+k]'hpk).toNat:Int)<=191:=by omega
     go_wp2;go_round;case rel=>
      refine ⟨k+1,by omega,by omega,by go_num,λj h1 h2=>?_⟩;by_cases hj:j=k
      ·subst hj;rw [HBK.out];simp [gM,hc1,hc2]
      ·exact HC.out j h1 (by omega)
     case measure=>simp [intOf];omega
    ·have HR:=aA (wI s p 3 k HZ.out (by omega) (by omega) hlt (by rw [HBK.out];simp [gM];omega));have hcz:((s[p+k]'hpk).toNat:Int)<128\/(191:Int)<((s[p+k]'hpk).toNat:Int):=by omega
     clear hco;rcases hcz with hcz | hcz;all_goals
      go_wp2;go_ret;exact ⟨kM (by rw [HR.out];rfl),rfl⟩
   ·have hp1:p+1<s.size:=by omega
    have hkz:k=3:=by omega
    have HR:=aA (yN s p 3 HZ.out (by omega) hsh (λi h1 h2=>HC.out i h1 (by omega)));have HB1:=aA (gJ s (p+1) hp1);go_wp2;all_goals
     go_ret;refine ⟨kM ?_,rfl⟩;rw [HR.out,HB.out,HB1.out];by_cases hbad:pA (s[p]'hp).toNat (s[p+1]'hp1).toNat=true
     ·rw [if_pos hbad];rw [tL] at hbad;first | rfl | (exfalso;omega)
     ·rw [if_neg hbad];rw [tL] at hbad;first | rfl | (exfalso;omega)
theorem aMr(s:ByteArray)(p:Nat)(w:World)(hp:p<s.size)(hs:s.size<=9223372036854775000)(h1:240<=aD s p)(h2:aD s p<245) :
  Calls zz 101 #[.string s,.int .i64 p] w λe w'=>e=.returned (.int .i64 (bC s p))/\w'=w:=by
 have hz:cJ (aD s p)=4:=by unfold cJ;split <;> (try split) <;> (try split) <;> (try split) <;> (try split) <;> omega
 have HZ:=aA hz;have hb:=gJ s p hp;have HB:=aA hb;rw [hb] at h1 h2;clear hb hz;have g1:(240:Int)<=((s[p]'hp).toNat:Int):=by omega
 have g2:((s[p]'hp).toNat:Int)<245:=by omega
 by_cases hsh:s.size<p+4
 ·have HR:=aA (yM s p 4 HZ.out (by omega) hsh);go_enter zt,zu;go_wp2;go_ret;exact ⟨kM (by rw [HR.out];rfl),rfl⟩
 ·go_enter zt,zu;go_wp2;go_loop [7] (λi=>∃k:Nat,1<=k/\k<=4/\i=.int .i64 k/\∀j,0<j->j<k->gM (aD s (p+j))=true) (λi=>4-(intOf i).toNat);case atStart=>exact ⟨1,by omega,by omega,rfl,λj h1 h2=>by omega⟩
  case round=>
   obtain ⟨k,hk1,hk2,rfl,hc⟩:=hrel;have HC:=aA hc;clear hc;by_cases hlt:k<4
   ·have hpk:p+k<s.size:=by omega
    have hbk:=gJ s (p+k) hpk;have HBK:=aA hbk;clear hbk;by_cases hco:128<=(s[p+k]'hpk).toNat/\(s[p+k]'hpk).toNat<=191
    ·obtain ⟨hc1,hc2⟩:=hco;have hcz1:(128:Int)<=((s[p+k]'hpk).toNat:Int):=by omega
     have hcz2:((s[p+k]'hpk).toNat:Int)<=191:=by omega
     go_wp2;go_round;case rel=>
      refine ⟨k+1,by omega,by omega,by go_num,λj h1 h2=>?_⟩;by_cases hj:j=k
      ·subst hj;rw [HBK.out];simp [gM,hc1,hc2]
      ·exact HC.out j h1 (by omega)
     case measure=>simp [intOf];omega
    ·have HR:=aA (wI s p 4 k HZ.out (by omega) (by omega) hlt (by rw [HBK.out];simp [gM];omega));have hcz:((s[p+k]'hpk).toNat:Int)<128\/(191:Int)<((s[p+k]'hpk).toNat:Int):=by omega
     clear hco;rcases hcz with hcz | hcz;all_goals
      go_wp2;go_ret;exact ⟨kM (by rw [HR.out];rfl),rfl⟩
   ·have hp1:p+1<s.size:=by omega
    have hkz:k=4:=by omega
    have HR:=aA (yN s p 4 HZ.out (by omega) hsh (λi h1 h2=>HC.out i h1 (by omega)));have HB1:=aA (gJ s (p+1) hp1);go_wp2;all_goals
     go_ret;refine ⟨kM ?_,rfl⟩;rw [HR.out,HB.out,HB1.out];by_cases hbad:pA (s[p]'hp).toNat (s[p+1]'hp1).toNat=true
     ·rw [if_pos hbad];rw [tL] at hbad;first | rfl | (exfalso;omega)
     ·rw [if_neg hbad];rw [tL] at hbad;first | rfl | (exfalso;omega)
theorem aMs(s:ByteArray)(p:Nat)(w:World)(hp:p<s.size)(hs:s.size<=9223372036854775000) :
  Calls zz 101 #[.string s,.int .i64 p] w λe w'=>e=.returned (.int .i64 (bC s p))/\w'=w:=by
 rcases (show aD s p<128\/((128<=aD s p/\aD s p<194)\/245<=aD s p)\/(194<=aD s p/\aD s p<224)\/(224<=aD s p/\aD s p<240)\/(240<=aD s p/\aD s p<245) by omega) with h | h | h | h | h
 ·exact aMn s p w hp h
 ·exact aMo s p w hp h
 ·exact aMp s p w hp hs h.1 h.2
 ·exact aMq s p w hp hs h.1 h.2
 ·exact aMr s p w hp hs h.1 h.2
def gN(s:ByteArray):Nat->Nat->Nat->Bool
 | 0,_,m=>decide (1<=m) && decide (m<=20)
 | f+1,p,m=>if p<s.size then (if bC s p=0\/aD s p=10 then false else gN s f (p+bC s p) (m+1)) else decide (1<=m) && decide (m<=20)
def gE(s:ByteArray):Bool:=gN s s.size 0 0
theorem yP(s:ByteArray)(f p m:Nat)(h:¬p<s.size):gN s f p m=(decide (1<=m) && decide (m<=20)):=by
 cases f with
 | zero=>rfl
 | succ f=>simp [gN,h]
theorem wJ(s:ByteArray)(f p m:Nat)(h:p<s.size)(hf:s.size-p<=f)(hb:bC s p=0\/aD s p=10):gN s f p m=false:=by obtain ⟨g,rfl⟩ : ∃g,f=g+1:=⟨f-1,by omega⟩;simp only [gN,if_pos h,if_pos hb]
theorem aEz(s:ByteArray)(f p m:Nat)(h:p<s.size)(hf:s.size-p<=f)(hb:¬(bC s p=0\/aD s p=10)) :
  ∃g,s.size-(p+bC s p)<=g/\gN s f p m=gN s g (p+bC s p) (m+1):=by
 obtain ⟨g,rfl⟩ : ∃g,f=g+1:=⟨f-1,by omega⟩;refine ⟨g,by omega,?_⟩;simp only [gN,if_pos h,if_neg hb]
theorem aMt(s:ByteArray)(w:World)(hs:s.size<=9223372036854775000) :
  Calls zz 67 #[.string s] w λe w'=>e=.returned (.bool (gE s))/\w'=w:=by
 go_enter Tryz.func67,Tryz.ntmps67;go_wp2;go_loop [3,4] (λq i=>∃p m f:Nat,p<=s.size/\m<=p/\i=.int .i64 p/\q=.int .i64 m/\s.size-p<=f/\gE s=gN s f p m) (λ_ i=>s.size-(intOf i).toNat);case atStart=>exact ⟨0,0,s.size,by omega,by omega,rfl,rfl,by omega,rfl⟩
 case round=>
  obtain ⟨p,m,f,hp,hm,rfl,rfl,hf,hg⟩:=hrel;by_cases hlt:p<s.size
  ·have cC:=aMs s p w hlt hs;have hle:=yO s p hlt;have hb:=gJ s p hlt;by_cases h0:bC s p=0
   ·rw [wJ s f p m hlt hf (zh h0)] at hg;rw [h0] at cC;have HG:=aA hg;clear hg hb h0 hle;go_wp2_with (go_at_call 101;refine cC.mono ?_;rintro e w' ⟨rfl,rfl⟩);go_ret;exact ⟨cI HG.out.symm,rfl⟩
   ·generalize hn:bC s p=n at *;have hz:((n:Int) == 0)=false:=by rw [beq_eq_false_iff_ne];omega
    by_cases h10:aD s p=10
    ·rw [wJ s f p m hlt hf (zm h10)] at hg;have HG:=aA hg;rw [h10] at hb;have hc:((s[p]'hlt).toNat:Int)=10:=by omega
     have hce:(((s[p]'hlt).toNat:Int) == 10)=true:=by rw [beq_iff_eq];exact hc
     clear hg hb hn hc;go_wp2_with (go_at_call 101;refine cC.mono ?_;rintro e w' ⟨rfl,rfl⟩);go_ret;exact ⟨cI HG.out.symm,rfl⟩
    ·obtain ⟨g,hg1,hg2⟩:=aEz s f p m hlt hf (by rw [hn];omega);rw [hn] at hg1 hg2;rw [hg2] at hg;have HG:=aA hg;have hce:(((s[p]'hlt).toNat:Int) == 10)=false:=by rw [beq_eq_false_iff_ne];omega
     clear hg hb hn hg2 h10;go_wp2_with (go_at_call 101;refine cC.mono ?_;rintro e w' ⟨rfl,rfl⟩);go_round;case rel=>exact ⟨p+n,m+1,g,by omega,by omega,by go_num,by go_num,by omega,HG.out⟩
     case measure=>simp [intOf];omega
  ·rw [yP s f p m hlt] at hg;have HG:=aA hg;clear hg;go_wp2;all_goals
    go_ret;refine ⟨cI ?_,rfl⟩;rw [HG.out,Bool.eq_iff_iff];simp;omega
def aF(n:Nd):Bool:=n.1.toList.isEmpty
def eA(n:Nd):Bool:=if aF n then decide (0<=n.2) && decide (n.2<60) else gE n.1 && (decide (0<=n.2) && decide (n.2<=5))
def bJ(n:Nd):Nat:=if aF n then 0 else n.2.toNat
def aW:List Nd->Nat->Bool
 | [],q=>decide (q=0)
 | n :: r,q=>if q=0 then false else if eA n then aW r (q-1+bJ n) else false
def fT(l:List Nd):Bool:=aW l 1 && decide (l.length<=60)
theorem aF0(l:List Nd)(k:Nat)(h:k<l.length):aW (l.drop k) 0=false:=by rw [zs h];simp [aW]
theorem aF1(l:List Nd)(k q:Nat)(h:k<l.length)(hb:eA l[k]=false):aW (l.drop k) q=false:=by rw [zs h];simp [aW,hb]
theorem aF2(l:List Nd)(k q:Nat)(h:k<l.length)(hq:q≠0)(hb:eA l[k]=true):aW (l.drop k) q=aW (l.drop (k+1)) (q-1+bJ l[k]):=by rw [zs h];simp [aW,hb,hq]
def uR:List Int->Int->Int
 | [],_=>-1
 | y :: r,x=>if y=x then r.length else uR r x
def eJ(l:List Int)(x:Int):Int:=uR l.reverse x
theorem aF3(x:Int):eJ [] x=-1:=rfl
theorem wK(l:List Int)(y x:Int):eJ (l++[y]) x=if y=x then (l.length:Int) else eJ l x:=by simp [eJ,uR]
def dC(st:List Nd×List Int)(n:Nd):List Nd×List Int:=
 if aF n then (if eJ st.2 n.2<0 then (st.1++[(n.1,(st.2.length:Int))],st.2++[n.2]) else (st.1++[(n.1,eJ st.2 n.2)],st.2))
 else (st.1++[n],st.2)
def cG(l:List Nd)(seen:List Int):List Nd×List Int:=l.foldl dC ([],seen)
theorem aF4(l:List Nd)(seen:List Int)(k:Nat)(h:k<l.length):cG (l.take (k+1)) seen=dC (cG (l.take k) seen) l[k]:=by rw [zv h];simp only [cG,List.foldl_append,List.foldl_cons,List.foldl_nil]
theorem tM(l:List Nd)(seen:List Int):(cG l seen).1.length=l.length/\(cG l seen).2.length<=seen.length+l.length:=by
 unfold cG;suffices ∀(l:List Nd) (st:List Nd×List Int),(l.foldl dC st).1.length=st.1.length+l.length/\(l.foldl dC st).2.length<=st.2.length+l.length by
  have:=this l ([],seen);simpa using this
 intro l;induction l with
 | nil=>intro st;simp
 | cons x r ih=>
  intro st;have h:=ih (dC st x);have h1:(dC st x).1.length=st.1.length+1/\(dC st x).2.length<=st.2.length+1:=by
   unfold dC;split
   ·split <;> simp
   ·simp
  simp only [List.foldl_cons,List.length_cons];omega
theorem nB:(zz.info? 36).map (λi=>(i.zero,i.size,i.bytes))=some (some (.agg #[.string ⟨#[]⟩,.int .i64 0]),2,24):=by kernel_rfl
theorem pB:(zz.info? 3).map (λi=>(i.zero,i.size,i.bytes))=some (some (.int .i64 0),1,8):=by kernel_rfl
theorem gK(w:World)(s:Value)(x:Value)(t:TypeId)(n:Nat)(hn:n=w.heap.size):∀j u,[s,x][j]?=some u->(w.alloc (.cells #[s,x] t)).cell? ((⟨n,0,none⟩ : Addr).add j)=some u:=by
 subst hn;intro j u hj;match j,hj with
 | 0,hj=>simp at hj;subst hj;simp [Addr.add]
 | 1,hj=>simp at hj;subst hj;simp [Addr.add]
 | j+2,hj=>simp at hj
theorem rV(w:World)(s:Value)(t:TypeId)(n:Nat)(hn:n=w.heap.size):∀j u,[s][j]?=some u->(w.alloc (.cells #[s] t)).cell? ((⟨n,0,none⟩ : Addr).add j)=some u:=by
 subst hn;intro j u hj;match j,hj with
 | 0,hj=>simp at hj;subst hj;simp [Addr.add]
 | j+1,hj=>simp at hj
theorem rW(s:ByteArray)(x:Int):∀u∈[Value.string s,zy .i64 x],u.oneCell'=true:=by intro u hu;simp at hu;rcases hu with rfl | rfl <;> rfl
theorem aB8(x:Int):∀u∈[zy .i64 x],u.oneCell'=true:=by intro u hu;simp at hu;subst hu;rfl
theorem aB9{l:List Int}(h:w.ownsRow B 3 1 v l.length (l.map (zy .i64))) :
  ∃a cap,v=.slice a l.length cap/\∀k (h:k<l.length),∃g,a=some ⟨g,0,none⟩/\w.cell? ⟨g,k,none⟩=some (.int .i64 l[k]):=by
 obtain ⟨h1,⟨rfl,h2⟩ | ⟨g,cap,cur,rfl,hb,hh,hc,hm,hz,ht⟩⟩:=h
 ·exact ⟨none,0,by rw [h2],λk hk=>by omega⟩
 ·have ho:w.ownsRow B 3 1 (.slice (some ⟨g,0,none⟩) l.length cap) l.length (l.map (zy .i64)):=⟨h1,zm ⟨g,cap,cur,rfl,hb,hh,hc,hm,hz,ht⟩⟩;refine ⟨_,_,rfl,λk hk=>⟨g,rfl,?_⟩⟩;rw [ho.cellAt k (by omega)];simp [hk]
theorem aF5(h:w.ownsRow B e size v n xs)(d:Nat):(w.drewN d).ownsRow B e size v n xs:=h
theorem aBa{wm:World}{out:List Nd}{x:Int}(ho:wm.ownsRow w.heap.size 36 2 o out.length (aG out))(hse:wm.ownsRow B 3 1 sv sn.length (sn.map (zy .i64)))(hkp:dQ B 3 w wm)
  (ho':w1.ownsRow w.heap.size 36 2 v' (out.length+1) (aG out++[.string s,.int .i64 x])) (hg:wm.grownBy w1 o.ownBlock) :
  w1.ownsRow w.heap.size 36 2 v' (out++[(s,x)]).length (aG (out++[(s,x)]))/\w1.ownsRow B 3 1 sv sn.length (sn.map (zy .i64))/\dQ B 3 w w1:=by
 refine ⟨?_,hse.kept hg (bW hse ho (by decide)),hkp.grownNew hg ho (zx _)⟩;rw [rS,zl];exact ho'
theorem aMu{wm:World}{out:List Nd}{x:Int}(ho:wm.ownsRow w.heap.size 36 2 o out.length (aG out))(hse:wm.ownsRow B 3 1 sv sn.length (sn.map (zy .i64)))(hkp:dQ B 3 w wm)
  (ho':w1.ownsRow B 3 1 v' (sn.length+1) (sn.map (zy .i64)++[.int .i64 x])) (hg:wm.grownBy w1 sv.ownBlock) :
  w1.ownsRow w.heap.size 36 2 o out.length (aG out)/\w1.ownsRow B 3 1 v' (sn++[x]).length ((sn++[x]).map (zy .i64))/\dQ B 3 w w1:=by
 refine ⟨ho.kept hg (bW ho hse (by decide)),?_,hkp.grownOwn hg hse⟩;rw [List.map_append,zl];exact ho'
theorem bR(w:World)(p:Addr)(u:Value):w.grownBy (w.setCell p u) (some p.block):=
 ⟨rfl,rfl,rfl,by simp [zo],λk _ hne=>Below.heap_setCell _ _ _ _ (λe=>hne (by rw [e]))⟩
theorem aMv{wd:World}{out:List Nd}{x:Int}{Y:Obj}(hod:wd.ownsRow w.heap.size 36 2 o out.length (aG out))(hsd:wd.ownsRow B 3 1 sv sn.length (sn.map (zy .i64)))(hkd:dQ B 3 w wd)
  (ho':w1.ownsRow B 3 1 v' (sn.length+1) (sn.map (zy .i64)++[.int .i64 x])) (hg:((wd.alloc (.cells #[.string s,.int .i64 x] 36)).alloc Y).grownBy w1 sv.ownBlock) :
  wd.heap.size<w1.heap.size/\w1.cell? ⟨wd.heap.size,0,none⟩=some (.string s)/\w1.cell? ⟨wd.heap.size,1,none⟩=some (.int .i64 x)/\w1.frozen? ⟨wd.heap.size,1,none⟩=false/\
   ∀u,(w1.setCell ⟨wd.heap.size,1,none⟩ u).ownsRow w.heap.size 36 2 o out.length (aG out)/\(w1.setCell ⟨wd.heap.size,1,none⟩ u).ownsRow B 3 1 v' (sn++[x]).length ((sn++[x]).map (zy .i64))/\dQ B 3 w (w1.setCell ⟨wd.heap.size,1,none⟩ u):=by
 have hbx:((wd.alloc (.cells #[.string s,.int .i64 x] 36)).alloc Y).heap[wd.heap.size]?=some (.cells #[.string s,.int .i64 x] 36):=by show ((wd.heap.push _).push Y)[wd.heap.size]?=_;simp [Array.getElem?_push]
 have hs0:wd.heap.size+2<=w1.heap.size:=by have:=hg.size;simpa using this
 have hw1:w1.heap[wd.heap.size]?=some (.cells #[.string s,.int .i64 x] 36):=by rw [hg.block _ (by simp;omega) ?_,hbx];intro e;have:=aT hsd _ e.symm;omega
 have R:=aMu ((hod.alloc _).alloc _) ((hsd.alloc _).alloc _) ((hkd.alloc _).alloc _) ho' hg;have hk:=hkd.size;refine ⟨by omega,by simp [World.cell?,hw1],by simp [World.cell?,hw1],by simp [World.frozen?,hw1],λu=>⟨?_,?_,?_⟩⟩
 ·refine R.1.kept (bR _ _ _) (zm λe=>?_);have:=aT hod _ e;simp at this
 ·refine R.2.1.kept (bR _ _ _) (zm λe=>?_);obtain ⟨_,⟨rfl,_⟩ | ⟨g,cap,cur,rfl,hb,hh,_⟩⟩:=R.2.1
  ·simp [zw] at e
  ·simp [zw] at e;subst e;rw [hw1] at hh;simp at hh
 ·exact R.2.2.setCell (by simpa using hk) u
theorem aMw(B:Nat)(a:Option Addr)(cp:Nat)(l:List Nd)(vs:Value)(seen:List Int)(w0 w:World)(h:cU w0 a l)(hb:Below B w0 w)(hB:w0.heap.size<=B)(hBw:B<=w.heap.size)
  (hs:w.ownsRow B 3 1 vs seen.length (seen.map (zy .i64))) (hfew:l.length+seen.length<=10000000) :
  Calls zz 68 #[.slice a l.length cp,vs] w λe w'=>∃vo vs',e=.returned (.tuple #[vo,vs'])/\w'.ownsRow w.heap.size 36 2 vo (cG l seen).1.length (aG (cG l seen).1)/\
   w'.ownsRow B 3 1 vs' (cG l seen).2.length ((cG l seen).2.map (zy .i64))/\dQ B 3 w w':=by
 obtain ⟨iN,hN,hN0,hN1,hN2⟩:=info_parts nB;obtain ⟨iI,hI,hI0,hI1,hI2⟩:=info_parts pB;go_enter Tryz.func68,Tryz.ntmps68;go_wp2;go_loopw [1,6,7] (λs o i wr=>∃k:Nat,k<=l.length/\i=.int .i64 k/\wr.ownsRow w.heap.size 36 2 o (cG (l.take k) seen).1.length (aG (cG (l.take k) seen).1)/\
   wr.ownsRow B 3 1 s (cG (l.take k) seen).2.length ((cG (l.take k) seen).2.map (zy .i64))/\dQ B 3 w wr) (λ_ _ i _=>l.length-(intOf i).toNat)
 case atStart=>exact ⟨0,Nat.zero_le _,rfl,World.ownsRow_nil _ _ _ _,hs,dQ.refl _ _ _⟩
 case round=>
  obtain ⟨k,hk,rfl,ho,hse,hkp⟩:=hrel;have hbd:=tM (l.take k) seen;have hlt':(l.take k).length<=k:=List.length_take_le _ _;by_cases hlt:k<l.length
  ·obtain ⟨b,q,rfl,e1,f1⟩:=h.cell k hlt;have hbr:=hb.trans (hkp.below hBw);have e2:=Below.at' hbr hB e1;have f2:=Below.at' hbr hB f1;have hst:=aF4 l seen k hlt;generalize hR:cG (l.take k) seen=R at *;generalize l[k]=nd at *;obtain ⟨out,sn⟩:=R;obtain ⟨s,x⟩:=nd;simp only at e2 f2 ho hse hbd;obtain ⟨hbd1,hbd2⟩:=hbd;have hbd3:out.length<=k:=by omega
   have hbd4:sn.length+l.length<=20000000:=by omega
   have hhs:=hkp.size;clear e1 f1 h hR hbr hbd1 hbd2;by_cases hv:s.toList.isEmpty=true
   ·obtain ⟨sa,scp,rfl,hsc⟩:=aB9 hse;have hstN:eJ sn x<0->cG (l.take (k+1)) seen=(out++[(s,(sn.length:Int))],sn++[x]):=λhp=>by rw [hst];simp [dC,aF,hv,hp]
    have hstO:¬eJ sn x<0->cG (l.take (k+1)) seen=(out++[(s,eJ sn x)],sn):=λhp=>by rw [hst];simp [dC,aF,hv,hp]
    have HN:=aA hstN;have HO:=aA hstO;have HSC:=aA hsc;clear hst hstN hstO hsc;go_wp2;go_loopw [9,10] (λt j wi=>∃(n:Nat) (p:Int),n<=sn.length/\j=.int .i64 n/\t=.int .i64 p/\p=eJ (sn.take n) x/\-1<=p/\p<n/\∃wd,(∃d,wd=wr.drewN d)/\wi=wd.alloc (.cells #[.string s,.int .i64 x] 36)) (λ_ j _=>sn.length-(intOf j).toNat);case atStart=>exact ⟨0,-1,Nat.zero_le _,rfl,rfl,rfl,by omega,by omega,wr,⟨0,rfl⟩,rfl⟩
    case round=>
     obtain ⟨n,p,hn,rfl,rfl,hpe,hp1,hp2,wd,hd,rfl⟩:=hrel;have hod:wd.ownsRow w.heap.size 36 2 u6 out.length (aG out):=aU ho (aI hd) (zx _);have hsd:wd.ownsRow B 3 1 (.slice sa sn.length scp) sn.length (sn.map (zy .i64)):=aU hse (aI hd) (zx _);have hkd:dQ B 3 w wd:=hkp.drawn hd;have hhd:=hkd.size;have hsz:wr.heap.size=wd.heap.size:=by obtain ⟨d,rfl⟩:=hd;rfl
     have HSZ:=aA hsz;have HD:=aA hd;clear hsz;clear hd;have HPE:=aA hpe;clear hpe;by_cases hnl:n<sn.length
     ·obtain ⟨g,rfl,hc⟩:=HSC.out n hnl;have hcg:(wd.alloc (.cells #[.string s,.int .i64 x] 36)).cell? ⟨g,n,none⟩=some (.int .i64 sn[n]):=Below.at' ((Below.refl _ _).alloc (zx _) _) (zx _) (Below.at' (aI HD.out) (zx _) hc);have hbx:(wd.alloc (.cells #[.string s,.int .i64 x] 36)).cell? ⟨wr.heap.size,1,none⟩=some (.int .i64 x):=by rw [HSZ.out];exact gK wd _ _ _ _ rfl 1 _ rfl
      clear hc hod hsd hkd;go_wp2;go_quiet (fail);go_wp2
      ·have he:(sn[n] == x)=true:=by assumption
       go_roundw;case rel=>exact ⟨n+1,n,by omega,by go_num,rfl,by rw [zv hnl,wK,if_pos (by simpa using he),List.length_take,Nat.min_eq_left hn],by omega,by omega,_,rP HD.out ⟨_,rfl⟩,rfl⟩
       case measure=>simp [intOf];omega
      ·have he:(sn[n] == x)=false:=by assumption
       go_roundw;case rel=>exact ⟨n+1,p,by omega,by go_num,rfl,by rw [zv hnl,wK,if_neg (by simpa using he)];exact HPE.out,by omega,by omega,_,rP HD.out ⟨_,rfl⟩,rfl⟩
       case measure=>simp [intOf];omega
     ·have hnn:sn.take n=sn:=zn (by omega);have HPS:Hid (p=eJ sn x):=by rw [<-hnn];exact HPE.out
      have HKP:=aA hkd;have HSE:=aA hsd;clear hnn HPE HSC ho hse hkp hkd HD;rw [HSZ.out];by_cases hp:p<0
      ·have HST:=aA (HN.out (by rw [<-HPS.out];exact hp));clear HN HO HPS;go_wp2_with (first
        | (at_builtin;refine wpList_append_own _ rfl (.tmp 42) (.tmp 45) 25 rfl B 3 iI (.int .i64 0) 1 8 Tryz.underlying25 hI hI0 hI1 hI2 rfl (by decide) _ _ _ rfl ((hsd.alloc _).alloc _) ⟨wd.heap.size+1,0,none⟩ 1 1 [.int .i64 x] rfl rfl ?d1 ?d2 ?d3 ?d4 ?d5 ?_)
        | go_in)
       case d1=>exact rV _ _ _ _ (by simp)
       case d2=>exact aB8 _
       case d3=>unfold maxLen;omega
       case d4=>omega
       case d5=>simp;omega
       intro v' w1 ho' hg' _;obtain ⟨hz1,hx0,hx1,hx2,R⟩:=aMv hod HSE.out HKP.out ho' hg';have hr1:=(R (.int .i64 sn.length)).1;have RR:=aA (R (.int .i64 sn.length));clear ho' hg' hod R;go_wp2_with (first
        | (at_builtin;refine wpList_append_own _ rfl (.tmp 49) (.tmp 51) 37 rfl w.heap.size 36 iN (.agg #[.string ⟨#[]⟩,.int .i64 0]) 2 24 zp hN hN0 hN1 hN2 rfl (by decide) _ _ _ rfl (hr1.alloc _) ⟨w1.heap.size,0,none⟩ 1 1 [.string s,.int .i64 sn.length] rfl rfl ?f1 ?f2 ?f3 ?f4 ?f5 ?_)
        | go_in)
       case f1=>exact gK _ _ _ _ _ (by simp [zo])
       case f2=>first | exact rW _ _ | exact ⟨rfl,rfl⟩
       case f3=>unfold maxLen;omega
       case f4=>omega
       case f5=>first | omega | (simp [zo];omega)
       intro v2 w2 ho2 hg2 _;have R:=aBa (RR.out.1.alloc _) (RR.out.2.1.alloc _) (RR.out.2.2.alloc _) ho2 hg2;clear ho2 hg2 hr1 hx0 hx1 hx2;go_wp2;go_roundw;case rel=>exact ⟨k+1,by omega,by go_num,by rw [HST.out];exact R.1,by rw [HST.out];exact R.2.1,R.2.2⟩
       case measure=>simp [intOf];omega
      ·have HST:=aA (HO.out (by rw [<-HPS.out];omega));clear HN HO;go_wp2_with (first
        | (at_builtin;refine wpList_append_own _ rfl (.tmp 49) (.tmp 51) 37 rfl w.heap.size 36 iN (.agg #[.string ⟨#[]⟩,.int .i64 0]) 2 24 zp hN hN0 hN1 hN2 rfl (by decide) _ _ _ rfl ((hod.alloc _).alloc _) ⟨wd.heap.size+1,0,none⟩ 1 1 [.string s,.int .i64 p] rfl rfl ?b1 ?b2 ?b3 ?b4 ?b5 ?_)
        | go_in)
       try case b1=>exact gK _ _ _ _ _ (by simp)
       case b2=>first | exact rW _ _ | exact ⟨rfl,rfl⟩
       case b3=>unfold maxLen;omega
       case b4=>omega
       case b5=>first | omega | (simp;omega)
       intro v' w1 ho' hg' _;have R:=aBa ((hod.alloc _).alloc _) ((HSE.out.alloc _).alloc _) ((HKP.out.alloc _).alloc _) ho' hg';clear ho' hg' hod;go_wp2;go_roundw;case rel=>exact ⟨k+1,by omega,by go_num,by rw [HST.out,<-HPS.out];exact R.1,by rw [HST.out];exact R.2.1,R.2.2⟩
       case measure=>simp [intOf];omega
   ·have hv':s.toList.isEmpty=false:=by simpa using hv
    have hst':cG (l.take (k+1)) seen=(out++[(s,x)],sn):=by rw [hst];simp [dC,aF,hv]
    have HST:=aA hst';have HKP:=aA hkp;have HSE:=aA hse;clear hst hst' hv hkp hse;go_wp2_with (first
     | (at_builtin;refine wpList_append_own _ rfl _ _ 37 rfl w.heap.size 36 iN (.agg #[.string ⟨#[]⟩,.int .i64 0]) 2 24 zp hN hN0 hN1 hN2 rfl (by decide) _ _ _ rfl ((ho.alloc _).alloc _) ⟨wr.heap.size+1,0,none⟩ 1 1 [.string s,.int .i64 x] rfl rfl ?c1 ?c2 ?c3 ?c4 ?c5 ?_)
     | go_in)
    case c1=>exact gK _ _ _ _ _ (by simp)
    case c2=>exact rW _ _
    case c3=>unfold maxLen;omega
    case c4=>omega
    case c5=>simp;omega
    intro v' w1 ho' hg' _;have R:=aBa ((ho.alloc _).alloc _) ((HSE.out.alloc _).alloc _) ((HKP.out.alloc _).alloc _) ho' hg';clear ho' hg' ho;go_wp2;go_roundw;case rel=>exact ⟨k+1,by omega,by go_num,by rw [HST.out];exact R.1,by rw [HST.out];exact R.2.1,R.2.2⟩
    case measure=>simp [intOf];omega
  ·have hk1:l.take k=l:=zn (by omega);rw [hk1] at ho hse;have HO:=aA ho;have HSE:=aA hse;have HKP:=aA hkp;clear ho hse hkp;go_wp2;go_ret2;exact ⟨_,_,rfl,HO.out,HSE.out,HKP.out⟩
end
end Go.Proofs.YtcldkjcpofjmhaaGreatDoor
