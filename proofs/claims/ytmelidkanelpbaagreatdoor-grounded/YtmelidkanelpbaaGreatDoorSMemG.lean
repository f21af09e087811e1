import Derived.Test.YtmelidkanelpbaaGreatDoorRPrim0G
import Derived.Laws.Rows
import Derived.OneCell
import Derived.Handy
import Derived.RegionTactic
import Derived.ChangeAlike
import Derived.Deep.LoopGhost
import Derived.Laws.Cover4
import Derived.Deep.RegionHeld3
import Derived.Lib.MapLaws
import Derived.Test.YtmelidkanelpbaaGreatDoorStepAppG
import Derived.Deep.RegionLaw
import Derived.Deep.DeepCutAuto
import Derived.Shelf.Abstract
open Bool renaming eq_iff_iff→zq
open List renaming getD_eq_getElem?_getD→zz,getElem?_eq_none→zx,getElem?_append_left→zw,mem_cons→zs,getElem_mem→zr,map_cons→zo,set_cons_succ→zm,map_nil→zl,length_drop→zk
open Nat renaming le_refl→zt,zero_le→zp
namespace Go.Proofs.YtmelidkanelpbaaGreatDoor
open _root_.Go.Proofs.Tryz renaming prog→zy
open Utf8 renaming encode→zv,decode→zu,valid→zj
open Go.RowKit
set_option maxHeartbeats 1000000
set_option maxRecDepth 100000
variable{n s:ByteArray}{c:List Lt}{e k p:Nat}{w:World}
theorem fG{b:Nat}{d:World}(a:Below b d w){p:Addr}(i:b<=p.block)(g:Value):Below b d (w.setCell p g):=
 ⟨a.os,a.tape,a.output,by have:=a.size;simpa [World.setCell] using this,λk f=>by rw [Below.heap_setCell _ _ _ _ (by omega)];exact a.block k f⟩
def aB9(a:List Tk)(d:Int)(b:Nat):Int:=if h:b<a.length then (a[b].pos:Int) else d
theorem rS{f:World}{b j:Nat}(a:w.grownBy f (some b))(i:Value):w.grownBy (f.setCell ⟨b,j,none⟩ i) (some b):=
 ⟨a.os,a.tape,a.output,by have:=a.size;simpa [World.setCell] using this,λk g d=>by rw [Below.heap_setCell _ _ _ _ (λe=>d (by rw [e]))];exact a.block k g d⟩
def fW(k a:Int)(b:ByteArray):Value:=.agg #[.int .i32 k,.int .i64 a,.string b]
section
variable {B:Nat}{pb:Nat}{s:ByteArray}{p g j m c:Nat}{k a:Int}{wd:ByteArray}{vC vP vM:Value}
theorem wW(d:bN B w pb s p g j m c k a wd vC vP vM):Calls zy 64 #[.pointer (some ⟨pb,0,none⟩)] w λe i=>e=.returned (fW (-2) p ⟨#[]⟩)/\aB w i:=by
 have f:=d.box.c0;have l:∀b,(w.alloc b).cell? ⟨pb,0,none⟩=some (.slice (some ⟨g,j*2,none⟩) (m+1) (c+1)):=λb=>aC ((Below.refl _ w).alloc (zt _) b) f
 have o:∀b,(w.alloc b).cell? ⟨g,j*2+1,none⟩=some (.int .i64 p):=λb=>aC ((Below.refl _ w).alloc (zt _) b) d.at0.2
 clear d f;go_enter Tryz.func64,Tryz.ntmps64;go_wp2;go_returns;exact ⟨rfl,(Below.refl _ w).alloc (zt _) _⟩
theorem aYc(r:bN B w pb s p g j m c k a wd vC vP vM):Calls zy 87 #[.pointer (some ⟨pb,0,none⟩)] w λe C=>e=.returned (.tuple #[])/\w.grownBy C (some pb)/\∃i q l,bN B C pb s (iB s p) g i q l k a wd vC vP vM:=by
 have Q:=r.le;go_enter Tryz.func87,Tryz.ntmps87;go_wp2;go_loopg [] (s.size-p) (λM wr=>∃b i q l,bN B wr pb s b g i q l k a wd vC vP vM/\iB s p=iB s b/\M=s.size-b/\w.grownBy wr (some pb));case atStart=>exact ⟨p,j,m,c,r,rfl,rfl,World.grownBy.refl _ _⟩
 case round=>
  obtain ⟨b,i,q,l,d,o,T,u⟩:=hrel;have N:=d.box.c0;have O:=d.box.soft 0;have A:=d.at0.1;have z:=aA d;have D:=aA o;have v:=aA u;have R:=d.le;by_cases t:aT s b=10
  ·have f:b<s.size:=Classical.byContradiction λH=>by rw [oS s b H] at t;omega
   have x:aM (iB s p=b):=aA (by rw [o];exact aL1 λy=>y.2 ((eX s b f 10 (by omega)).1 t));rw [t] at A;clear d o u r;go_wp2;go_returns;exact ⟨rfl,v.o,i,q,l,by rw [x.o];exact z.o⟩
  ·by_cases f:b<s.size
   ·have J:=aAy s b f;obtain ⟨L,G,rfl,rfl⟩:=d.more f;have F:=aA (d.step f);have E:=aA (aWn f t);have U:=yR s b;have V:=yS s b f;generalize aT s b=cc at *;have P:(cc != 10)=true:=by simpa using t
    have S:(cc != -1)=true:=by simpa using J
    clear d o u r;go_wp2;go_roundg (s.size-(b+iC s b));case measure=>omega
    case rel=>exact ⟨b+iC s b,i+1,L,G,F.o,by rw [D.o,E.o],rfl,rS v.o _⟩
   ·have I:=oS s b f;rw [I] at A;have x:aM (iB s p=b):=aA (by rw [o];exact aL1 λy=>f y.1);clear d o u r;go_wp2;go_returns;exact ⟨rfl,v.o,i,q,l,by rw [x.o];exact z.o⟩
theorem aYd(b:Int)(w:World):Calls zy 86 #[.int .i32 b] w λe i=>e=.returned (.bool (decide (b=32) || decide (b=9) || decide (b=10)))/\i=w:=by
 go_enter Tryz.func86,Tryz.ntmps86;by_cases d:b=32
 ·subst d;go_wp2;go_ret;exact ⟨rfl,rfl⟩
 ·have l:(b==32)=false:=by simpa using d
  by_cases f:b=9
  ·subst f;go_wp2;go_ret;exact ⟨rfl,rfl⟩
  ·have o:(b==9)=false:=by simpa using f
   go_wp2;go_ret;exact ⟨dK (by simp [d,f];rfl),rfl⟩
def mU(s:ByteArray):Nat->Nat->Nat
 |0,p=>p
 |f+1,p=>if p<s.size then if lI (aE s p) then mU s f (p+1) else if aE s p=37 then mU s f (iB s p) else p else p
theorem aYe(s:ByteArray):∀b p,s.size<p+b->p<=s.size->rQ s b p=(if mU s b p<s.size then dQ s (mU s b p) else .stop s.size)/\mU s b p<=s.size/\(mU s b p<s.size->lI (aE s (mU s b p))=false/\aE s (mU s b p)≠37):=by
 intro b;induction b with
 |zero=>intro p q l;omega
 |succ b ih=>
  intro p q l;rw [rQ,mU];by_cases d:p<s.size
  ·rw [aI d,aI d];by_cases i:lI (aE s p)=true
   ·rw [aI i,aI i];exact ih (p+1) (by omega) (by omega)
   ·rw [aH i,aH i];by_cases f:aE s p=37
    ·rw [aI f,aI f];have:=aAx d f;exact ih _ (by omega) (aE8 l)
    ·rw [aH f,aH f,aI d];exact ⟨rfl,l,λ_=>⟨by simpa using i,f⟩⟩
  ·rw [aH d,aH d,aH d];have:p=s.size:=by omega
   exact ⟨by rw [this],l,λo=>absurd o d⟩
theorem aYf(D:Nat)(x:bN B w pb s p g j m c k a wd vC vP vM)(V:s.size<p+D):Calls zy 57 #[.pointer (some ⟨pb,0,none⟩)] w λe Q=>e=.returned (.tuple #[])/\w.grownBy Q (some pb)/\∃q v t,bN B Q pb s (mU s D p) g q v t k a wd vC vP vM:=by
 go_enter Tryz.func57,Tryz.ntmps57;go_wp2;go_loopg [] D (λr wr=>∃b q v t,bN B wr pb s b g q v t k a wd vC vP vM/\mU s D p=mU s r b/\s.size<b+r/\w.grownBy wr (some pb));case atStart=>exact ⟨p,j,m,c,x,rfl,V,World.grownBy.refl _ _⟩
 case round=>
  obtain ⟨b,q,v,t,f,d,a7,A⟩:=hrel;have a6:=f.le;obtain ⟨r,rfl⟩ : ∃r,gk=r+1:=⟨gk-1,by omega⟩;have a3:=f.box.c0;have a4:=f.box.soft 0;have N:=f.at0.1;have G:=aA f;have C:=aA A;have l:=aA (λa2=>aYd (aT s b) a2);rw [mU] at d;by_cases i:b<s.size
  ·rw [aI i] at d;have E:(decide (aT s b=32) || decide (aT s b=9) || decide (aT s b=10))=lI (aE s b):=by
    unfold lI;have I:=eX s b i 32 (by omega);have J:=eX s b i 9 (by omega);have L:=eX s b i 10 (by omega);have I:(aT s b=32)=(aE s b=32):=propext I;have J:(aT s b=9)=(aE s b=9):=propext J;have L:(aT s b=10)=(aE s b=10):=propext L;simp only [I,J,L]
   rw [E] at l;have y:=eX s b i 37 (by omega);by_cases u:lI (aE s b)=true
   ·rw [aI u] at d;rw [u] at l;obtain ⟨a1,U,rfl,rfl⟩:=f.more i;have X:aE s b<128:=by unfold lI at u;simp at u;omega
    have M:=aA (f.step i);rw [(mR s b i X).2] at M;have o:=aA d;clear f d A x E y;go_wp2_with (go_at_call 86;refine (aD l _).mono ?_;rintro e F ⟨rfl,rfl⟩);go_roundg r;case measure=>omega
    case rel=>exact ⟨b+1,q+1,a1,U,M.o,o.o,by omega,rS C.o _⟩
   ·rw [aH u] at d;have W:lI (aE s b)=false:=by simpa using u
    rw [W] at l;by_cases z:aE s b=37
    ·rw [aI z] at d;have H:=y.2 z;rw [H] at N;have a5:=aAx i z;have o:=aA d;clear f d A x E y;go_wp2_with (first
      |(go_at_call 86;rw [H] at l;refine (aD l _).mono ?_;rintro e F ⟨rfl,rfl⟩)
      |(go_at_call 87;refine (aYc G.o).mono ?_;rintro e F ⟨rfl,P,Z,a0,T,O⟩;have R:=aA P;have S:=aA O;clear P O))
     go_roundg r;case measure=>omega
     case rel=>exact ⟨iB s b,Z,a0,T,S.o,o.o,by omega,C.o.trans R.o⟩
    ·rw [aH z] at d;have Y:aT s b≠37:=λe=>z (y.1 e)
     have o:=aA d;generalize aT s b=cc at *;have H:(cc==37)=false:=by simpa using Y
     clear f d A x E y;go_wp2_with (go_at_call 86;refine (aD l _).mono ?_;rintro e F ⟨rfl,rfl⟩);go_returns;exact ⟨rfl,C.o,q,v,t,by rw [o.o];exact G.o⟩
  ·rw [aH i] at d;have o:=aA d;rw [oS s b i] at N l;clear f d A x;go_wp2_with (go_at_call 86;refine (aD l _).mono ?_;rintro e F ⟨rfl,rfl⟩);go_returns;exact ⟨rfl,C.o,q,v,t,by rw [o.o];exact G.o⟩
end
theorem aLu(c:Int)(w:World):Calls zy 58 #[.int .i32 c] w λe a=>e=.returned (.bool (eK c))/\a=w:=by
 unfold eK;by_cases b:97<=c;all_goals
  go_enter Tryz.func58,Tryz.ntmps58;go_wp2;go_ret;exact ⟨dK (by rw [zq];simp;omega),rfl⟩
theorem aLv(c:Int)(w:World):Calls zy 60 #[.int .i32 c] w λe a=>e=.returned (.bool (dO c))/\a=w:=by
 unfold dO;by_cases b:65<=c;all_goals
  go_enter Tryz.func60,Tryz.ntmps60;go_wp2;go_ret;exact ⟨dK (by rw [zq];simp;omega),rfl⟩
theorem aYg(c:Int)(w:World):Calls zy 107 #[.int .i32 c] w λe a=>e=.returned (.bool (tE c))/\a=w:=by
 unfold tE;by_cases b:48<=c;all_goals
  go_enter Tryz.func107,Tryz.ntmps107;go_wp2;go_ret;exact ⟨dK (by rw [zq];simp;omega),rfl⟩
theorem aYh(c:Int)(w:World):Calls zy 88 #[.int .i32 c] w λe w'=>e=.returned (.bool (fD c))/\w'=w:=by
 have b:=aLu c w;have d:=aLv c w;have f:=aYg c w;have a:aM (fD c=(eK c || dO c || tE c || c==95)):=rfl;generalize eK c=b1 at *;generalize dO c=b2 at *;generalize tE c=b3 at *;go_enter Tryz.func88,Tryz.ntmps88;cases b1<;>cases b2<;>cases b3;all_goals
  go_wp2_with (first
   |(go_at_call 58;refine b.mono ?_;rintro e w' ⟨rfl,rfl⟩)
   |(go_at_call 60;refine d.mono ?_;rintro e w' ⟨rfl,rfl⟩)
   |(go_at_call 107;refine f.mono ?_;rintro e w' ⟨rfl,rfl⟩))
  go_ret;exact ⟨dK (by rw [a.o];simp),rfl⟩
def oW(c:Int):Bool:=decide (c=39) || decide (c=92)
theorem aYi(c:Int)(w:World):Calls zy 89 #[.int .i32 c] w λe f=>e=.returned (.bool (oW c))/\f=w:=by
 by_cases a:c=39
 ·have d:(c==39)=true:=by simp [a]
  have b:=aA (show oW c=true by simp [oW,a]);clear a;go_enter Tryz.func89,Tryz.ntmps89;go_wp2;go_ret;exact ⟨dK b.o.symm,rfl⟩
 ·have d:(c==39)=false:=by simp [a]
  have b:=aA (show oW c=(c==92) by simp [oW,a];rfl);clear a;go_enter Tryz.func89,Tryz.ntmps89;go_wp2;go_ret;exact ⟨dK b.o.symm,rfl⟩
theorem aLw:(zy.info? 21).map (λa=>(a.zero,a.size,a.bytes))=some (some (.int .i32 0),1,4):=by kernel_rfl
theorem aEp(d:Int):∀b∈[Value.int .i32 d],b.oneCell'=true:=by intro b a;simp at a;subst a;rfl
theorem aYj(a:Nat)(b:a<128):zv (a:Int)=⟨#[UInt8.ofNat a]⟩:=by
 have d:zj (a:Int)=true:=by rw [validRune_eq];unfold validRune;simp;omega
 unfold zv;simp [d,b]
theorem aBa(a:List Int)(b:Int):runesBytes (a++[b])=runesBytes a++zv b:=by unfold runesBytes;rw [List.foldl_append];rfl
theorem aYk(s:ByteArray)(p a:Nat)(g:p<=a)(f:a<s.size):s.extract p (a+1)=s.extract p a++⟨#[UInt8.ofNat (aE s a)]⟩:=by
 have b:s.extract a (a+1)=⟨#[UInt8.ofNat (aE s a)]⟩:=by
  rw [nD s a f];apply ByteArray.ext;rw [ByteArray.data_extract];apply Array.ext
  ·simp;have:a<s.data.size:=f;omega
  ·intro i b d;simp at d;subst d;simp;rfl
 rw [<-b];apply ByteArray.ext;simp only [ByteArray.data_append,ByteArray.data_extract];rw [Array.extract_append_extract];congr 1
 ·omega
 ·omega
def oX(s:ByteArray)(p b:Nat):List Int:=(List.range b).map λa=>(aE s (p+a):Int)
theorem aLx(s:ByteArray)(p a:Nat):oX s p (a+1)=oX s p a++[(aE s (p+a):Int)]:=by simp [oX,List.range_succ]
theorem aYl(s:ByteArray)(p:Nat):∀a,p+a<=s.size->(∀b,b<a->aE s (p+b)<128)->runesBytes (oX s p a)=s.extract p (p+a):=by
 intro a;induction a with
 |zero=>
  intro _ _;have:s.extract p (p+0)=ByteArray.empty:=by
   apply ByteArray.ext;rw [ByteArray.data_extract];apply Array.ext
   ·simp;omega
   ·intro b f d;simp at d
  rw [this];rfl
 |succ a ih=>
  intro f d;rw [aLx,aBa,ih (by omega) (λb g=>d b (by omega)),aYj _ (d a (by omega)),<-aYk s p (p+a) (by omega) (by omega)];rfl
theorem aEq(c:Nat)(a:fD (c:Int)=true):c<128:=by simp only [fD,eK,dO,tE,Bool.or_eq_true,Bool.and_eq_true,decide_eq_true_eq,beq_iff_eq] at a;omega
theorem aYm(s:ByteArray)(p:Nat):fD (aT s p)=(decide (p<s.size) && fD (aE s p)):=by
 by_cases a:p<s.size
 ·by_cases b:aE s p<128
  ·rw [(mR s p a b).1];simp [a]
  ·have d:fD (aE s p:Int)=false:=by
    cases hi:fD (aE s p:Int)
    ·rfl
    ·exact absurd (aEq _ hi) b
   rw [d];rcases yQ s p a (by omega) with e|e
   ·rw [e];simp;decide
   ·have:fD (aT s p)=false:=by
     simp only [fD,eK,dO,tE,Bool.or_eq_false_iff,Bool.and_eq_false_iff,decide_eq_false_iff_not,beq_eq_false_iff_ne];omega
    rw [this];simp
 ·rw [oS s p a];simp [a];decide
section
variable {B:Nat}{pb:Nat}{s:ByteArray}{p g j m c:Nat}{k a:Int}{wd:ByteArray}{vC vP vM:Value}
theorem bN.letters(f:bN B w pb s p g j m c k a wd vC vP vM):∀b,p+b<=s.size->(∀d,d<b->aE s (p+d)<128)->(bY s 0).drop (j+b)=bY s (p+b)/\b<=m:=by
 intro b;induction b with
 |zero=>intro _ _;exact ⟨f.drop,zp _⟩
 |succ b ih=>
  intro r i;obtain ⟨q,v⟩:=ih (by omega) (λd u=>i d (by omega));have o:=(mR s (p+b) (by omega) (i b (by omega))).2;unfold iC at o;have l:(bY s 0).drop (j+(b+1))=bY s (p+(b+1)):=by
   have e:(bY s 0).drop (j+(b+1))=((bY s 0).drop (j+b)).drop 1:=by rw [List.drop_drop];rfl
   rw [e,q,tF (by omega),o];rfl
  refine ⟨l,?_⟩;have:=congrArg List.length l;rw [zk,f.len] at this;have t:=(aAu s _ (p+(b+1)) (zt _)).1;omega
theorem bN.cells(d:bN B w pb s p g j m c k a wd vC vP vM)(q b:Nat)(o:(bY s 0).drop (j+q)=bY s b)(u:b<=s.size)(y:q<=m):w.cell? ⟨g,j*2+q*2,none⟩=some (.int .i32 (aT s b))/\w.cell? ⟨g,j*2+q*2+1,none⟩=some (.int .i64 b):=by
 obtain ⟨z,v⟩:=aEa s b u;have x:=d.len;have t:j+q<(bY s 0).length:=by omega
 have r:(bY s 0)[j+q]=(aT s b,b):=by
  have l:((bY s 0).drop (j+q))[0]?=some (aT s b,b):=by rw [o,v];rfl
  rw [List.getElem?_drop,List.getElem?_eq_getElem (by omega)] at l;simpa using l
 obtain ⟨f,i⟩:=aE5 (bY s 0) (j+q) t;rw [r] at f i;rw [show (j+q)*2=j*2+q*2 by omega] at f i;exact ⟨by rw [d.row.cellAt _ (by omega),f],by rw [d.row.cellAt _ (by omega),i]⟩
theorem bN.jump(b l f d:Nat)(i:bN B w pb s p g j (f+b) (d+b) k a wd vC vP vM)(o:(bY s 0).drop (j+b)=bY s l)(q:l<=s.size):bN B (w.setCell ⟨pb,0,none⟩ (.slice (some ⟨g,j*2+b*2,none⟩) (f+1) (d+1))) pb s l g (j+b) f d k a wd vC vP vM:=by rw [show j*2+b*2=(j+b)*2 by omega];refine ⟨i.box.set0 _,i.high,?_,by have:=i.len;omega,o,q⟩;have:=i.box.row i.row (by decide) 0 (.slice (some ⟨g,(j+b)*2,none⟩) (f+1) (d+1));rw [show j+b+f+1=j+(f+b)+1 by omega,show j+b+d+1=j+(d+b)+1 by omega];exact this
theorem bN.mc(b:bN B w pb s p g j m c k a wd vC vP vM):m<=c:=by
 obtain ⟨_,d⟩:=b.row;rcases d with ⟨e,_⟩|⟨l,f,i,e,_,_,o,_⟩
 ·simp at e
 ·simp at e;obtain ⟨_,rfl⟩:=e;omega
end
theorem aLy{a:Nat}(g:bO s a≠0)(u:p+bO s a<=n.size)(b:∀l,l<bO s a->aE n (p+l)=aE s (a+l)):bO n p=bO s a:=by
 have d:=b 0 (by omega);simp only [Nat.add_zero] at d;by_cases o:dF (aE s a)<=1
 ·rw [tS s a o] at g ⊢;rw [tS n p (by rw [d];exact o),d]
 ·obtain ⟨f,j⟩ : ∃f,dF (aE s a)=f:=⟨_,rfl⟩;have q:f<=4:=by rw [<-j];unfold dF;split<;>(try split)<;>(try split)<;>(try split)<;>(try split)<;>omega
  have i:=rV s a f j (by omega) q;have t:=rV n p f (by rw [d];exact j) (by omega) q;rw [i] at g;split at g
  ·exact absurd rfl g
  ·rename_i r;rw [aH r] at i;rw [i] at u b ⊢;rw [t,aH];intro h;apply r;have m:=b 1 (by omega);rcases h with h|h|h|h|h
   ·omega
   ·right;left;rw [<-m];exact h
   ·right;right;left;exact ⟨h.1,by rw [<-b 2 (by omega)];exact h.2⟩
   ·right;right;right;left;exact ⟨h.1,by rw [<-b 3 (by omega)];exact h.2⟩
   ·right;right;right;right;rw [<-d,<-m];exact h
inductive lY(n:ByteArray):Nat->Nat->Nat->Prop
 |done (p:Nat):lY n p p 0
 |step {p e k:Nat}:p<n.size->bO n p≠0->aE n p≠10->lY n (p+bO n p) e k->lY n p e (k+1)
theorem lY.name{n:ByteArray}{p e k:Nat}(d:lY n p e k)(i:e=n.size):∀b a,n.size-p<=b->gD n b p a=(decide (1<=a+k) && decide (a+k<=20)):=by
 induction d with
 |done p=>intro b a _;rw [aCc n b p a (by omega)];rfl
 |@step p e k h1 h2 h3 _ ih=>
  intro b a j;obtain ⟨g,l,f⟩:=aP1 n b p a h1 j (λd=>d.elim h2 h3);rw [f,ih i g (a+1) l,show a+1+k=a+(k+1) by omega]
theorem aEr(a d:ByteArray)(b:Nat):aE (a++d) b=if b<a.size then aE a b else aE d (b-a.size):=by
 rw [lZ,lZ,lZ];have:(a++d).data.toList=a.data.toList++d.data.toList:=by rw [ByteArray.data_append,Array.toList_append]
 rw [this,mW];by_cases f:b<a.data.toList.length
 ·rw [aI f,zz,zz,zw f]
 ·rw [aH f,zz,zz,List.getElem?_append_right (by omega)]
theorem lY.grow{x:ByteArray}(b:lY n p e k)(d:e<=n.size):lY (n++x) p e k:=by
 induction b with
 |done p=>exact .done p
 |@step p e k h1 h2 h3 _ ih=>
  have g:=aCb n p h1;have a:bO (n++x) p=bO n p:=aLy h2 (by rw [ByteArray.size_append];omega) (λi f=>by rw [aEr,aI (by omega)]);refine .step (by rw [ByteArray.size_append];omega) (by rw [a];exact h2) (by rw [aEr,aI h1];exact h3) ?_;rw [a];exact ih d
theorem lY.snoc(f:lY n p e k)(d:e<n.size)(b:bO n e≠0)(a:aE n e≠10):lY n p (e+bO n e) (k+1):=by
 induction f with
 |done p=>exact .step d b a (.done _)
 |step h1 h2 h3 _ ih=>exact .step h1 h2 h3 (ih d b a)
theorem lY.char{a:Nat}(l:lY n 0 n.size k)(o:a<s.size)(i:bO s a≠0)(m:aE s a≠10):lY (n++s.extract a (a+bO s a)) 0 (n++s.extract a (a+bO s a)).size (k+1):=by
 have r:=aCb s a o;have d:(s.extract a (a+bO s a)).size=bO s a:=by rw [ByteArray.size_extract];omega
 have j:∀b,b<bO s a->aE (n++s.extract a (a+bO s a)) (n.size+b)=aE s (a+b):=by intro b q;rw [aEr,aH (by omega),show n.size+b-n.size=b by omega,nD _ b (by omega),nD s (a+b) (by omega)];rw [ByteArray.getElem_extract]
 have f:bO (n++s.extract a (a+bO s a)) n.size=bO s a:=aLy i (by rw [ByteArray.size_append,d];omega) j;have g:=j 0 (by omega);simp only [Nat.add_zero] at g;have:=(l.grow (x:=s.extract a (a+bO s a)) (zt _)).snoc (by rw [ByteArray.size_append,d];omega) (by rw [f];exact i) (by rw [g];exact m);rw [f] at this;rw [ByteArray.size_append,d];exact this
theorem aYn(n:Nat)(j:zj (n:Int)=true):(zv (n:Int)).data.toList=Lib.encodeRune (n:Int):=by
 have d:=j;rw [validRune_eq] at d;unfold validRune at d;rw [decide_eq_true_eq] at d;unfold Lib.encodeRune zv;simp only [j,if_true,Int.toNat_natCast];by_cases f:n<128
 ·rw [aI f,Lib.encodeRuneZ_one (by omega) (by omega)];rfl
 ·rw [aH f];by_cases g:n<2048
  ·rw [aI g,Lib.encodeRuneZ_two (by omega) (by omega)];have a:(192+(n:Int) / 64).toNat=192+n / 64:=by omega
   have b:(128+(n:Int) % 64).toNat=128+n % 64:=by omega
   simp only [zo,zl,a,b]
  ·rw [aH g];by_cases i:n<65536
   ·rw [aI i,Lib.encodeRuneZ_three (by omega)];have a:(224+(n:Int) / 4096).toNat=224+n / 4096:=by omega
    have b:(128+(n:Int) / 64 % 64).toNat=128+n / 64 % 64:=by omega
    have c:(128+(n:Int) % 64).toNat=128+n % 64:=by omega
    simp only [zo,zl,a,b,c]
   ·rw [aH i,Lib.encodeRuneZ_four (by omega) (by omega)];have a:(240+(n:Int) / 262144).toNat=240+n / 262144:=by omega
    have b:(128+(n:Int) / 4096 % 64).toNat=128+n / 4096 % 64:=by omega
    have c:(128+(n:Int) / 64 % 64).toNat=128+n / 64 % 64:=by omega
    have l:(128+(n:Int) % 64).toNat=128+n % 64:=by omega
    simp only [zo,zl,a,b,c,l]
theorem aEs(s:ByteArray)(a:Nat)(b:a<s.size)(d:aT s a≠-2):zv (aT s a)=s.extract a (a+iC s a)/\bO s a=iC s a:=by
 have f:¬((zu s a).1=65533/\(zu s a).2=1):=by intro e;apply d;unfold aT lW;rw [aI b,aI e]
 have i:aT s a=((zu s a).1:Int):=by unfold aT lW;rw [aI b,aH f]
 have j:s.data.toList.drop a≠[]:=by intro d;have:=congrArg List.length d;simp only [zk,<-mW,List.length_nil] at this;omega
 have g:=Lib.encode_decode (s.data.toList.drop a) j (by rw [Lib.decodeL_drop];exact f);rw [Lib.decodeL_drop] at g;have o:=yS s a b;refine ⟨?_,by rw [aBe s a b];unfold rU;rw [aH f];rfl⟩;rw [i];apply ByteArray.ext;apply Array.toList_inj.1;have l:=aE9 s a;have m:zj ((zu s a).1:Int)=true:=by
  rcases l with e|e|e
  ·exact absurd e (aAy s a b)
  ·exact absurd e d
  ·rw [<-i];exact e
 have:(zv ((zu s a).1:Int)).data.toList=Lib.encodeRune ((zu s a).1:Int):=aYn _ m;rw [this,g,ByteArray.data_extract,Array.toList_extract];simp [iC]
structure rT(rs:List Int):Prop where
 cs:lY (runesBytes rs) 0 (runesBytes rs).size rs.length
theorem rT.nil:rT []:=⟨.done _⟩
theorem rT.name{a:List Int}(b:rT a):eS (runesBytes a)=(decide (1<=a.length) && decide (a.length<=20)):=by unfold eS;rw [b.cs.name rfl _ 0 (by omega)];simp
theorem rT.more{rs:List Int}{a:Nat}(g:rT rs)(b:a<s.size)(j:aT s a≠-2)(i:aT s a≠10):rT (rs++[aT s a]):=by obtain ⟨d,f⟩:=aEs s a b j;have l:=yR s a;refine ⟨?_⟩;rw [aBa,d,<-f,List.length_append,List.length_singleton];exact g.cs.char b (by omega) (λe=>i ((eX s a b 10 (by omega)).2 e))
section
variable {s:ByteArray}{rs:List Int}{f q:Nat}
theorem aYo(i:s.size<=q+f)(d:aT s q=39):q<s.size/\fE s f (runesBytes rs) q=if eS (runesBytes rs) then some (runesBytes rs,q+1) else none:=by
 have a:q<s.size:=Classical.byContradiction λg=>by rw [oS s q g] at d;omega
 obtain ⟨b,rfl⟩ : ∃b,f=b+1:=⟨f-1,by omega⟩;refine ⟨a,?_⟩;rw [fE,aI a,aI ((eX s q a 39 (by omega)).1 d)]
theorem aYp(i:s.size<=q+f)(d:aT s q≠39)(g:aT s q≠92)(h:aT s q=10\/aT s q=-2\/aT s q=-1):fE s f (runesBytes rs) q=none:=by
 by_cases a:q<s.size
 ·obtain ⟨b,rfl⟩ : ∃b,f=b+1:=⟨f-1,by omega⟩;rw [fE,aI a,aH (λe=>d ((eX s q a 39 (by omega)).2 e)),aH (λe=>g ((eX s q a 92 (by omega)).2 e)),aI];rcases h with h|h|h
  ·exact Or.inr ((eX s q a 10 (by omega)).1 h)
  ·left;unfold aT lW at h;rw [aI a] at h;rw [aBe s q a];unfold rU;split at h
   ·rename_i e;rw [aI e]
   ·omega
  ·exact absurd h (aAy s q a)
 ·cases f with
  |zero=>rfl
  |succ f=>rw [fE,aH a]
theorem aYq(a:q<s.size)(j:aT s q≠39)(l:aT s q≠92)(g:aT s q≠10)(i:aT s q≠-2):fE s (f+1) (runesBytes rs) q=fE s f (runesBytes (rs++[aT s q])) (q+iC s q):=by
 obtain ⟨b,d⟩:=aEs s q a i;have m:=yR s q;rw [fE,aI a,aH (λe=>j ((eX s q a 39 (by omega)).2 e)),aH (λe=>l ((eX s q a 92 (by omega)).2 e)),aH,aBa,b,d];rintro (h|h)
 ·omega
 ·exact g ((eX s q a 10 (by omega)).2 h)
theorem aYr(g:q<s.size)(r:aT s q=92):fE s (f+1) (runesBytes rs) q=if oW (aT s (q+1))=true then fE s f (runesBytes (rs++[aT s (q+1)])) (q+2) else none:=by
 have d:=(eX s q g 92 (by omega)).1 r;rw [fE,aI g,aH (by rw [d];decide),aI d];by_cases a:q+1<s.size
 ·have i:=eX s (q+1) a 39 (by omega);have j:=eX s (q+1) a 92 (by omega);by_cases he:aE s (q+1)=39\/aE s (q+1)=92
  ·have b:oW (aT s (q+1))=true:=by
    unfold oW;rcases he with he|he
    ·rw [i.2 he];rfl
    ·rw [j.2 he];rfl
   have t:aE s (q+1)<128:=by omega
   obtain ⟨m,o⟩:=mR s (q+1) a t;obtain ⟨l,_⟩:=aEs s (q+1) a (by rw [m];omega);rw [aI ⟨a,he⟩,aI b,aBa,l,o]
  ·have b:¬oW (aT s (q+1))=true:=by
    unfold oW;intro h;simp only [Bool.or_eq_true,decide_eq_true_eq] at h;rcases h with h|h
    ·exact he (Or.inl (i.1 h))
    ·exact he (Or.inr (j.1 h))
   rw [aH (λh=>he h.2),aH b]
 ·rw [aH (λh=>a h.1),oS s (q+1) a];rfl
end
theorem aYs(a:Nd)(b:List Nd):bA (a::b)=.string a.1::.int .i64 a.2::bA b:=rfl
theorem aYt(a:List Nd):∀(k n:Nat),(bA a).set (k*2+1) (.int .i64 n)=bA (dR a k n):=by
 induction a with
 |nil=>intro k n;simp [bA,dR]
 |cons x r ih=>
  intro k n;cases k with
  |zero=>rfl
  |succ k=>
   have:=ih k n;rw [show (k+1)*2+1=k*2+1+1+1 by omega,aYs,zm,zm,this];rfl
structure TL(L T:List Tk)(brk:Int):Prop where
 kind:∀i,(aJ L i).kind=(aJ T i).kind
 txt:∀i,(aJ L i).txt=(aJ T i).txt
 pos:∀i,(aJ T i).kind≠63->(aJ L i).pos=(aJ T i).pos
 bad:∀i,i<T.length->aB9 L brk i=(aJ T i).pos
 more:∀i,i<T.length->(aJ T i).kind≠101->(aJ T i).kind≠63->i+1<T.length
 few:T.length<=1000002
theorem aLz{b:Tk}(a:dQ s k=.tok b e):b.kind≠101/\b.kind≠63:=by
 unfold dQ at a;split at a
 ·split at a
  ·cases a
  ·simp only [Nx.tok.injEq] at a;rw [<-a.1];simp only;split<;>decide
 ·split at a
  ·split at a
   ·simp only [Nx.tok.injEq] at a;rw [<-a.1];exact ⟨by simp,by simp⟩
   ·cases a
  ·split at a
   ·split at a
    ·simp only [Nx.tok.injEq] at a;rw [<-a.1];exact ⟨by simp,by simp⟩
    ·cases a
   ·split at a
    ·rename_i d;simp only [Nx.tok.injEq] at a;rw [<-a.1];simp only;unfold mQ at d;simp at d;omega
    ·cases a
theorem aM0(s:ByteArray):∀b k,(∀a∈(cD s b k).1.dropLast,a.kind≠101/\a.kind≠63)/\((cD s b k).2=none->∃i a,(cD s b k).1=i++[a]/\a.kind=101)/\((cD s b k).2≠none->∀a∈(cD s b k).1,a.kind≠101/\a.kind≠63)/\(∀a∈(cD s b k).1,a.kind≠63):=by
 intro b;induction b with
 |zero=>intro k;simp [cD]
 |succ b ih=>
  intro k;rw [cD];split
  ·split
   ·exact ih _
   ·split
    ·exact ih _
    ·split
     ·rename_i a e o;have f:=aLz o;obtain ⟨j,q,t,u⟩:=ih e;refine ⟨?_,?_,?_,?_⟩
      ·intro d hu;simp only at hu;cases hr:(cD s b e).1 with
       |nil=>rw [hr] at hu;simp at hu
       |cons y r=>
        rw [hr] at hu j;rw [List.dropLast_cons_of_ne_nil (by simp)] at hu;rcases zs.1 hu with rfl|hu
        ·exact f
        ·exact j d hu
      ·intro g;obtain ⟨i,d,l,m⟩:=q g;exact ⟨a::i,d,by simp only [l,List.cons_append],m⟩
      ·intro g d hu;rcases zs.1 hu with rfl|hu
       ·exact f
       ·exact t g d hu
      ·intro d hu;rcases zs.1 hu with rfl|hu
       ·exact f.2
       ·exact u d hu
     ·simp
  ·refine ⟨by simp,λ_=>⟨[],_,rfl,rfl⟩,by simp,by simp⟩
theorem aM1(s:ByteArray):∀a k,(cD s a k).1.length<=a:=by
 intro a;induction a with
 |zero=>intro k;simp [cD]
 |succ a ih=>
  intro k;rw [cD];split
  ·split
   ·have:=ih (k+1);omega
   ·split
    ·have:=ih (iB s k);omega
    ·split
     ·rename_i d e b;have:=ih e;simp only [List.length_cons];omega
     ·simp
  ·simp
theorem aEt(s:ByteArray)(z:s.size<=1000000):TL (cD s (s.size+1) 0).1 (eE (cD s (s.size+1) 0)) (aL8 (cD s (s.size+1) 0).2):=by
 obtain ⟨_,o,x,_⟩:=aM0 s (s.size+1) 0;have u:=aM1 s (s.size+1) 0;generalize cD s (s.size+1) 0=r at *;obtain ⟨b,q⟩:=r;simp only at o x u;cases q with
 |none=>
  have j:eE (b,none)=b:=by simp [eE]
  rw [j];refine ⟨λ_=>rfl,λ_=>rfl,λ_ _=>rfl,λa f=>by simp [aB9,aJ,f],λa f l _=>?_,by omega⟩;obtain ⟨y,A,rfl,v⟩:=o rfl;by_cases t:a=y.length
  ·subst t;exact absurd (by simpa [aJ] using v) l
  ·simp at f ⊢;omega
 |some p=>
  have j:eE (b,some p)=b++[⟨63,⟨#[]⟩,p⟩]:=by simp [eE]
  rw [j];have i:∀a,(a<b.length/\aJ (b++[⟨63,⟨#[]⟩,p⟩]) a=aJ b a)\/(a=b.length/\aJ (b++[⟨63,⟨#[]⟩,p⟩]) a=⟨63,⟨#[]⟩,p⟩/\aJ b a=uP)\/(b.length<a/\aJ (b++[⟨63,⟨#[]⟩,p⟩]) a=uP/\aJ b a=uP):=by
   intro a;rcases Nat.lt_trichotomy a b.length with h|h|h
   ·exact Or.inl ⟨h,by simp [aJ,zw h]⟩
   ·subst h;exact Or.inr (Or.inl ⟨rfl,by simp [aJ],by simp [aJ]⟩)
   ·refine Or.inr (Or.inr ⟨h,?_,?_⟩)
    ·unfold aJ;rw [zz,zx (by simp;omega)];rfl
    ·unfold aJ;rw [zz,zx (by omega)];rfl
  refine ⟨λa=>?_,λa=>?_,λa f=>?_,λa f=>?_,λa f l m=>?_,by simp;omega⟩
  ·rcases i a with ⟨_,h⟩|⟨_,h,d⟩|⟨_,h,d⟩
   ·rw [h]
   ·rw [h,d];rfl
   ·rw [h,d]
  ·rcases i a with ⟨_,h⟩|⟨_,h,d⟩|⟨_,h,d⟩
   ·rw [h]
   ·rw [h,d];rfl
   ·rw [h,d]
  ·rcases i a with ⟨_,h⟩|⟨_,h,d⟩|⟨_,h,d⟩
   ·rw [h]
   ·rw [h] at f;exact absurd rfl f
   ·rw [h,d]
  ·rcases i a with ⟨g,h⟩|⟨g,h,d⟩|⟨g,h,d⟩
   ·rw [h];simp [aB9,aJ,g]
   ·rw [h];simp [aB9,g,aL8]
   ·simp at f;omega
  ·rcases i a with ⟨g,h⟩|⟨g,h,d⟩|⟨g,h,d⟩
   ·simp;omega
   ·rw [h] at m;exact absurd rfl m
   ·simp at f;omega
theorem wX{d:Nat}{e:TypeId}{i:Nat}{b:Value}{n:Nat}{j:List Value}(g:w.ownsRow d e i b n j)(o:0<n):∃a c,b=.slice (some ⟨a,0,none⟩) n c:=by
 obtain ⟨_,⟨rfl,m⟩|⟨a,f,l,rfl,_⟩⟩:=g
 ·omega
 ·exact ⟨a,f,rfl⟩
theorem aYu(a:List Nd)(s:ByteArray):dR (a++[(s,0)]) a.length 0=a++[(s,0)]:=by
 unfold dR;induction a with
 |nil=>rfl
 |cons x r ih=>simpa using ih
theorem aYv{A f:List Tk}{B:Int}(o:TL A f B):∀l,(∀t b i d j,cJ f l t b i=.ok (d,j)->b.i<f.length->d.i<f.length)/\(∀b i n d j v,dS f l b i n=.ok (d,j,v)->b.i+1<f.length->d.i<f.length):=by
 intro l;induction l with
 |zero=>exact ⟨λt b i d j a=>by simp [cJ] at a,λb i n d j v a=>by simp [dS] at a⟩
 |succ l ih=>
  obtain ⟨E,y⟩:=ih;constructor
  ·intro t b i d j a q;rw [cJ] at a;split at a
   ·rename_i g;simp only [Except.ok.injEq,Prod.mk.injEq] at a;obtain ⟨rfl,rfl⟩:=a;exact o.more _ q (by rw [g.1];decide) (by rw [g.1];decide)
   ·split at a
    ·simp at a
    ·rename_i g;have g:(aJ f b.i).kind=110:=by simpa using g
     have x:=o.more _ q (by rw [g];decide) (by rw [g];decide);split at a
     ·rename_i r;split at a
      ·simp at a
      ·rename_i G F H D;simp only [Except.ok.injEq,Prod.mk.injEq] at a;obtain ⟨rfl,rfl⟩:=a;have u:=o.more _ x (by rw [r];decide) (by rw [r];decide);have C:=y _ _ _ _ _ _ D u;exact C
     ·simp only [Except.ok.injEq,Prod.mk.injEq] at a;obtain ⟨rfl,rfl⟩:=a;exact x
  ·intro b i n d j v a q;rw [dS] at a;split at a
   ·simp at a
   ·rename_i G F r;have z:=E _ _ _ _ _ r q;split at a
    ·rename_i m;have u:=o.more _ z (by rw [m];decide) (by rw [m];decide);exact y _ _ _ _ _ _ a u
    ·split at a
     ·rename_i m;simp only [Except.ok.injEq,Prod.mk.injEq] at a;obtain ⟨rfl,rfl,rfl⟩:=a;exact o.more _ z (by rw [m];decide) (by rw [m];decide)
     ·simp at a
theorem wY:(⟨#[]⟩ : ByteArray).size=0:=rfl
theorem aM2(s:ByteArray)(a b:Nat):(s.extract a b).size<=b-a:=by rw [ByteArray.size_extract];omega
theorem aYw(s:ByteArray):∀b d p n e,fE s b d p=some (n,e)->n.size+p<=d.size+e/\e<=s.size:=by
 intro b;induction b with
 |zero=>intro d p n e a;simp [fE] at a
 |succ b ih=>
  intro d p n e a;rw [fE] at a;split at a
  ·split at a
   ·split at a
    ·simp at a;obtain ⟨rfl,rfl⟩:=a;omega
    ·simp at a
   ·split at a
    ·split at a
     ·have f:=ih _ _ _ _ a;have:=aM2 s (p+1) (p+2);rw [ByteArray.size_append] at f;omega
     ·simp at a
    ·split at a
     ·simp at a
     ·have f:=ih _ _ _ _ a;have:=aM2 s p (p+bO s p);rw [ByteArray.size_append] at f;omega
  ·simp at a
theorem aYx{b:Tk}(a:dQ s k=.tok b e):b.txt.size<=s.size:=by
 unfold dQ at a;split at a
 ·split at a
  ·cases a
  ·simp only [Nx.tok.injEq] at a;rw [<-a.1];simp only;rw [ByteArray.size_extract];omega
 ·split at a
  ·split at a
   ·rename_i n g d;simp only [Nx.tok.injEq] at a;rw [<-a.1];have f:=aYw _ _ _ _ _ _ d;rw [wY] at f;show n.size<=s.size;omega
   ·cases a
  ·split at a
   ·split at a
    ·simp only [Nx.tok.injEq] at a;rw [<-a.1];exact zp _
    ·cases a
   ·split at a
    ·simp only [Nx.tok.injEq] at a;rw [<-a.1];exact zp _
    ·cases a
theorem aYy(s:ByteArray):∀a k,∀d∈(cD s a k).1,d.txt.size<=s.size:=by
 intro a;induction a with
 |zero=>intro k;simp [cD]
 |succ a ih=>
  intro k;rw [cD];split
  ·split
   ·exact ih _
   ·split
    ·exact ih _
    ·split
     ·rename_i d e b;intro f hu;rcases zs.1 hu with rfl|hu
      ·exact aYx b
      ·exact ih _ f hu
     ·simp
  ·intro d b;simp at b;rw [b];exact zp _
structure yY(L T:List Tk):Prop where
 small:∀i,(aJ T i).txt.size<=1000000
 low:∀i,i<L.length->(aJ T i).kind≠63/\i<T.length
 rest:∀i,¬i<L.length->(aJ T i).kind=63
theorem aBb(s:ByteArray)(q:s.size<=1000000):yY (cD s (s.size+1) 0).1 (eE (cD s (s.size+1) 0)):=by
 obtain ⟨_,_,_,l⟩:=aM0 s (s.size+1) 0;have j:=aYy s (s.size+1) 0;generalize cD s (s.size+1) 0=r at *;obtain ⟨d,f⟩:=r;simp only at l j;have i:∀a,(a<d.length/\aJ (eE (d,f)) a∈d/\a<(eE (d,f)).length)\/(¬a<d.length/\(aJ (eE (d,f)) a).kind=63/\(aJ (eE (d,f)) a).txt=⟨#[]⟩):=by
  intro a;by_cases b:a<d.length
  ·refine Or.inl ⟨b,?_,by simp [eE];omega⟩;have:aJ (eE (d,f)) a=d[a]:=by simp [aJ,eE,zw b,b]
   rw [this];exact zr _
  ·refine Or.inr ⟨b,?_⟩;cases f with
   |none=>
    have:aJ (eE (d,none)) a=uP:=by simp only [aJ,eE,List.append_nil];rw [zz,zx (by omega)];rfl
    rw [this];exact ⟨rfl,rfl⟩
   |some p=>
    by_cases o:a=d.length
    ·subst o;have:aJ (eE (d,some p)) d.length=⟨63,⟨#[]⟩,p⟩:=by simp [aJ,eE]
     rw [this];exact ⟨rfl,rfl⟩
    ·have:aJ (eE (d,some p)) a=uP:=by simp only [aJ,eE];rw [zz,zx (by simp;omega)];rfl
     rw [this];exact ⟨rfl,rfl⟩
 refine ⟨λa=>?_,λa g=>?_,λa g=>?_⟩
 ·rcases i a with ⟨_,b,_⟩|⟨_,_,b⟩
  ·have:=j _ b;omega
  ·rw [b,wY];omega
 ·rcases i a with ⟨_,b,m⟩|⟨b,_⟩
  ·exact ⟨l _ b,m⟩
  ·exact absurd g b
 ·rcases i a with ⟨b,_⟩|⟨_,b,_⟩
  ·exact absurd b g
  ·exact b
def eF(a:List Nd):Prop:=∀x∈a,x.1.size<=1000000
theorem yZ{a:List Nd}{x:Nd}(b:eF a)(d:x.1.size<=1000000):eF (a++[x]):=by
 intro f hy;rcases List.mem_append.1 hy with hy|hy
 ·exact b f hy
 ·simp at hy;subst hy;exact d
theorem aYz{d:List Nd}(f:eF d)(k n:Nat):eF (dR d k n):=by
 intro j b;unfold dR at b;rw [List.mem_iff_getElem?] at b;obtain ⟨i,a⟩:=b;rw [List.getElem?_modify] at a;cases hq:d[i]? with
 |none=>rw [hq] at a;simp at a
 |some z=>
  rw [hq] at a;have g:=f z (List.mem_of_getElem? hq);simp at a;subst a;split<;>exact g
theorem aZ0{u j:List Tk}(z:yY u j):∀i,(∀m f b g d,cJ j i m f b=.ok (g,d)->eF b->eF d)/\(∀f b n g d o,dS j i f b n=.ok (g,d,o)->eF b->eF d):=by
 intro i;induction i with
 |zero=>exact ⟨λm f b g d a=>by simp [cJ] at a,λf b n g d o a=>by simp [dS] at a⟩
 |succ i ih=>
  obtain ⟨A,r⟩:=ih;constructor
  ·intro m f b g d a l;rw [cJ] at a;split at a
   ·simp only [Except.ok.injEq,Prod.mk.injEq] at a;obtain ⟨rfl,rfl⟩:=a;exact yZ l (by rw [wY];omega)
   ·split at a
    ·simp at a
    ·have q:=yZ (x:=((aJ j f.i).txt,0)) l (z.small _);split at a
     ·split at a
      ·simp at a
      ·rename_i C B D y;simp only [Except.ok.injEq,Prod.mk.injEq] at a;obtain ⟨rfl,rfl⟩:=a;exact aYz (r _ _ _ _ _ _ y q) _ _
     ·simp only [Except.ok.injEq,Prod.mk.injEq] at a;obtain ⟨rfl,rfl⟩:=a;exact q
  ·intro f b n g d o a l;rw [dS] at a;split at a
   ·simp at a
   ·rename_i C B v;have t:=A _ _ _ _ _ v l;split at a
    ·exact r _ _ _ _ _ _ a t
    ·split at a
     ·simp only [Except.ok.injEq,Prod.mk.injEq] at a;obtain ⟨rfl,rfl,rfl⟩:=a;exact t
     ·simp at a
def qV(w:World)(b:Nat)(p:List (Lt×Value)×Value):Prop:=w.ownsRow b 86 2 p.2 p.1.length (bF p.1)/\∀a∈p.1,w.ownsRow b 117 2 a.2 a.1.2.length (bA a.1.2)
theorem aEu{g:Nat}{i:Value}{P:List (Lt×Value)}(o:w.ownsRow g 86 2 i P.length (bF P))(u:∀a∈P,w.ownsRow g 117 2 a.2 a.1.2.length (bA a.1.2))(A:∀a∈P,eF a.1.2)(C:aS (P.map Prod.fst)<=1000000)(E:P.length<=2000000):∃b d,i=.slice b P.length d/\cH w b (P.map Prod.fst):=by
 obtain ⟨b,d,rfl,x⟩:=tV o;refine ⟨b,d,rfl,⟨by simp;omega,λk y=>?_⟩⟩;have z:k<P.length:=by simpa using y
 obtain ⟨m,rfl,q,r⟩:=x k z;have f:P[k]∈P:=zr _;have D:=vJ (P.map Prod.fst) P[k].1 (List.mem_map.2 ⟨_,f,rfl⟩);obtain ⟨j,l,B,t⟩:=vI (u _ f) (by omega) (λF v=>by have:=A _ f _ (zr v);omega);refine ⟨m,0,j,l,rfl,?_,?_,?_⟩
 ·simpa using q
 ·rw [Nat.zero_add,r,B];simp
 ·simpa using t
theorem aZ1:(zy.info? 51).map (λa=>(a.zero,a.size,a.bytes))=some (some (.slice none 0 0),1,24):=by kernel_rfl
theorem aZ2{q:Array Oper}{b:Oper}{a:Act}{w:World}{K:Act->World->Prop}{t:Exit->Act->World->Prop}{r:Prop}(z:b.guard=none)(d:Nat)(j:Array Operand)(E:Array TypeId)
  (B:b.op=.call {callee:=.value (.func d),args:=j,argTypes:=E}) (y:∀o w,(callFunc d o).run zy w=.ok (.enter d o) w) (f:Array Value) (i:j.toList.map a.eval=f.toList) {m:Ending->World->Prop} (x:Calls zy d f w m)
  (u:∀e g,m e g->∃l,e=.returned l/\K (a.put b.dst l) g):if Region.wanted b (yielded q a.tmps)=true then Oper.wp zy b a w K t else r:=by
 have D:Region.wanted b (yielded q a.tmps)=true:=by simp [Region.wanted,z]
 rw [aI D];have C:(execOp a.eval b).run zy w=.ok (.enter d f) w:=by
  have i:j.map a.eval=f:=by apply Array.ext';rw [Array.toList_map];exact i
  subst i;simp [execOp,B,resolve,invoke,y,Act.eval,Deferred.ofValue]
 unfold Oper.wp;rw [C,Oper.upon_enter];exact x.mono λe g v=>by
  obtain ⟨l,rfl,A⟩:=u e g v;exact A
def kS(b:List Tk)(a:bC):bC:=⟨if (aJ b a.i).kind=126 then a.i+1 else a.i,a.vars,a.pz⟩
theorem aEv{a:List Tk}{f:Nat}{d:bC}(b:cJ a (a.length+1) true (kS a d) []=.error p):fS a (f+1) d c=.error p:=by unfold kS at b;rw [fS,b]
theorem aEw{a:List Tk}{g:Nat}{d b:bC}{f:List Nd}(i:cJ a (a.length+1) true (kS a d) []=.ok (b,f))(j:(aJ a b.i).kind=124):fS a (g+1) d c=fS a g ⟨b.i+1,b.vars,b.pz⟩ (c++[(decide ((aJ a d.i).kind=126),f)]):=by unfold kS at i;rw [fS,i];simp only;rw [aI j]
theorem aEx{a:List Tk}{i:Nat}{d b:bC}{f:List Nd}(g:cJ a (a.length+1) true (kS a d) []=.ok (b,f))(j:(aJ a b.i).kind≠124):fS a (i+1) d c=.ok (b,c++[(decide ((aJ a d.i).kind=126),f)]):=by unfold kS at g;rw [fS,g];simp only;rw [aH j]
theorem aEy(b:List Tk)(a:bC):a.i<=(kS b a).i/\(kS b a).i<=a.i+1/\(kS b a).vars=a.vars/\(kS b a).pz=a.pz:=by unfold kS;simp only;split<;>simp
theorem aZ3{g a:List Tk}{i:Int}(j:TL g a i){f:bC}(b:f.i<a.length):(kS a f).i<a.length:=by
 unfold kS;simp only;split
 ·rename_i d;exact j.more _ b (by rw [d];decide) (by rw [d];decide)
 ·exact b
