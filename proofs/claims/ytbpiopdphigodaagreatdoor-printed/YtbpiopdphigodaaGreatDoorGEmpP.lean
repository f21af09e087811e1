import Derived.Test.YtbpiopdphigodaaGreatDoorGQuoP
open Array renaming getElem?_push→zp,toList_append→zo
open Bool renaming and_eq_false_iff→zv
open List renaming getD_eq_getElem?_getD→zw,getElem?_eq_getElem→zt,append_assoc→zr,getElem?_eq_none→zq,drop_append→zn,length_drop→zm
open Nat renaming le_refl→zy
namespace Go.Proofs.YtbpiopdphigodaaGreatDoor
open _root_.Go.Proofs.Tryz renaming results30→zu,prog→zs
open World renaming cell?→zz,frozen?→zx
open Go.RowKit
set_option maxHeartbeats 3000000
set_option maxRecDepth 100000
variable{s:ByteArray}{k p:Nat}{t:Tk}{w:World}
abbrev fB:ByteArray:=⟨#[36,102,97,108,115,101]⟩
def sO(s:ByteArray)(p:Nat):Prop:=p+6<=s.size/\s.extract p (p+6)=fB
theorem xU:∀a,a<6->aE fB a<128:=by
 have:∀a:Fin 6,aE fB a.1<128:=by decide
 exact λa b=>this ⟨a,b⟩
theorem aEw:sO s p↔p+6<=s.size/\∀a,a<6->aE s (p+a)=aE fB a:=by
 unfold sO;constructor
 ·rintro ⟨b,c⟩;refine ⟨b,λa l=>?_⟩;have:aE (s.extract p (p+6)) a=aE fB a:=by rw [c]
  rw [<-this,kZ (s.extract p (p+6)) a (by rw [ByteArray.size_extract];omega),kZ s (p+a) (by omega),ByteArray.getElem_extract]
 ·rintro ⟨b,c⟩;refine ⟨b,?_⟩;apply ByteArray.ext;apply Array.ext
  ·have:(s.extract p (p+6)).size=6:=by rw [ByteArray.size_extract];omega
   exact this
  ·intro a i j;have e:a<6:=j;have d:=c a e;rw [kZ s (p+a) (by omega),kZ fB a e] at d;have f:(s.extract p (p+6))[a]'i=s[p+a]'(by omega):=ByteArray.getElem_extract ..;have g:=UInt8.toNat_inj.1 d;exact f.trans g
def aNb(c a:Nat)(s:ByteArray)(p f o r m:Nat)(k d:Int)(l:ByteArray)(g j i:Value)(w:World)(e:Ending)(b:World):Prop:=
 w.grownBy b (some a)/\((sO s p/\e=.returned (fJ 36 p ⟨#[]⟩)/\∃q u n,bJ c b a s (p+6) f q u n k d l g j i)\/(¬sO s p/\e=.returned (fJ (-2) p ⟨#[]⟩)/\bJ c b a s p f o r m k d l g j i))
section
variable {B:Nat}{pb:Nat}{s:ByteArray}{p g j m c:Nat}{k a:Int}{wd:ByteArray}{vC vP vM:Value}
theorem aEx(x:bJ B w pb s p g j m c k a wd vC vP vM):Calls zs 55 #[.pointer (some ⟨pb,0,none⟩)] w λO e4=>aNb B pb s p g j m c k a wd vC vP vM w O e4:=by
 have N:=x.box.c0;have a6:=x.at0.2;have c2:∀f,(w.alloc f).cell? ⟨pb,0,none⟩=some (.slice (some ⟨g,j*2,none⟩) (m+1) (c+1)):=λf=>aD ((Below.refl _ w).alloc (zy _) f) N
 have c3:∀f,(w.alloc f).cell? ⟨g,j*2+1,none⟩=some (.int .i64 p):=λf=>aD ((Below.refl _ w).alloc (zy _) f) a6
 have Z:aI (∀f l,aB w ((w.alloc f).alloc l)):=aA λf l=>((Below.refl _ _).alloc (zy _) f).alloc (by simp) l
 have a4:aI (∀f l,((w.alloc f).alloc l).heap[w.heap.size]?=some f/\((w.alloc f).alloc l).heap[w.heap.size+1]?=some l/\((w.alloc f).alloc l).heap.size=w.heap.size+2):=aA λf l=>⟨by show ((w.heap.push _).push _)[w.heap.size]?=_;simp [zp],by
  show ((w.heap.push f).push l)[w.heap.size+1]?=_;have x:((w.heap.push f).push l)[(w.heap.push f).size]?=some l:=by rw [zp];exact aG rfl
  rwa [Array.size_push] at x,by simp⟩
 have D:=aA x;have d6:=x.box.lt;clear x N a6;go_enter Tryz.func55,Tryz.ntmps55;go_wp2;have T:=Z.o (.cells #[.int .i32 0,.int .i64 0,.string ⟨#[]⟩] 47) (.cells #[.int .i32 36,.int .i64 p,.string ⟨#[]⟩] 47);have R:=aA (D.o.below T);obtain ⟨b0,b1,b2⟩:=a4.o (.cells #[.int .i32 0,.int .i64 0,.string ⟨#[]⟩] 47) (.cells #[.int .i32 36,.int .i64 p,.string ⟨#[]⟩] 47);have a0:=aA T;have S:=aA b0;have a5:=aA b1;clear T b0 b1 Z a4 c2 c3;generalize (w.alloc (.cells #[.int .i32 0,.int .i64 0,.string ⟨#[]⟩] 47)).alloc (.cells #[.int .i32 36,.int .i64 p,.string ⟨#[]⟩] 47)=w2 at *;obtain ⟨d,Q⟩ : ∃d,w.heap.size=d:=⟨_,rfl⟩;rw [Q] at b2 S a5 d6;simp only [Q];have a2:=aA Q;clear Q;go_loopg [] 6 (λd9 wr=>∃b:Nat,d9+b=6/\wr.heap[d+2]?=some (.stringIter fB b)/\aB w2 wr/\p+b<=s.size/\∀i,i<b->aE s (p+i)=aE fB i);case atStart=>
  refine ⟨0,rfl,?_,(Below.refl _ w2).alloc (zy _) _,D.o.le,λi X=>by omega⟩;have:=World.iter_heap w2 fB 0;rw [b2] at this;simpa using this
 case round=>
  obtain ⟨b,f8,y,u,P,E⟩:=hrel;have e9:=aA y;have b3:=aA E;have a3:=aA u;have d3:∀i,i<b->aE s (p+i)<128:=λi X=>by rw [E i X];exact xU i (by omega)
  obtain ⟨F,d2⟩:=R.o.letters b P d3;have b5:=aA F;by_cases J:b<6
  ·have z:b<fB.size:=J;have c9:(fB[b]'z).toNat<128:=by have:=xU b J;rw [kZ fB b z] at this;exact this
   have a9:∀C,(Instr.next (.pointer (some ⟨d+2,0,none⟩)) true C).run zs wr=_:=λC=>Lib.run_next_ascii_at wr (d+2) fB b C y z c9
   have b6:=aA (Lib.iterAt_heap wr (d+2) fB b (b+1) y);have I:=Lib.below_iterAt u (k:=d+2) (by omega) fB (b+1);have q:=R.o.below I;have c1:=(q.cells b (p+b) F P d2).1;have N:=q.box.c0;have b8:=aA q;have a1:=aA I;have b9:aI ((wr.iterAt (d+2) fB (b+1)).heap[d]?=some (.cells #[.int .i32 0,.int .i64 0,.string ⟨#[]⟩] 47)):=aA ((I.block d (by omega)).trans S.o);have V:(fB[b]'z).toNat=aE fB b:=(kZ fB b z).symm;have f4:(b:Int)<(m:Int)+1:=by omega
   have f3:(0:Int)<=(b:Int):=by omega
   by_cases G:aR s (p+b)=(aE fB b:Int)
   ·have d4:p+b<s.size:=Classical.byContradiction λd5=>by rw [nD s _ d5] at G;omega
    have c8:=(eV s (p+b) d4 (aE fB b) (xU b J)).1 G;rw [G,<-V] at c1;clear y E u F q I;go_wp2;go_roundg (6-(b+1));case measure=>omega
    case rel=>exact ⟨b+1,by omega,b6.o,a1.o,by omega,λi X=>by
     by_cases O:i=b
     ·subst O;exact c8
     ·exact b3.o i (by omega)⟩
   ·have b7:aI (¬sO s p):=aA λc5=>by
     obtain ⟨f1,c4⟩:=aEw.1 c5;exact G ((eV s (p+b) (by omega) (aE fB b) (xU b J)).2 (c4 b J))
    have Y:=aA (tX b8.o);unfold fJ at Y;rw [V] at a9;generalize aR s (p+b)=cc at *;have f7:(cc != (aE fB b:Int))=true:=by simpa using G
    clear y E u F q I V;go_wp2_with (first
     |(go_at_call 57;refine (aC Y).mono ?_;rintro O M ⟨rfl,U⟩;have L:=(U.block d (by have:=a3.o.size;simp only [Lib.iterAt_size];omega)).trans b9.o;have b4:=aA U;have e0:M.cell? ⟨d,0,none⟩=some (.int .i32 0):=(by simp [zz,L]);have e1:M.cell? ⟨d,1,none⟩=some (.int .i64 0):=(by simp [zz,L]);have e2:M.cell? ⟨d,2,none⟩=some (.string ⟨#[]⟩):=(by simp [zz,L]);have e3:=iF (v:=.int .i32 (-2)) e0;have f9:∀b,M.frozen? ⟨d,b,none⟩=false:=(λb=>by simp [zx,L]);clear U L)
     |go_in)
    refine bodyPost_ret (by simp [results,Tryz.results55,go_sem,e3,e1,e2];try rfl) rfl ?_;have W:aB w (wr.iterAt (d+2) fB (b+1)):=aZ a0.o a1.o;have d0:aB w M:=aZ W b4.o;have A:w.heap.size<=d:=by rw [a2.o];exact zy _
    have H:=fA (fA (fA d0 (p:=⟨d,0,none⟩) A (.int .i32 (-2))) (p:=⟨d,1,none⟩) A (.int .i64 p)) (p:=⟨d,2,none⟩) A (.string ⟨#[]⟩);exact ⟨mJ H _,Or.inr ⟨b7.o,rfl,D.o.below H⟩⟩
  ·obtain rfl:b=6:=by omega
   have z:¬6<fB.size:=by decide
   have a9:∀C,(Instr.next (.pointer (some ⟨d+2,0,none⟩)) true C).run zs wr=_:=λC=>Lib.run_next_end_at wr (d+2) fB 6 C y z
   have c0:aI (sO s p):=aA (aEw.2 ⟨P,E⟩);have q:=R.o.below u;have N:=q.box.c0;have f0:=q.box.soft 0;have a8:=(u.block d (by omega)).trans S.o;have a7:=(u.block (d+1) (by omega)).trans a5.o;obtain ⟨n,rfl⟩ : ∃n,m=n+6:=⟨m-6,by omega⟩;obtain ⟨o,rfl⟩ : ∃o,c=o+6:=⟨c-6,by have:=D.o.mc;omega⟩;have d7:pb≠d:=by omega
   have d8:pb≠d+1:=by omega
   have r:∀e,(wr.setCell ⟨pb,0,none⟩ e).heap[d]?=some (.cells #[.int .i32 0,.int .i64 0,.string ⟨#[]⟩] 47)/\(wr.setCell ⟨pb,0,none⟩ e).heap[d+1]?=some (.cells #[.int .i32 36,.int .i64 p,.string ⟨#[]⟩] 47):=λe=>⟨by rw [Below.heap_setCell _ _ _ _ d7.symm];exact a8,by rw [Below.heap_setCell _ _ _ _ d8.symm];exact a7⟩
   have e5:∀e,(wr.setCell ⟨pb,0,none⟩ e).cell? ⟨d,0,none⟩=some (.int .i32 0):=λe=>by simp [zz,(r e).1]
   have e6:∀e,(wr.setCell ⟨pb,0,none⟩ e).cell? ⟨d,1,none⟩=some (.int .i64 0):=λe=>by simp [zz,(r e).1]
   have e7:∀e,(wr.setCell ⟨pb,0,none⟩ e).cell? ⟨d,2,none⟩=some (.string ⟨#[]⟩):=λe=>by simp [zz,(r e).1]
   have g0:∀e b,(wr.setCell ⟨pb,0,none⟩ e).frozen? ⟨d,b,none⟩=false:=λe b=>by simp [zx,(r e).1]
   have g1:∀e,(wr.setCell ⟨pb,0,none⟩ e).cell? ⟨d+1,0,none⟩=some (.int .i32 36):=λe=>by simp [zz,(r e).2]
   have g2:∀e,(wr.setCell ⟨pb,0,none⟩ e).cell? ⟨d+1,1,none⟩=some (.int .i64 p):=λe=>by simp [zz,(r e).2]
   have g3:∀e,(wr.setCell ⟨pb,0,none⟩ e).cell? ⟨d+1,2,none⟩=some (.string ⟨#[]⟩):=λe=>by simp [zz,(r e).2]
   have e8:=λe=>iF (v:=.int .i32 36) (e5 e)
   have f6:n+6+1-6=n+1:=by omega
   have f2:o+6+1-6=o+1:=by omega
   have f5:(6:Int)<=(n:Int)+6+1:=by omega
   clear r y E u F q a8 a7;go_wp2;refine bodyPost_ret (by simp [results,Tryz.results55,go_sem,e8,e6,e7];try rfl) rfl ?_;have c6:=bJ.jump 6 (p+6) n o D.o b5.o P;have W:aB w wr:=aZ a0.o a3.o;have c7:Below (w.setCell ⟨pb,0,none⟩ (.slice (some ⟨g,j*2+6*2,none⟩) (n+1) (o+1))).heap.size (w.setCell ⟨pb,0,none⟩ (.slice (some ⟨g,j*2+6*2,none⟩) (n+1) (o+1))) (wr.setCell ⟨pb,0,none⟩ (.slice (some ⟨g,j*2+6*2,none⟩) (n+1) (o+1))):=aBc W (D.o.box.lt) _;have A:(w.setCell ⟨pb,0,none⟩ (.slice (some ⟨g,j*2+6*2,none⟩) (n+1) (o+1))).heap.size<=d:=by rw [<-a2.o];simp [World.setCell]
   have H:=fA (fA (fA c7 (p:=⟨d,0,none⟩) A (.int .i32 36)) (p:=⟨d,1,none⟩) A (.int .i64 p)) (p:=⟨d,2,none⟩) A (.string ⟨#[]⟩);have d1:w.grownBy (w.setCell ⟨pb,0,none⟩ (.slice (some ⟨g,j*2+6*2,none⟩) (n+1) (o+1))) (some pb):=cJ _ _ _;exact ⟨d1.trans (mJ H _),Or.inl ⟨c0.o,rfl,_,_,_,c6.below H⟩⟩
end
def dN(k:Nat):Int:=if k=110 then 97 else if k=118 then 65 else if k=102 then 36 else if k=101 then -1 else if k=63 then -2 else k
theorem aNc(s:ByteArray)(p:Nat)(a:p<s.size):dO (aR s p)=dO (aE s p):=by
 by_cases c:aE s p<128
 ·rw [(lS s p a c).1]
 ·have b:dO (aE s p:Int)=false:=by simp only [dO,zv,decide_eq_false_iff_not];omega
  rw [b];rcases vJ s p a (by omega) with e|e<;>(simp only [dO,zv,decide_eq_false_iff_not];omega)
theorem aNd(s:ByteArray)(p:Nat)(a:p<s.size):dP (aR s p)=dP (aE s p):=by
 by_cases c:aE s p<128
 ·rw [(lS s p a c).1]
 ·have b:dP (aE s p:Int)=false:=by simp only [dP,zv,decide_eq_false_iff_not];omega
  rw [b];rcases vJ s p a (by omega) with e|e<;>(simp only [dP,zv,decide_eq_false_iff_not];omega)
theorem aNe(s:ByteArray)(p:Nat)(c:p<s.size):qD (aR s p)=mB (aE s p):=by
 unfold qD mB;have a:∀b:Nat,b<128->(aR s p=(b:Int))=(aE s p=b):=λb d=>propext (eV s p c b d)
 have e:(aR s p=124)=(aE s p=124):=a 124 (by omega);have f:(aR s p=126)=(aE s p=126):=a 126 (by omega);have g:(aR s p=40)=(aE s p=40):=a 40 (by omega);have i:(aR s p=41)=(aE s p=41):=a 41 (by omega);have j:(aR s p=44)=(aE s p=44):=a 44 (by omega);have l:(aR s p=46)=(aE s p=46):=a 46 (by omega);simp only [e,f,g,i,j,l]
section
variable {B:Nat}{w W:World}{pb:Nat}{s:ByteArray}{p g j m c:Nat}{k a:Int}{wd:ByteArray}{vC vP vM:Value}
theorem bJ.setTok{d:Nat}{l:Array Value}(b:bJ B W pb s p g j m c k a wd vC vP vM)(n:W.heap[d]?=some (.cells l 47))(i:Nat)(e:Value):bJ B (W.setCell ⟨d,i,none⟩ e) pb s p g j m c k a wd vC vP vM/\∃r,(W.setCell ⟨d,i,none⟩ e).heap[d]?=some (.cells r 47):=by
 have u:pb≠d:=by rintro rfl;have:=b.box;unfold bM at this;rw [n] at this;simp at this
 refine ⟨⟨?_,b.high,?_,b.len,b.drop,b.le⟩,?_⟩
 ·unfold bM;rw [Below.heap_setCell _ _ _ _ u];exact b.box
 ·refine ownsRow_setCell_other b.row ?_ e;intro o;obtain ⟨_,⟨f,_⟩|⟨y,v,x,f,_,q,_⟩⟩:=b.row
  ·simp at f
  ·simp at f;obtain ⟨rfl,_⟩:=f;simp [Value.ownBlock] at o;subst o;rw [n] at q;simp at q
 ·refine ⟨l.set! i e,?_⟩;have:=heap_setCell_same W d i l 47 e n;simpa using this
theorem bJ.setTok3{b:Nat}{i:Array Value}(l:bJ B W pb s p g j m c k a wd vC vP vM)(q:W.heap[b]?=some (.cells i 47))(d e f:Value):bJ B (((W.setCell ⟨b,0,none⟩ d).setCell ⟨b,1,none⟩ e).setCell ⟨b,2,none⟩ f) pb s p g j m c k a wd vC vP vM:=by obtain ⟨n,v,r⟩:=l.setTok q 0 d;obtain ⟨o,x,u⟩:=n.setTok r 1 e;exact (o.setTok u 2 f).1
end
theorem gV{b:World}{c d i:Nat}(a:w.grownBy b (some c))(l:w.heap.size<=d)(j:Value):w.grownBy (b.setCell ⟨d,i,none⟩ j) (some c):=
 ⟨a.os,a.tape,a.output,by have:=a.size;simpa [World.setCell] using this,λk f g=>by rw [Below.heap_setCell _ _ _ _ (by intro e;simp at e;omega)];exact a.block k f g⟩
def qA(f d:Nat)(s:ByteArray)(p r j:Nat)(k g:Int)(o:ByteArray)(l n m:Value)(w:World)(i:Ending)(e:World):Prop:=
 w.grownBy e (some d)/\
  match qJ s r p with
  | .tok t q=>i=.returned (fJ (dN t.kind) t.pos t.txt)/\∃b c a,bJ f e d s q j b c a k g o l n m
  | .bad q=>i=.returned (fJ (-2) q ⟨#[]⟩)/\∃b c a,bJ f e d s q j b c a k g o l n m
  | .stop q=>i=.returned (fJ (-1) q ⟨#[]⟩)/\∃b c a,bJ f e d s q j b c a k g o l n m
theorem aAo(a:(dO (aE s p) || dP (aE s p))=true):cO (aE s p)=true:=by unfold cO;rw [Bool.or_eq_true] at a;rcases a with h|h<;>simp [h]
section
variable {B:Nat}{w:World}{pb:Nat}{s:ByteArray}{p g j m c:Nat}{k a:Int}{wd:ByteArray}{vC vP vM:Value}
theorem aEy(H:Nat)(c3:bJ B w pb s p g j m c k a wd vC vP vM)(b3:s.size<=3000)(f5:s.size<p+H):Calls zs 30 #[.pointer (some ⟨pb,0,none⟩)] w λe d=>qA B pb s p H g k a wd vC vP vM w e d:=by
 obtain ⟨b8,h8,g0⟩:=aPg s H p f5 c3.le;have d2:=aA (λc0=>aPh H (c3.below ((Below.refl w.heap.size w).alloc (zy _) c0)) f5);have f2:aI (∀c0,(w.alloc c0).heap[w.heap.size]?=some c0):=aA λc0=>by show (w.heap.push _)[w.heap.size]?=_;simp
 have h9:=c3.box.lt;obtain ⟨b,g3⟩ : ∃b,lT s H p=b:=⟨_,rfl⟩;rw [g3] at b8 h8 g0 d2;have f0:=aA b8;clear c3 g3 b8;go_enter Tryz.func30,Tryz.ntmps30;go_upto_region 3 with (first
  |(go_at_call 50;refine (aC d2 _).mono ?_;rintro e A ⟨rfl,c9,i2,j3,i9,b7⟩;have g5:=(c9.block w.heap.size (by simp) (by simp;omega)).trans (f2.o _);have f1:=aA b7;have f3:=aA g5;have h1:=b7.box.c0;have h2:=b7.at0.1;have h3:=b7.at0.2;have e9:aI (w.grownBy A (some pb)):=aA ((mJ ((Below.refl w.heap.size w).alloc (zy _) _) (some pb)).trans c9);have e5:=c9.size;clear c9 b7 g5)
  |go_in)
 have c6:=(Below.refl A.heap.size A).alloc (zy _) (.cells #[.int .i32 (aR s b),.int .i64 b] 109);have O:=aA (f1.o.below c6);have e4:=c6.block w.heap.size (by simp at e5;omega);rw [f3.o] at e4;have a4:=aA e4;have a9:=aA (e9.o.trans (mJ c6 (some pb)));have c8:(A.alloc (.cells #[.int .i32 (aR s b),.int .i64 b] 109)).heap[A.heap.size]?=some (.cells #[.int .i32 (aR s b),.int .i64 b] 109):=by show (A.heap.push _)[A.heap.size]?=_;simp
 have d4:(A.alloc (.cells #[.int .i32 (aR s b),.int .i64 b] 109)).cell? ⟨A.heap.size,0,none⟩=some (.int .i32 (aR s b)):=by unfold zz;rw [c8];rfl
 have i8:(A.alloc (.cells #[.int .i32 (aR s b),.int .i64 b] 109)).cell? ⟨A.heap.size,1,none⟩=some (.int .i64 b):=by unfold zz;rw [c8];rfl
 have d6:A.heap.size<(A.alloc (.cells #[.int .i32 (aR s b),.int .i64 b] 109)).heap.size:=by simp
 have c1:=aA c8;have u:w.heap.size<=w.heap.size:=zy _;have i0:w.heap.size<A.heap.size:=by simp at e5;omega
 clear c6 e4 c8 f1 f3 e9 f2 d2 h1 h2 h3 e5;generalize A.alloc (.cells #[.int .i32 (aR s b),.int .i64 b] 109)=w2 at *;generalize A.heap.size=fb at *;obtain ⟨f,e2⟩ : ∃f,w.heap.size=f:=⟨_,rfl⟩;rw [e2] at a4 h9 i0;simp only [e2];have u:w.heap.size<=f:=by omega
 clear e2;have C:=aA (λe8=>aC5 (aR s b) e8);have F:=aA (λe8=>aHg (aR s b) e8);by_cases x:b<s.size
 ·have W:aI (qJ s H p=dH s b):=aA (by rw [f0.o,aG x]);obtain ⟨j1,j0⟩:=g0 x;have b1:=aNc s b x;have b0:=aNd s b x;rw [b1] at C;rw [b0] at F;by_cases a6:(dO (aE s b) || dP (aE s b))=true
  ·have d1:=aAo a6;have a7:=aUo a6;by_cases e3:dO (aE s b)=true
   ·have d9:dP (aE s b:Int)=false:=by simp only [dO,Bool.and_eq_true,decide_eq_true_eq] at e3;simp only [dP,zv,decide_eq_false_iff_not];omega
    rw [d9] at a7;rw [e3] at C;obtain ⟨K,D,T,S,R⟩ : ∃(K:Int) (D:Nat) (T:ByteArray),(∀d,w.grownBy d (some pb)->(∃j m c,bJ B d pb s D g j m c k a wd vC vP vM)->qA B pb s p H g k a wd vC vP vM w (.returned (fJ K b T)) d)/\Calls zs 52 #[.pointer (some ⟨pb,0,none⟩),.int .i32 97] w2 λe d=>e=.returned (.agg #[.int .i32 K,.int .i64 b,.string T])/\w2.grownBy d (some pb)/\∃j m c,bJ B d pb s D g j m c k a wd vC vP vM:=by
     by_cases a2:dV s b-b > 20
     ·refine ⟨-2,b,⟨#[]⟩,λd l v=>⟨l,by rw [W.o,a7,aG a2];exact ⟨rfl,v⟩⟩,(yA 97 O.o b3 x d1).mono ?_⟩;rintro e d ⟨l,hr⟩;rw [aG a2] at hr;exact ⟨hr.1,l,_,_,_,hr.2⟩
     ·refine ⟨97,dV s b,s.extract b (dV s b),λd l v=>⟨l,by rw [W.o,a7,aF a2];exact ⟨rfl,v⟩⟩,(yA 97 O.o b3 x d1).mono ?_⟩;rintro e d ⟨l,hr⟩;rw [aF a2] at hr;exact ⟨hr.1,l,hr.2⟩
    have G:=aA S;have a8:=aA R;clear S R b1 b0 a7;generalize aR s b=cc at *;go_wp2_with (first
     |(go_at_call 51;refine (aC C _).mono ?_;rintro e Q ⟨rfl,rfl⟩)
     |(go_at_call 52;refine (aC a8).mono ?_;rintro e q ⟨rfl,E,e6,e7,d5,U⟩;have n:=(E.block f (by omega) (by simp;omega)).trans a4.o;have a0:=aA U;have Z:=aA E;have a1:=aA n;have I:q.cell? ⟨f,0,none⟩=some (.int .i32 0):=(by simp [zz,n]);have J:q.cell? ⟨f,1,none⟩=some (.int .i64 0):=(by simp [zz,n]);have L:q.cell? ⟨f,2,none⟩=some (.string ⟨#[]⟩):=(by simp [zz,n]);have M:=λN=>iF (v:=N) I;have b5:∀i,q.frozen? ⟨f,i,none⟩=false:=(λi=>by simp [zx,n]);clear E U n)
     |go_in)
    refine bodyPost_ret (by simp [results,zu,go_sem,M,J,L];try rfl) rfl ?_;exact G.o _ (gV (gV (gV (a9.o.trans Z.o) u _) u _) u _) ⟨_,_,_,a0.o.setTok3 a1.o _ _ _⟩
   ·have b9:dO (aE s b:Int)=false:=by simpa using e3
    have d9:dP (aE s b:Int)=true:=by rw [b9] at a6;simpa using a6
    rw [d9] at a7 F;rw [b9] at C;obtain ⟨K,D,T,S,R⟩ : ∃(K:Int) (D:Nat) (T:ByteArray),(∀d,w.grownBy d (some pb)->(∃j m c,bJ B d pb s D g j m c k a wd vC vP vM)->qA B pb s p H g k a wd vC vP vM w (.returned (fJ K b T)) d)/\Calls zs 52 #[.pointer (some ⟨pb,0,none⟩),.int .i32 65] w2 λe d=>e=.returned (.agg #[.int .i32 K,.int .i64 b,.string T])/\w2.grownBy d (some pb)/\∃j m c,bJ B d pb s D g j m c k a wd vC vP vM:=by
     by_cases a2:dV s b-b > 20
     ·refine ⟨-2,b,⟨#[]⟩,λd l v=>⟨l,by rw [W.o,a7,aG a2];exact ⟨rfl,v⟩⟩,(yA 65 O.o b3 x d1).mono ?_⟩;rintro e d ⟨l,hr⟩;rw [aG a2] at hr;exact ⟨hr.1,l,_,_,_,hr.2⟩
     ·refine ⟨65,dV s b,s.extract b (dV s b),λd l v=>⟨l,by rw [W.o,a7,aF a2];exact ⟨rfl,v⟩⟩,(yA 65 O.o b3 x d1).mono ?_⟩;rintro e d ⟨l,hr⟩;rw [aF a2] at hr;exact ⟨hr.1,l,hr.2⟩
    have G:=aA S;have a8:=aA R;clear S R b1 b0 a7;generalize aR s b=cc at *;go_wp2_with (first
     |(go_at_call 51;refine (aC C _).mono ?_;rintro e Q ⟨rfl,rfl⟩)
     |(go_at_call 53;refine (aC F _).mono ?_;rintro e Q ⟨rfl,rfl⟩)
     |(go_at_call 52;refine (aC a8).mono ?_;rintro e q ⟨rfl,E,e6,e7,d5,U⟩;have n:=(E.block f (by omega) (by simp;omega)).trans a4.o;have a0:=aA U;have Z:=aA E;have a1:=aA n;have I:q.cell? ⟨f,0,none⟩=some (.int .i32 0):=(by simp [zz,n]);have J:q.cell? ⟨f,1,none⟩=some (.int .i64 0):=(by simp [zz,n]);have L:q.cell? ⟨f,2,none⟩=some (.string ⟨#[]⟩):=(by simp [zz,n]);have M:=λN=>iF (v:=N) I;have b5:∀i,q.frozen? ⟨f,i,none⟩=false:=(λi=>by simp [zx,n]);clear E U n)
     |go_in)
    refine bodyPost_ret (by simp [results,zu,go_sem,M,J,L];try rfl) rfl ?_;exact G.o _ (gV (gV (gV (a9.o.trans Z.o) u _) u _) u _) ⟨_,_,_,a0.o.setTok3 a1.o _ _ _⟩
  ·have b9:dO (aE s b:Int)=false:=by simp at a6;exact a6.1
   have f9:dP (aE s b:Int)=false:=by simp at a6;exact a6.2
   have d8:(dO (aE s b) || dP (aE s b))=false:=by rw [b9,f9];rfl
   rw [b9] at C;rw [f9] at F;by_cases b6:aE s b=39
   ·have d0:=(eV s b x 39 (by omega)).2 b6;have V:=aUp d8 b6;obtain ⟨K,D,T,S,R⟩ : ∃(K:Int) (D:Nat) (T:ByteArray),(∀d,w.grownBy d (some pb)->(∃j m c,bJ B d pb s D g j m c k a wd vC vP vM)->qA B pb s p H g k a wd vC vP vM w (.returned (fJ K b T)) d)/\Calls zs 54 #[.pointer (some ⟨pb,0,none⟩)] w2 λe d=>e=.returned (.agg #[.int .i32 K,.int .i64 b,.string T])/\w2.grownBy d (some pb)/\∃j m c,bJ B d pb s D g j m c k a wd vC vP vM:=by
     cases hq:mA s b with
     |none=>
      rw [hq] at V;refine ⟨-2,b,⟨#[]⟩,λd l v=>⟨l,by rw [W.o,V];exact ⟨rfl,v⟩⟩,(aFh O.o b3 d0).mono ?_⟩;rintro e d ⟨l,hr⟩;rw [hq] at hr;exact ⟨hr.1,l,_,_,_,hr.2⟩
     |some r=>
      obtain ⟨i4,i5⟩:=r;rw [hq] at V;refine ⟨97,i5,i4,λd l v=>⟨l,by rw [W.o,V];exact ⟨rfl,v⟩⟩,(aFh O.o b3 d0).mono ?_⟩;rintro e d ⟨l,hr⟩;rw [hq] at hr;exact ⟨hr.1,l,hr.2⟩
    have G:=aA S;have a8:=aA R;rw [d0] at d4 C F;clear S R b1 b0 V d0;go_wp2_with (first
     |(go_at_call 51;refine (aC C _).mono ?_;rintro e Q ⟨rfl,rfl⟩)
     |(go_at_call 53;refine (aC F _).mono ?_;rintro e Q ⟨rfl,rfl⟩)
     |(go_at_call 54;refine (aC a8).mono ?_;rintro e q ⟨rfl,E,e6,e7,d5,U⟩;have n:=(E.block f (by omega) (by simp;omega)).trans a4.o;have a0:=aA U;have Z:=aA E;have a1:=aA n;have I:q.cell? ⟨f,0,none⟩=some (.int .i32 0):=(by simp [zz,n]);have J:q.cell? ⟨f,1,none⟩=some (.int .i64 0):=(by simp [zz,n]);have L:q.cell? ⟨f,2,none⟩=some (.string ⟨#[]⟩):=(by simp [zz,n]);have M:=λN=>iF (v:=N) I;have b5:∀i,q.frozen? ⟨f,i,none⟩=false:=(λi=>by simp [zx,n]);clear E U n)
     |go_in)
    refine bodyPost_ret (by simp [results,zu,go_sem,M,J,L];try rfl) rfl ?_;exact G.o _ (gV (gV (gV (a9.o.trans Z.o) u _) u _) u _) ⟨_,_,_,a0.o.setTok3 a1.o _ _ _⟩
   ·have e1:aR s b≠39:=λe=>b6 ((eV s b x 39 (by omega)).1 e)
    by_cases c4:aE s b=36
    ·have f6:=(eV s b x 36 (by omega)).2 c4;have V:=aUq d8 b6 c4;obtain ⟨K,D,S,R⟩ : ∃(K:Int) (D:Nat),(∀d,w.grownBy d (some pb)->(∃j m c,bJ B d pb s D g j m c k a wd vC vP vM)->qA B pb s p H g k a wd vC vP vM w (.returned (fJ K b ⟨#[]⟩)) d)/\Calls zs 55 #[.pointer (some ⟨pb,0,none⟩)] w2 λe d=>e=.returned (.agg #[.int .i32 K,.int .i64 b,.string ⟨#[]⟩])/\w2.grownBy d (some pb)/\∃j m c,bJ B d pb s D g j m c k a wd vC vP vM:=by
      by_cases c5:sO s b
      ·rw [aG (show b+6<=s.size/\s.extract b (b+6)=⟨#[36,102,97,108,115,101]⟩ from c5)] at V;refine ⟨36,b+6,λd l v=>⟨l,by rw [W.o,V];exact ⟨rfl,v⟩⟩,(aEx O.o).mono ?_⟩;rintro e d ⟨l,hr|hr⟩
       ·exact ⟨hr.2.1,l,hr.2.2⟩
       ·exact absurd c5 hr.1
      ·rw [aF (show ¬(b+6<=s.size/\s.extract b (b+6)=⟨#[36,102,97,108,115,101]⟩) from c5)] at V;refine ⟨-2,b,λd l v=>⟨l,by rw [W.o,V];exact ⟨rfl,v⟩⟩,(aEx O.o).mono ?_⟩;rintro e d ⟨l,hr|hr⟩
       ·exact absurd hr.1 c5
       ·exact ⟨hr.2.1,l,_,_,_,hr.2.2⟩
     have G:=aA S;have a8:=aA R;rw [f6] at d4 C F;clear S R b1 b0 V f6 e1;go_wp2_with (first
      |(go_at_call 51;refine (aC C _).mono ?_;rintro e Q ⟨rfl,rfl⟩)
      |(go_at_call 53;refine (aC F _).mono ?_;rintro e Q ⟨rfl,rfl⟩)
      |(go_at_call 55;refine (aC a8).mono ?_;rintro e q ⟨rfl,E,e6,e7,d5,U⟩;have n:=(E.block f (by omega) (by simp;omega)).trans a4.o;have a0:=aA U;have Z:=aA E;have a1:=aA n;have I:q.cell? ⟨f,0,none⟩=some (.int .i32 0):=(by simp [zz,n]);have J:q.cell? ⟨f,1,none⟩=some (.int .i64 0):=(by simp [zz,n]);have L:q.cell? ⟨f,2,none⟩=some (.string ⟨#[]⟩):=(by simp [zz,n]);have M:=λN=>iF (v:=N) I;have b5:∀i,q.frozen? ⟨f,i,none⟩=false:=(λi=>by simp [zx,n]);clear E U n)
      |go_in)
     refine bodyPost_ret (by simp [results,zu,go_sem,M,J,L];try rfl) rfl ?_;exact G.o _ (gV (gV (gV (a9.o.trans Z.o) u _) u _) u _) ⟨_,_,_,a0.o.setTok3 a1.o _ _ _⟩
    ·have g1:aR s b≠36:=λe=>c4 ((eV s b x 36 (by omega)).1 e)
     have b4:=aUr d8 b6 c4;have e0:=aNe s b x;have Y:=aA (aFl (aR s b) w2 (aBa s b));rw [e0] at Y;have b8:=yE s b x;cases hm:mB (aE s b)
     ·rw [hm] at Y b4;have G:aI (∀d,w.grownBy d (some pb)->(∃j m c,bJ B d pb s b g j m c k a wd vC vP vM)->qA B pb s p H g k a wd vC vP vM w (.returned (fJ (-2) b ⟨#[]⟩)) d):=aA λd l v=>⟨l,by rw [W.o,b4];exact ⟨rfl,v⟩⟩
      clear b1 b0 b4 e0 hm;generalize aR s b=cc at *;have i7:(cc==39)=false:=by simpa using e1
      have i6:(cc==36)=false:=by simpa using g1
      have j4:(cc==-1)=false:=by simpa using b8
      go_wp2_with (first
       |(go_at_call 51;refine (aC C _).mono ?_;rintro e Q ⟨rfl,rfl⟩)
       |(go_at_call 53;refine (aC F _).mono ?_;rintro e Q ⟨rfl,rfl⟩)
       |(go_at_call 56;refine (aC Y).mono ?_;rintro e y ⟨rfl,z⟩;have b2:=aA z;have P:=(z.block f (by omega)).trans a4.o;have d3:=aA P;have X:=(z.block fb d6).trans c1.o;have g6:y.cell? ⟨fb,0,none⟩=some (.int .i32 (cc)):=(by unfold zz;rw [X];rfl);have g7:y.cell? ⟨fb,1,none⟩=some (.int .i64 b):=(by unfold zz;rw [X];rfl);have a3:=O.o.below z;have h4:=a3.box.c0;have h5:=a3.box.soft 0;have c2:=aA a3;clear z P X a3)
       |(go_at_call 57;refine (tX c2.o).mono ?_;rintro e q ⟨rfl,c7⟩;unfold fJ;have j2:=b2.o.size;have n:=(c7.block f (by omega)).trans d3.o;have a0:=aA (c2.o.below c7);have Z:=aA ((mJ b2.o (some pb)).trans (mJ c7 (some pb)));have a1:=aA n;have I:q.cell? ⟨f,0,none⟩=some (.int .i32 0):=(by simp [zz,n]);have J:q.cell? ⟨f,1,none⟩=some (.int .i64 0):=(by simp [zz,n]);have L:q.cell? ⟨f,2,none⟩=some (.string ⟨#[]⟩):=(by simp [zz,n]);have M:=λN=>iF (v:=N) I;have b5:∀i,q.frozen? ⟨f,i,none⟩=false:=(λi=>by simp [zx,n]);clear c7 n)
       |go_in)
      refine bodyPost_ret (by simp [results,zu,go_sem,M,J,L];try rfl) rfl ?_;exact G.o _ (gV (gV (gV (a9.o.trans Z.o) u _) u _) u _) ⟨_,_,_,a0.o.setTok3 a1.o _ _ _⟩
     ·rw [hm] at Y b4;have h7:aE s b<128:=by unfold mB at hm;simp at hm;omega
      obtain ⟨f7,i1⟩:=lS s b x h7;have f8:dN (aE s b)=aR s b:=by
       rw [f7];have g2:aE s b=124\/aE s b=126\/aE s b=40\/aE s b=41\/aE s b=44\/aE s b=46:=by unfold mB at hm;simp at hm;omega
       generalize aE s b=bb at g2 ⊢;rcases g2 with rfl|rfl|rfl|rfl|rfl|rfl<;>rfl
      have G:aI (∀d,w.grownBy d (some pb)->(∃j m c,bJ B d pb s (b+1) g j m c k a wd vC vP vM)->qA B pb s p H g k a wd vC vP vM w (.returned (fJ (aR s b) b ⟨#[]⟩)) d):=aA λd l v=>⟨l,by rw [W.o,b4];exact ⟨by rw [<-f8],v⟩⟩
      obtain ⟨i3,h0,rfl,rfl⟩:=O.o.more x;clear b1 b0 b4 e0 hm f7 f8;generalize aR s b=cc at *;have i7:(cc==39)=false:=by simpa using e1
      have i6:(cc==36)=false:=by simpa using g1
      go_wp2_with (first
       |(go_at_call 51;refine (aC C _).mono ?_;rintro e Q ⟨rfl,rfl⟩)
       |(go_at_call 53;refine (aC F _).mono ?_;rintro e Q ⟨rfl,rfl⟩)
       |(go_at_call 56;refine (aC Y).mono ?_;rintro e y ⟨rfl,z⟩;have b2:=aA z;have P:=(z.block f (by omega)).trans a4.o;have X:=(z.block fb d6).trans c1.o;have a3:=O.o.below z;have h4:=a3.box.c0;have h5:=a3.box.soft 0;have g9:=aA (a3.step x);have a5:∀o,(y.setCell ⟨pb,0,none⟩ o).heap[f]?=some (.cells #[.int .i32 0,.int .i64 0,.string ⟨#[]⟩] 47)/\(y.setCell ⟨pb,0,none⟩ o).heap[fb]?=some (.cells #[.int .i32 cc,.int .i64 b] 109):=(λo=>⟨by rw [Below.heap_setCell _ _ _ _ (show f≠pb by omega)];exact P,by rw [Below.heap_setCell _ _ _ _ (show fb≠pb by omega)];exact X⟩);have g6:∀o,(y.setCell ⟨pb,0,none⟩ o).cell? ⟨fb,0,none⟩=some (.int .i32 cc):=(λo=>by unfold zz;rw [(a5 o).2];rfl);have g7:∀o,(y.setCell ⟨pb,0,none⟩ o).cell? ⟨fb,1,none⟩=some (.int .i64 b):=(λo=>by unfold zz;rw [(a5 o).2];rfl);have I:∀o,(y.setCell ⟨pb,0,none⟩ o).cell? ⟨f,0,none⟩=some (.int .i32 0):=(λo=>by unfold zz;rw [(a5 o).1];rfl);have J:∀o,(y.setCell ⟨pb,0,none⟩ o).cell? ⟨f,1,none⟩=some (.int .i64 0):=(λo=>by unfold zz;rw [(a5 o).1];rfl);have L:∀o,(y.setCell ⟨pb,0,none⟩ o).cell? ⟨f,2,none⟩=some (.string ⟨#[]⟩):=(λo=>by unfold zz;rw [(a5 o).1];rfl);have b5:∀o i,(y.setCell ⟨pb,0,none⟩ o).frozen? ⟨f,i,none⟩=false:=(λo i=>by simp [zx,(a5 o).1]);have M:=λo N=>iF (v:=N) (I o);have g8:=aA a5;clear z P X a3 a5)
       |go_in)
      refine bodyPost_ret (by simp [results,zu,go_sem,M,J,L];try rfl) rfl ?_;have h6:=qK (j:=0) (a9.o.trans (mJ b2.o (some pb))) (.slice (some ⟨g,i2*2+2,none⟩) (i3+1) (h0+1));have f4:=g9.o;rw [i1] at f4;exact G.o _ (gV (gV (gV h6 u _) u _) u _) ⟨_,_,_,f4.setTok3 (g8.o _).1 _ _ _⟩
 ·have g4:b=s.size:=by omega
  have d7:=nD s b x;have Y:=aA (aFl (aR s b) w2 (aBa s b));rw [d7] at Y C F d4;rw [show qD (-1)=false by decide] at Y;rw [show dO (-1)=false by decide] at C;rw [show dP (-1)=false by decide] at F;rw [d7] at c1;have G:aI (∀d,w.grownBy d (some pb)->(∃j m c,bJ B d pb s b g j m c k a wd vC vP vM)->qA B pb s p H g k a wd vC vP vM w (.returned (fJ (-1) b ⟨#[]⟩)) d):=aA λd l v=>⟨l,by rw [f0.o,aF x,<-g4];exact ⟨rfl,v⟩⟩
  clear d7 g4;go_wp2_with (first
   |(go_at_call 51;refine (aC C _).mono ?_;rintro e Q ⟨rfl,rfl⟩)
   |(go_at_call 53;refine (aC F _).mono ?_;rintro e Q ⟨rfl,rfl⟩)
   |(go_at_call 56;refine (aC Y).mono ?_;rintro e y ⟨rfl,z⟩;have b2:=aA z;have P:=(z.block f (by omega)).trans a4.o;have X:=(z.block fb d6).trans c1.o;have d3:=aA P;have c2:=aA (O.o.below z);have g6:y.cell? ⟨fb,0,none⟩=some (.int .i32 (-1)):=(by unfold zz;rw [X];rfl);have g7:y.cell? ⟨fb,1,none⟩=some (.int .i64 b):=(by unfold zz;rw [X];rfl);have I:y.cell? ⟨f,0,none⟩=some (.int .i32 0):=(by simp [zz,P]);have J:y.cell? ⟨f,1,none⟩=some (.int .i64 0):=(by simp [zz,P]);have L:y.cell? ⟨f,2,none⟩=some (.string ⟨#[]⟩):=(by simp [zz,P]);have M:=λN=>iF (v:=N) I;have b5:∀i,y.frozen? ⟨f,i,none⟩=false:=(λi=>by simp [zx,P]);clear z P X)
   |go_in)
  refine bodyPost_ret (by simp [results,zu,go_sem,M,J,L];try rfl) rfl ?_;exact G.o _ (gV (gV (gV (a9.o.trans (mJ b2.o (some pb))) u _) u _) u _) ⟨_,_,_,c2.o.setTok3 d3.o _ _ _⟩
end
theorem aNf(a:dH s k=.bad p):p=k:=by
 unfold dH at a;repeat' split at a
 all_goals first|(cases a;done)|(simp only [Nx.bad.injEq] at a;exact a.symm)
theorem aNg:dH s k≠.stop p:=by
 intro a;unfold dH at a;repeat' split at a
 all_goals cases a
theorem aEz{b:Nat}(d:k<s.size)(a:dH s k=.tok t b):k<b/\b<=s.size:=by
 unfold dH at a;split at a
 ·rename_i c;split at a
  ·cases a
  ·simp only [Nx.tok.injEq] at a;rw [<-a.2];exact ⟨aUn d c,aIc (by omega)⟩
 ·split at a
  ·split at a
   ·rename_i i f e;simp only [Nx.tok.injEq] at a;rw [<-a.2];have:=aUm e;omega
   ·cases a
  ·split at a
   ·split at a
    ·rename_i g;simp only [Nx.tok.injEq] at a;rw [<-a.2];omega
    ·cases a
   ·split at a
    ·simp only [Nx.tok.injEq] at a;rw [<-a.2];omega
    ·cases a
theorem aNh(s:ByteArray):∀g a b q,s.size+1-q<=g->q<=s.size->s.size<q+a->s.size<q+b->bW s a q=bW s b q:=by
 intro g;induction g with
 |zero=>intro a b q n m;omega
 |succ g ih=>
  intro a b q n m r u;obtain ⟨i,rfl⟩ : ∃i,a=i+1:=⟨a-1,by omega⟩;obtain ⟨j,rfl⟩ : ∃j,b=j+1:=⟨b-1,by omega⟩;rw [bW,bW];by_cases c:q<s.size
  ·rw [aG c,aG c];by_cases f:lG (aE s q)=true
   ·rw [aG f,aG f];exact ih _ _ _ (by omega) (by omega) (by omega) (by omega)
   ·rw [aF f,aF f];by_cases d:aE s q=37
    ·rw [aG d,aG d];have o:=yZ c d;have l:=aCm (s:=s) (p:=q) m;exact ih _ _ _ (by omega) l (by omega) (by omega)
    ·rw [aF d,aF d];cases ht:dH s q with
     |tok t e=>
      obtain ⟨o,l⟩:=aEz c ht;simp only;rw [ih i j e (by omega) l (by omega) (by omega)]
     |bad p=>rfl
     |stop p=>rfl
  ·rw [aF c,aF c]
def cN(s:ByteArray)(q:Nat):List Tk:=eC (bW s (s.size+1-q) q)
theorem sP{q f:Nat}(b:q<=s.size)(a:s.size<q+f):eC (bW s f q)=cN s q:=by unfold cN;rw [aNh s _ f (s.size+1-q) q (zy _) b a (by omega)]
theorem aNi(s:ByteArray):∀i a q,s.size+1-q<=i->q<=s.size->s.size<q+a->
  match qJ s a q with
  | .tok t e=>cN s q=t::cN s e/\e<=s.size/\t.kind≠101/\t.kind≠63
  | .bad p=>cN s q=[⟨63,⟨#[]⟩,p⟩]/\p<=s.size
  | .stop p=>cN s q=[⟨101,⟨#[]⟩,p⟩]/\p<=s.size:=by
 intro i;induction i with
 |zero=>intro a q l f;omega
 |succ i ih=>
  intro a q l f n;obtain ⟨j,rfl⟩ : ∃j,a=j+1:=⟨a-1,by omega⟩;rw [qJ,<-sP f n,bW];by_cases b:q<s.size
  ·rw [aG b,aG b];by_cases g:lG (aE s q)=true
   ·rw [aG g,aG g,sP (q:=q+1) (by omega) (by omega)];exact ih _ _ (by omega) (by omega) (by omega)
   ·rw [aF g,aF g];by_cases d:aE s q=37
    ·rw [aG d,aG d];have m:=yZ b d;have c:=aCm (s:=s) (p:=q) f;rw [sP c (by omega)];exact ih _ _ (by omega) c (by omega)
    ·rw [aF d,aF d];cases ht:dH s q with
     |tok t e=>
      obtain ⟨m,c⟩:=aEz b ht;simp only;refine ⟨?_,c,aIl ht⟩;rw [<-sP c (show s.size<e+j by omega)];rfl
     |bad p=>
      have o:p=q:=aNf ht;subst o;exact ⟨rfl,f⟩
     |stop p=>exact absurd ht aNg
  ·rw [aF b,aF b];exact ⟨rfl,f⟩
def pE(s:ByteArray)(c:Nat)(d:ByteArray):Prop:=∃a b,s=a++d++b/\a.size=c
section
variable {s x y:ByteArray}{q q' q'':Nat}
theorem pE.le(a:pE s q x):q+x.size<=s.size:=by obtain ⟨b,c,rfl,a⟩:=a;simp only [ByteArray.size_append];omega
theorem sQ(s:ByteArray)(a:Nat):aE s a=((s.data.toList[a]?).map UInt8.toNat).getD 0:=by
 unfold aE;split
 ·rename_i b;have:a<s.data.toList.length:=by simpa using b
  rw [zt this];simp;rfl
 ·rename_i b;have:s.data.toList.length<=a:=by simpa using b
  rw [zq this];rfl
theorem pE.data(a:pE s q x)(k:Nat)(c:k<x.size):s.data.toList[q+k]?=x.data.toList[k]?:=by
 obtain ⟨b,d,rfl,a⟩:=a;have e:b.data.toList.length=q:=by simpa using a
 have f:k<x.data.toList.length:=by simpa using c
 simp only [ByteArray.data_append,zo];rw [zr,List.getElem?_append_right (by omega),List.getElem?_append_left (by omega)];congr 1
 omega
theorem pE.byte(a:pE s q x)(k:Nat)(b:k<x.size):aE s (q+k)=aE x k:=by rw [sQ,sQ,a.data k b]
theorem pE.cut(c:pE s q x)(k a:Nat)(d:k+a<=x.size):s.extract (q+k) (q+k+a)=x.extract k (k+a):=by
 obtain ⟨b,e,rfl,c⟩:=c;refine ByteArray.ext (Array.toList_inj.1 ?_);have f:b.data.toList.length=q:=by simpa using c
 have g:k+a<=x.data.toList.length:=by simpa using d
 simp only [ByteArray.data_extract,Array.toList_extract,ByteArray.data_append,zo,List.extract_eq_take_drop];rw [zr,zn,zn];rw [List.drop_eq_nil_of_le (show b.data.toList.length<=q+k by omega),List.nil_append,show q+k-b.data.toList.length=k by omega,List.take_append,show q+k+a-(q+k)-(List.drop k x.data.toList).length=0 by rw [zm];omega];simp
def dS:ByteArray:=⟨#[]⟩
def kt(t:Tk):Nat×ByteArray:=(t.kind,t.txt)
def gI(s:ByteArray)(q q':Nat)(b:List (Nat×ByteArray)):Prop:=∃a:List Tk,a.map kt=b/\cN s q=a++cN s q'
theorem gI.trans{a b:List (Nat×ByteArray)}(c:gI s q q' a)(d:gI s q' q'' b):gI s q q'' (a++b):=by obtain ⟨g,rfl,e⟩:=c;obtain ⟨i,rfl,f⟩:=d;exact ⟨g++i,by simp,by rw [e,f,zr]⟩
theorem vH:gI s q q []:=⟨[],rfl,rfl⟩
theorem aAp{f:Nat}(b:q<=s.size)(a:s.size<q+(f+1)):cN s q=eC (bW s (f+1) q):=(sP b a).symm
theorem xV(a:q<s.size)(b:lG (aE s q)=true):gI s q (q+1) []:=by refine ⟨[],rfl,?_⟩;rw [aAp (f:=s.size) (by omega) (by omega),bW,aG a,aG b,sP (by omega) (by omega)];rfl
theorem xW{a:Nat}(b:q<s.size)(e:lG (aE s q)=false)(c:aE s q≠37)(g:dH s q=.tok t a)(d:a<=s.size)(i:q<a):gI s q a [kt t]:=by refine ⟨[t],rfl,?_⟩;rw [aAp (f:=s.size) (by omega) (by omega),bW,aG b,aF (by rw [e];decide),aF c,g,<-sP d (show s.size<a+s.size by omega)];rfl
theorem aNj:cN s s.size=[⟨101,⟨#[]⟩,s.size⟩]:=by rw [aAp (f:=s.size) (zy _) (by omega),bW,aF (by omega)];rfl
theorem tV{c:Nat}(e:q<s.size)(a:aE s q=c)(d:mB c=true):gI s q (q+1) [(c,dS)]:=by
 have b:c=124\/c=126\/c=40\/c=41\/c=44\/c=46:=by unfold mB at d;simpa [or_assoc] using d
 have f:dH s q=.tok ⟨c,⟨#[]⟩,q⟩ (q+1):=by unfold dH;rw [a];rcases b with rfl|rfl|rfl|rfl|rfl|rfl<;>simp [dO,dP,mB]
 exact xW e (by rw [a];rcases b with rfl|rfl|rfl|rfl|rfl|rfl<;>rfl) (by rw [a];rcases b with rfl|rfl|rfl|rfl|rfl|rfl<;>decide) f (by omega) (by omega)
theorem aNk(a:pE s q ⟨#[36,102,97,108,115,101]⟩):gI s q (q+6) [(102,dS)]:=by
 have c:q+6<=s.size:=a.le;have b:aE s q=36:=a.byte 0 (by decide);have e:s.extract q (q+6)=⟨#[36,102,97,108,115,101]⟩:=a.cut 0 6 (by decide);have d:dH s q=.tok ⟨102,⟨#[]⟩,q⟩ (q+6):=by unfold dH;rw [b,aF (by decide),aF (by decide),aG rfl,aG ⟨c,e⟩]
 exact xW (by omega) (by rw [b];rfl) (by rw [b];decide) d (by omega) (by omega)
end
abbrev TT:=Nat×ByteArray
def At(a:List Tk)(b:Nat)(c:List TT):Prop:=(a.drop b).map kt=c
theorem At.hd{T:List Tk}{b:Nat}{a:TT}{d:List TT}(c:At T b (a::d)):(aH T b).kind=a.1/\(aH T b).txt=a.2/\At T (b+1) d:=by
 unfold At at c ⊢;cases hd:T.drop b with
 |nil=>rw [hd] at c;simp at c
 |cons t u=>
  rw [hd] at c;simp only [List.map_cons,List.cons.injEq] at c;have e:T[b]?=some t:=by
   have:(T.drop b)[0]?=some t:=by rw [hd];rfl
   simpa using this
  have f:aH T b=t:=by unfold aH;rw [zw,e];rfl
  have g:T.drop (b+1)=u:=by rw [<-List.drop_drop,hd];rfl
  rw [f,g,<-c.1];exact ⟨rfl,rfl,c.2⟩
theorem At.len{a:List Tk}{d:Nat}{c:List TT}(b:At a d c):c.length<=a.length:=by unfold At at b;rw [<-b,List.length_map,zm];omega
def aAq(c:List TT):Prop:=∃a b,c=a::b/\a.1≠40
theorem xX{a:TT}{b:List TT}(c:a.1≠40):aAq (a::b):=⟨a,b,rfl,c⟩
def gJ:List Nat:=[110,118,102,101,63,124,126,40,41,44,46]
theorem aAr:∀a∈gJ,∀b∈gJ,dN a=dN b->a=b:=by decide
theorem aNl{d:Nat}(a:dH s k=.tok t d):t.kind∈gJ:=by
 unfold dH at a;split at a
 ·split at a
  ·cases a
  ·simp only [Nx.tok.injEq] at a;rw [<-a.1];simp only;split<;>decide
 ·split at a
  ·split at a
   ·simp only [Nx.tok.injEq] at a;rw [<-a.1];show (110:Nat)∈gJ;decide
   ·cases a
  ·split at a
   ·split at a
    ·simp only [Nx.tok.injEq] at a;rw [<-a.1];show (102:Nat)∈gJ;decide
    ·cases a
   ·split at a
    ·rename_i c;simp only [Nx.tok.injEq] at a;rw [<-a.1];simp only;generalize aE s k=b at c ⊢;have e:b=124\/b=126\/b=40\/b=41\/b=44\/b=46:=by unfold mB at c;simp at c;omega
     rcases e with rfl|rfl|rfl|rfl|rfl|rfl<;>decide
    ·cases a
theorem aNm(s:ByteArray):∀a k,∀t∈(bW s a k).1,t.kind∈gJ:=by
 intro a;induction a with
 |zero=>intro k;simp [bW]
 |succ a ih=>
  intro k;rw [bW];split
  ·split
   ·exact ih _
   ·split
    ·exact ih _
    ·split
     ·rename_i t d b;intro c hu;rcases List.mem_cons.1 hu with rfl|hu
      ·exact aNl b
      ·exact ih _ c hu
     ·simp
  ·intro t b;simp at b;rw [b];show (101:Nat)∈gJ;decide
theorem aNn{a:List Tk×Option Nat}(c:∀t∈a.1,t.kind∈gJ):∀t∈eC a,t.kind∈gJ:=by
 obtain ⟨d,b⟩:=a;intro t ht;unfold eC at ht;rcases List.mem_append.1 ht with ht|ht
 ·exact c t ht
 ·cases b with
  |none=>simp at ht
  |some p=>
   simp at ht;rw [ht];show (63:Nat)∈gJ;decide
theorem aNo(s:ByteArray)(b a:Nat):(aH (cN s b) a).kind∈gJ:=by
 unfold aH;by_cases c:a<(cN s b).length
 ·rw [zw,zt c,Option.getD_some];exact aNn (aNm s _ _) _ (List.getElem_mem _)
 ·rw [zw,zq (by omega)];decide
theorem aNp{b e:List Tk}{c:Nat}(a:b.drop c=t::e):c<b.length/\aH b c=t/\b.drop (c+1)=e:=by
 have d:c<b.length:=Classical.byContradiction λf=>by rw [List.drop_of_length_le (by omega)] at a;cases a
 rw [List.drop_eq_getElem_cons d] at a;simp only [List.cons.injEq] at a;exact ⟨d,by unfold aH;rw [zw,zt d];exact a.1,a.2⟩
section
variable {w:World}{pb:Nat}{left:Value}{k a:Int}{wd:ByteArray}{vC vP vM:Value}
theorem bM.setTok(e:bM w pb left k a wd vC vP vM)(b c:Int)(d:ByteArray):bM (((w.setCell ⟨pb,1,none⟩ (.int .i32 b)).setCell ⟨pb,2,none⟩ (.int .i64 c)).setCell ⟨pb,3,none⟩ (.string d)) pb left b c d vC vP vM:=by have f:bM (w.setCell ⟨pb,1,none⟩ (.int .i32 b)) pb left b a wd vC vP vM:=heap_setCell_same w pb 1 _ _ _ e;have g:bM ((w.setCell ⟨pb,1,none⟩ (.int .i32 b)).setCell ⟨pb,2,none⟩ (.int .i64 c)) pb left b c wd vC vP vM:=heap_setCell_same _ pb 2 _ _ _ f;exact heap_setCell_same _ pb 3 _ _ _ g
theorem bM.rows(g:bM w pb left k a wd vC vP vM)(b c:Int)(r:ByteArray){f:Nat}{d:TypeId}{l:Nat}{m:Value}{j:Nat}{n:List Value}(q:w.ownsRow f d l m j n)(e:d≠54):(((w.setCell ⟨pb,1,none⟩ (.int .i32 b)).setCell ⟨pb,2,none⟩ (.int .i64 c)).setCell ⟨pb,3,none⟩ (.string r)).ownsRow f d l m j n:=by have i:bM (w.setCell ⟨pb,1,none⟩ (.int .i32 b)) pb left b a wd vC vP vM:=heap_setCell_same w pb 1 _ _ _ g;have o:bM ((w.setCell ⟨pb,1,none⟩ (.int .i32 b)).setCell ⟨pb,2,none⟩ (.int .i64 c)) pb left b c wd vC vP vM:=heap_setCell_same _ pb 2 _ _ _ i;exact o.row (i.row (g.row q e 1 _) e 2 _) e 3 _
end
structure PP(B:Nat)(w:World)(pb:Nat)(s:ByteArray)(T:List Tk)(i g q j m c:Nat)(vC vP vM:Value):Prop where
 sc:bJ B w pb s q g j m c (dN (aH T i).kind) (aH T i).pos (aH T i).txt vC vP vM
 lt:i<T.length
 on:(aH T i).kind≠101->(aH T i).kind≠63->cN s q=T.drop (i+1)
def dF(a:Nat)(w:World)(i:Nat)(s:ByteArray)(b:List Tk)(e d:Nat)(l n m:Value):Prop:=∃j f g c,PP a w i s b e d j f g c l n m
theorem aF0{m:Nat}{d:World}{a:Nat}{T:List Tk}{i r f:Nat}{k n:Int}{v:ByteArray}{g l j:Value}{o:Ending}{q:Nat}(N:f<=s.size)(I:s.size<f+q)(A:cN s f=T.drop i)(b:qA m a s f q r k n v g l j w o d):o=.returned (.agg #[.int .i32 (dN (aH T i).kind),.int .i64 (aH T i).pos,.string (aH T i).txt])/\w.grownBy d (some a)/\(∃left,bM d a left k n v g l j)/\
  dF m (((d.setCell ⟨a,1,none⟩ (.int .i32 (dN (aH T i).kind))).setCell ⟨a,2,none⟩ (.int .i64 (aH T i).pos)).setCell ⟨a,3,none⟩ (.string (aH T i).txt)) a s T i r g l j:=by
 obtain ⟨J,b⟩:=b;have e:=aNi s _ q f (zy _) N I;have y:∀(t:Tk) (u:Nat) (E:List Tk),T.drop i=t::E->(t.kind≠101->t.kind≠63->cN s u=E)->o=.returned (fJ (dN t.kind) t.pos t.txt)->(∃C D x,bJ m d a s u r C D x k n v g l j)->o=.returned (.agg #[.int .i32 (dN (aH T i).kind),.int .i64 (aH T i).pos,.string (aH T i).txt])/\w.grownBy d (some a)/\(∃left,bM d a left k n v g l j)/\dF m (((d.setCell ⟨a,1,none⟩ (.int .i32 (dN (aH T i).kind))).setCell ⟨a,2,none⟩ (.int .i64 (aH T i).pos)).setCell ⟨a,3,none⟩ (.string (aH T i).txt)) a s T i r g l j:=by
  intro t u E F M H c;obtain ⟨L,B,G⟩:=aNp F;obtain ⟨C,D,x,c⟩:=c;rw [B];refine ⟨H,J,⟨_,c.box⟩,u,C,D,x,⟨?_,L,?_⟩⟩
  ·rw [B];exact ⟨c.box.setTok _ _ _,c.high,c.box.rows _ _ _ c.row (by decide),c.len,c.drop,c.le⟩
  ·rw [B,G];exact M
 cases hx:qJ s q f with
 |tok t e'=>
  rw [hx] at b e;obtain ⟨O,_,_,_⟩:=e;exact y t e' _ (by rw [<-A,O]) (λ_ _=>rfl) b.1 b.2
 |bad p=>
  rw [hx] at b e;exact y ⟨63,⟨#[]⟩,p⟩ p [] (by rw [<-A,e.1]) (λ_ z=>absurd rfl z) b.1 b.2
 |stop p=>
  rw [hx] at b e;exact y ⟨101,⟨#[]⟩,p⟩ p [] (by rw [<-A,e.1]) (λz _=>absurd rfl z) b.1 b.2
theorem lR{l:Nat}{j:Nat}{d:List Tk}{a m:Nat}{q u r:Value}(c:Nat)(G:c∈gJ)(D:c≠101)(E:c≠63)(F:∀a,(aH d a).kind∈gJ)(I:s.size<=3000)(C:dF l w j s d a m q u r):Calls zs 58 #[.pointer (some ⟨j,0,none⟩),.int .i32 (dN c)] w λf v=>f=.returned (.bool (decide ((aH d a).kind=c)))/\w.grownBy v (some j)/\dF l v j s d (if (aH d a).kind=c then a+1 else a) m q u r:=by
 obtain ⟨M,J,L,A,e⟩:=C;have B:=e.sc.box.c1;by_cases b:(aH d a).kind=c
 ·rw [aG b,fH b];have i:=aA ((aEy (s.size+1) e.sc I (by omega)).mono λf N H=>aF0 e.sc.le (by omega) (e.on (by rw [b];exact D) (by rw [b];exact E)) H);rw [b] at B i;clear b e;generalize dN c=K at *;generalize aH d (a+1)=t at i;obtain ⟨T,V,U⟩:=t;simp only at i;go_enter Tryz.func58,Tryz.ntmps58;go_wp2_with (first
   |(go_at_call 30;refine (aC i).mono ?_;rintro f N ⟨rfl,o,⟨left,g⟩,n⟩;have O:=g.c1;have P:=g.c2;have Q:=g.c3;have R:=g.soft;have x:=aA o;have z:=aA n;clear o n g)
   |go_in)
  go_ret;exact ⟨rfl,qK (qK (qK x.o _) _) _,z.o⟩
 ·rw [aF b,gH b];have S:(dN (aH d a).kind != dN c)=true:=by simp;exact λf=>b (aAr _ (F a) _ G f)
  have y:=aA e;clear e;go_enter Tryz.func58,Tryz.ntmps58;go_wp2;go_ret;exact ⟨rfl,World.grownBy.refl _ _,M,J,L,A,y.o⟩
