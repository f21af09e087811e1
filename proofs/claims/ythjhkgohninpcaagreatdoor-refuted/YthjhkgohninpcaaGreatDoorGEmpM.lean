import Derived.Test.YthjhkgohninpcaaGreatDoorGWordM
import Derived.Test.YthjhkgohninpcaaGreatDoorSCl0M
open Bool renaming and_eq_false_iff→zw
open List renaming getD_eq_getElem?_getD→zu,getElem?_eq_getElem→zs
open Nat renaming le_refl→zy
namespace Go.Proofs.YthjhkgohninpcaaGreatDoor
open _root_.Go.Proofs.Tryz renaming results50→zv,prog→zt
open World renaming cell?→zz,frozen?→zx
open Go.RowKit
set_option maxHeartbeats 3000000
set_option maxRecDepth 100000
variable{s:ByteArray}{k p:Nat}{w:World}
abbrev fB:ByteArray:=⟨#[36,102,97,108,115,101]⟩
def uL(s:ByteArray)(p:Nat):Prop:=p+6<=s.size/\s.extract p (p+6)=fB
theorem aA6:∀a,a<6->aE fB a<128:=by
 have:∀a:Fin 6,aE fB a.1<128:=by decide
 exact λa b=>this ⟨a,b⟩
theorem aGm:uL s p↔p+6<=s.size/\∀a,a<6->aE s (p+a)=aE fB a:=by
 unfold uL;constructor
 ·rintro ⟨b,c⟩;refine ⟨b,λa l=>?_⟩;have:aE (s.extract p (p+6)) a=aE fB a:=by rw [c]
  rw [<-this,fP (s.extract p (p+6)) a (by rw [ByteArray.size_extract];omega),fP s (p+a) (by omega),ByteArray.getElem_extract]
 ·rintro ⟨b,c⟩;refine ⟨b,?_⟩;apply ByteArray.ext;apply Array.ext
  ·have:(s.extract p (p+6)).size=6:=by rw [ByteArray.size_extract];omega
   exact this
  ·intro a i j;have e:a<6:=j;have d:=c a e;rw [fP s (p+a) (by omega),fP fB a e] at d;have f:(s.extract p (p+6))[a]'i=s[p+a]'(by omega):=ByteArray.getElem_extract ..;have g:=UInt8.toNat_inj.1 d;exact f.trans g
def aOj(c a:Nat)(s:ByteArray)(p f o r m:Nat)(k d:Int)(l:ByteArray)(g j i:Value)(w:World)(e:Ending)(b:World):Prop:=
 w.grownBy b (some a)/\((uL s p/\e=.returned (gF 36 p ⟨#[]⟩)/\∃q t n,bQ c b a s (p+6) f q t n k d l g j i)\/(¬uL s p/\e=.returned (gF (-2) p ⟨#[]⟩)/\bQ c b a s p f o r m k d l g j i))
section
variable {B:Nat}{pb:Nat}{s:ByteArray}{p g j m c:Nat}{k a:Int}{wd:ByteArray}{vC vP vM:Value}
theorem aGn(u:bQ B w pb s p g j m c k a wd vC vP vM):Calls zt 87 #[.pointer (some ⟨pb,0,none⟩)] w λN e3=>aOj B pb s p g j m c k a wd vC vP vM w N e3:=by
 have M:=u.box.c0;have a5:=u.at0.2;have c1:∀f,(w.alloc f).cell? ⟨pb,0,none⟩=some (.slice (some ⟨g,j*2,none⟩) (m+1) (c+1)):=λf=>aD ((Below.refl _ w).alloc (zy _) f) M
 have c2:∀f,(w.alloc f).cell? ⟨g,j*2+1,none⟩=some (.int .i64 p):=λf=>aD ((Below.refl _ w).alloc (zy _) f) a5
 have Y:aG (∀f l,aC w ((w.alloc f).alloc l)):=aA λf l=>((Below.refl _ _).alloc (zy _) f).alloc (by simp) l
 have a3:aG (∀f l,((w.alloc f).alloc l).heap[w.heap.size]?=some f/\((w.alloc f).alloc l).heap[w.heap.size+1]?=some l/\((w.alloc f).alloc l).heap.size=w.heap.size+2):=aA λf l=>⟨by show ((w.heap.push _).push _)[w.heap.size]?=_;simp [Array.getElem?_push],by
  show ((w.heap.push f).push l)[w.heap.size+1]?=_;have u:((w.heap.push f).push l)[(w.heap.push f).size]?=some l:=by rw [Array.getElem?_push];exact aJ rfl
  rwa [Array.size_push] at u,by simp⟩
 have C:=aA u;have d5:=u.box.lt;clear u M a5;go_enter Tryz.func87,Tryz.ntmps87;go_wp2;have S:=Y.o (.cells #[.int .i32 0,.int .i64 0,.string ⟨#[]⟩] 63) (.cells #[.int .i32 36,.int .i64 p,.string ⟨#[]⟩] 63);have Q:=aA (C.o.below S);obtain ⟨a9,b0,b1⟩:=a3.o (.cells #[.int .i32 0,.int .i64 0,.string ⟨#[]⟩] 63) (.cells #[.int .i32 36,.int .i64 p,.string ⟨#[]⟩] 63);have Z:=aA S;have R:=aA a9;have a4:=aA b0;clear S a9 b0 Y a3 c1 c2;generalize (w.alloc (.cells #[.int .i32 0,.int .i64 0,.string ⟨#[]⟩] 63)).alloc (.cells #[.int .i32 36,.int .i64 p,.string ⟨#[]⟩] 63)=w2 at *;obtain ⟨d,P⟩ : ∃d,w.heap.size=d:=⟨_,rfl⟩;rw [P] at b1 R a4 d5;simp only [P];have a1:=aA P;clear P;go_loopg [] 6 (λd8 wr=>∃b:Nat,d8+b=6/\wr.heap[d+2]?=some (.stringIter fB b)/\aC w2 wr/\p+b<=s.size/\∀i,i<b->aE s (p+i)=aE fB i);case atStart=>
  refine ⟨0,rfl,?_,(Below.refl _ w2).alloc (zy _) _,C.o.le,λi W=>by omega⟩;have:=World.iter_heap w2 fB 0;rw [b1] at this;simpa using this
 case round=>
  obtain ⟨b,f7,x,t,O,D⟩:=hrel;have e8:=aA x;have b2:=aA D;have a2:=aA t;have d2:∀i,i<b->aE s (p+i)<128:=λi W=>by rw [D i W];exact aA6 i (by omega)
  obtain ⟨E,d1⟩:=Q.o.letters b O d2;have b4:=aA E;by_cases I:b<6
  ·have y:b<fB.size:=I;have c8:(fB[b]'y).toNat<128:=by have:=aA6 b I;rw [fP fB b y] at this;exact this
   have a8:∀A,(Instr.next (.pointer (some ⟨d+2,0,none⟩)) true A).run zt wr=_:=λA=>Lib.run_next_ascii_at wr (d+2) fB b A x y c8
   have b5:=aA (Lib.iterAt_heap wr (d+2) fB b (b+1) x);have H:=Lib.below_iterAt t (k:=d+2) (by omega) fB (b+1);have q:=Q.o.below H;have c0:=(q.cells b (p+b) E O d1).1;have M:=q.box.c0;have b7:=aA q;have a0:=aA H;have b8:aG ((wr.iterAt (d+2) fB (b+1)).heap[d]?=some (.cells #[.int .i32 0,.int .i64 0,.string ⟨#[]⟩] 63)):=aA ((H.block d (by omega)).trans R.o);have U:(fB[b]'y).toNat=aE fB b:=(fP fB b y).symm;have f3:(b:Int)<(m:Int)+1:=by omega
   have f2:(0:Int)<=(b:Int):=by omega
   by_cases F:aX s (p+b)=(aE fB b:Int)
   ·have d3:p+b<s.size:=Classical.byContradiction λd4=>by rw [oR s _ d4] at F;omega
    have c7:=(fM s (p+b) d3 (aE fB b) (aA6 b I)).1 F;rw [F,<-U] at c0;clear x D t E q H;go_wp2;go_roundg (6-(b+1));case measure=>omega
    case rel=>exact ⟨b+1,by omega,b5.o,a0.o,by omega,λi W=>by
     by_cases N:i=b
     ·subst N;exact c7
     ·exact b2.o i (by omega)⟩
   ·have b6:aG (¬uL s p):=aA λc4=>by
     obtain ⟨f0,c3⟩:=aGm.1 c4;exact F ((fM s (p+b) (by omega) (aE fB b) (aA6 b I)).2 (c3 b I))
    have X:=aA (wM b7.o);unfold gF at X;rw [U] at a8;generalize aX s (p+b)=cc at *;have f6:(cc != (aE fB b:Int))=true:=by simpa using F
    clear x D t E q H U;go_wp2_with (first
     |(go_at_call 89;refine (aB X).mono ?_;rintro N L ⟨rfl,T⟩;have J:=(T.block d (by have:=a2.o.size;simp only [Lib.iterAt_size];omega)).trans b8.o;have b3:=aA T;have d9:L.cell? ⟨d,0,none⟩=some (.int .i32 0):=(by simp [zz,J]);have e0:L.cell? ⟨d,1,none⟩=some (.int .i64 0):=(by simp [zz,J]);have e1:L.cell? ⟨d,2,none⟩=some (.string ⟨#[]⟩):=(by simp [zz,J]);have e2:=jJ (v:=.int .i32 (-2)) d9;have f8:∀b,L.frozen? ⟨d,b,none⟩=false:=(λb=>by simp [zx,J]);clear T J)
     |go_in)
    refine bodyPost_ret (by simp [results,Tryz.results87,go_sem,e2,e0,e1];try rfl) rfl ?_;have V:aC w (wr.iterAt (d+2) fB (b+1)):=aV Z.o a0.o;have c9:aC w L:=aV V b3.o;have z:w.heap.size<=d:=by rw [a1.o];exact zy _
    have G:=eH (eH (eH c9 (p:=⟨d,0,none⟩) z (.int .i32 (-2))) (p:=⟨d,1,none⟩) z (.int .i64 p)) (p:=⟨d,2,none⟩) z (.string ⟨#[]⟩);exact ⟨nI G _,Or.inr ⟨b6.o,rfl,C.o.below G⟩⟩
  ·obtain rfl:b=6:=by omega
   have y:¬6<fB.size:=by decide
   have a8:∀A,(Instr.next (.pointer (some ⟨d+2,0,none⟩)) true A).run zt wr=_:=λA=>Lib.run_next_end_at wr (d+2) fB 6 A x y
   have b9:aG (uL s p):=aA (aGm.2 ⟨O,D⟩);have q:=Q.o.below t;have M:=q.box.c0;have e9:=q.box.soft 0;have a7:=(t.block d (by omega)).trans R.o;have a6:=(t.block (d+1) (by omega)).trans a4.o;obtain ⟨n,rfl⟩ : ∃n,m=n+6:=⟨m-6,by omega⟩;obtain ⟨o,rfl⟩ : ∃o,c=o+6:=⟨c-6,by have:=C.o.mc;omega⟩;have d6:pb≠d:=by omega
   have d7:pb≠d+1:=by omega
   have r:∀e,(wr.setCell ⟨pb,0,none⟩ e).heap[d]?=some (.cells #[.int .i32 0,.int .i64 0,.string ⟨#[]⟩] 63)/\(wr.setCell ⟨pb,0,none⟩ e).heap[d+1]?=some (.cells #[.int .i32 36,.int .i64 p,.string ⟨#[]⟩] 63):=λe=>⟨by rw [Below.heap_setCell _ _ _ _ d6.symm];exact a7,by rw [Below.heap_setCell _ _ _ _ d7.symm];exact a6⟩
   have e4:∀e,(wr.setCell ⟨pb,0,none⟩ e).cell? ⟨d,0,none⟩=some (.int .i32 0):=λe=>by simp [zz,(r e).1]
   have e5:∀e,(wr.setCell ⟨pb,0,none⟩ e).cell? ⟨d,1,none⟩=some (.int .i64 0):=λe=>by simp [zz,(r e).1]
   have e6:∀e,(wr.setCell ⟨pb,0,none⟩ e).cell? ⟨d,2,none⟩=some (.string ⟨#[]⟩):=λe=>by simp [zz,(r e).1]
   have f9:∀e b,(wr.setCell ⟨pb,0,none⟩ e).frozen? ⟨d,b,none⟩=false:=λe b=>by simp [zx,(r e).1]
   have g0:∀e,(wr.setCell ⟨pb,0,none⟩ e).cell? ⟨d+1,0,none⟩=some (.int .i32 36):=λe=>by simp [zz,(r e).2]
   have g1:∀e,(wr.setCell ⟨pb,0,none⟩ e).cell? ⟨d+1,1,none⟩=some (.int .i64 p):=λe=>by simp [zz,(r e).2]
   have g2:∀e,(wr.setCell ⟨pb,0,none⟩ e).cell? ⟨d+1,2,none⟩=some (.string ⟨#[]⟩):=λe=>by simp [zz,(r e).2]
   have e7:=λe=>jJ (v:=.int .i32 36) (e4 e)
   have f5:n+6+1-6=n+1:=by omega
   have f1:o+6+1-6=o+1:=by omega
   have f4:(6:Int)<=(n:Int)+6+1:=by omega
   clear r x D t E q a7 a6;go_wp2;refine bodyPost_ret (by simp [results,Tryz.results87,go_sem,e7,e5,e6];try rfl) rfl ?_;have c5:=bQ.jump 6 (p+6) n o C.o b4.o O;have V:aC w wr:=aV Z.o a2.o;have c6:Below (w.setCell ⟨pb,0,none⟩ (.slice (some ⟨g,j*2+6*2,none⟩) (n+1) (o+1))).heap.size (w.setCell ⟨pb,0,none⟩ (.slice (some ⟨g,j*2+6*2,none⟩) (n+1) (o+1))) (wr.setCell ⟨pb,0,none⟩ (.slice (some ⟨g,j*2+6*2,none⟩) (n+1) (o+1))):=aD7 V (C.o.box.lt) _;have z:(w.setCell ⟨pb,0,none⟩ (.slice (some ⟨g,j*2+6*2,none⟩) (n+1) (o+1))).heap.size<=d:=by rw [<-a1.o];simp [World.setCell]
   have G:=eH (eH (eH c6 (p:=⟨d,0,none⟩) z (.int .i32 36)) (p:=⟨d,1,none⟩) z (.int .i64 p)) (p:=⟨d,2,none⟩) z (.string ⟨#[]⟩);have d0:w.grownBy (w.setCell ⟨pb,0,none⟩ (.slice (some ⟨g,j*2+6*2,none⟩) (n+1) (o+1))) (some pb):=bX _ _ _;exact ⟨d0.trans (nI G _),Or.inl ⟨b9.o,rfl,_,_,_,c5.below G⟩⟩
end
def eF(k:Nat):Int:=if k=110 then 97 else if k=118 then 65 else if k=102 then 36 else if k=101 then -1 else if k=63 then -2 else k
theorem aOk(s:ByteArray)(p:Nat)(a:p<s.size):eB (aX s p)=eB (aE s p):=by
 by_cases c:aE s p<128
 ·rw [(mM s p a c).1]
 ·have b:eB (aE s p:Int)=false:=by simp only [eB,zw,decide_eq_false_iff_not];omega
  rw [b];rcases yG s p a (by omega) with e|e<;>(simp only [eB,zw,decide_eq_false_iff_not];omega)
theorem aOl(s:ByteArray)(p:Nat)(a:p<s.size):dS (aX s p)=dS (aE s p):=by
 by_cases c:aE s p<128
 ·rw [(mM s p a c).1]
 ·have b:dS (aE s p:Int)=false:=by simp only [dS,zw,decide_eq_false_iff_not];omega
  rw [b];rcases yG s p a (by omega) with e|e<;>(simp only [dS,zw,decide_eq_false_iff_not];omega)
theorem aOm(s:ByteArray)(p:Nat)(c:p<s.size):rV (aX s p)=nV (aE s p):=by
 unfold rV nV;have a:∀b:Nat,b<128->(aX s p=(b:Int))=(aE s p=b):=λb d=>propext (fM s p c b d)
 have e:(aX s p=124)=(aE s p=124):=a 124 (by omega);have f:(aX s p=126)=(aE s p=126):=a 126 (by omega);have g:(aX s p=40)=(aE s p=40):=a 40 (by omega);have i:(aX s p=41)=(aE s p=41):=a 41 (by omega);have j:(aX s p=44)=(aE s p=44):=a 44 (by omega);have l:(aX s p=46)=(aE s p=46):=a 46 (by omega);simp only [e,f,g,i,j,l]
section
variable {B:Nat}{w W:World}{pb:Nat}{s:ByteArray}{p g j m c:Nat}{k a:Int}{wd:ByteArray}{vC vP vM:Value}
theorem bQ.setTok{d:Nat}{l:Array Value}(b:bQ B W pb s p g j m c k a wd vC vP vM)(n:W.heap[d]?=some (.cells l 63))(i:Nat)(e:Value):bQ B (W.setCell ⟨d,i,none⟩ e) pb s p g j m c k a wd vC vP vM/\∃r,(W.setCell ⟨d,i,none⟩ e).heap[d]?=some (.cells r 63):=by
 have t:pb≠d:=by rintro rfl;have:=b.box;unfold bV at this;rw [n] at this;simp at this
 refine ⟨⟨?_,b.high,?_,b.len,b.drop,b.le⟩,?_⟩
 ·unfold bV;rw [Below.heap_setCell _ _ _ _ t];exact b.box
 ·refine ownsRow_setCell_other b.row ?_ e;intro o;obtain ⟨_,⟨f,_⟩|⟨x,u,v,f,_,q,_⟩⟩:=b.row
  ·simp at f
  ·simp at f;obtain ⟨rfl,_⟩:=f;simp [Value.ownBlock] at o;subst o;rw [n] at q;simp at q
 ·refine ⟨l.set! i e,?_⟩;have:=heap_setCell_same W d i l 63 e n;simpa using this
theorem bQ.setTok3{b:Nat}{i:Array Value}(l:bQ B W pb s p g j m c k a wd vC vP vM)(q:W.heap[b]?=some (.cells i 63))(d e f:Value):bQ B (((W.setCell ⟨b,0,none⟩ d).setCell ⟨b,1,none⟩ e).setCell ⟨b,2,none⟩ f) pb s p g j m c k a wd vC vP vM:=by obtain ⟨n,u,r⟩:=l.setTok q 0 d;obtain ⟨o,v,t⟩:=n.setTok r 1 e;exact (o.setTok t 2 f).1
end
theorem jA{b:World}{c d i:Nat}(a:w.grownBy b (some c))(l:w.heap.size<=d)(j:Value):w.grownBy (b.setCell ⟨d,i,none⟩ j) (some c):=
 ⟨a.os,a.tape,a.output,by have:=a.size;simpa [World.setCell] using this,λk f g=>by rw [Below.heap_setCell _ _ _ _ (by intro e;simp at e;omega)];exact a.block k f g⟩
def rT(f d:Nat)(s:ByteArray)(p r j:Nat)(k g:Int)(o:ByteArray)(l n m:Value)(w:World)(i:Ending)(e:World):Prop:=
 w.grownBy e (some d)/\
  match sJ s r p with
  | .tok t q=>i=.returned (gF (eF t.kind) t.pos t.txt)/\∃b c a,bQ f e d s q j b c a k g o l n m
  | .bad q=>i=.returned (gF (-2) q ⟨#[]⟩)/\∃b c a,bQ f e d s q j b c a k g o l n m
  | .stop q=>i=.returned (gF (-1) q ⟨#[]⟩)/\∃b c a,bQ f e d s q j b c a k g o l n m
theorem aGo(a:(eB (aE s p) || dS (aE s p))=true):gT (aE s p)=true:=by unfold gT;rw [Bool.or_eq_true] at a;rcases a with h|h<;>simp [h]
section
variable {B:Nat}{w:World}{pb:Nat}{s:ByteArray}{p g j m c:Nat}{k a:Int}{wd:ByteArray}{vC vP vM:Value}
theorem aGp(G:Nat)(c2:bQ B w pb s p g j m c k a wd vC vP vM)(b2:s.size<=3000)(f4:s.size<p+G):Calls zt 50 #[.pointer (some ⟨pb,0,none⟩)] w λe d=>rT B pb s p G g k a wd vC vP vM w e d:=by
 obtain ⟨b7,h7,f9⟩:=aR7 s G p f4 c2.le;have d1:=aA (λb9=>aR8 G (c2.below ((Below.refl w.heap.size w).alloc (zy _) b9)) f4);have f1:aG (∀b9,(w.alloc b9).heap[w.heap.size]?=some b9):=aA λb9=>by show (w.heap.push _)[w.heap.size]?=_;simp
 have h8:=c2.box.lt;obtain ⟨b,g2⟩ : ∃b,mN s G p=b:=⟨_,rfl⟩;rw [g2] at b7 h7 f9 d1;have e9:=aA b7;clear c2 g2 b7;go_enter Tryz.func50,Tryz.ntmps50;go_upto_region 3 with (first
  |(go_at_call 82;refine (aB d1 _).mono ?_;rintro e z ⟨rfl,c8,i1,j2,i8,b6⟩;have g4:=(c8.block w.heap.size (by simp) (by simp;omega)).trans (f1.o _);have f0:=aA b6;have f2:=aA g4;have h0:=b6.box.c0;have h1:=b6.at0.1;have h2:=b6.at0.2;have e8:aG (w.grownBy z (some pb)):=aA ((nI ((Below.refl w.heap.size w).alloc (zy _) _) (some pb)).trans c8);have e4:=c8.size;clear c8 b6 g4)
  |go_in)
 have c5:=(Below.refl z.heap.size z).alloc (zy _) (.cells #[.int .i32 (aX s b),.int .i64 b] 149);have N:=aA (f0.o.below c5);have e3:=c5.block w.heap.size (by simp at e4;omega);rw [f2.o] at e3;have a3:=aA e3;have a8:=aA (e8.o.trans (nI c5 (some pb)));have c7:(z.alloc (.cells #[.int .i32 (aX s b),.int .i64 b] 149)).heap[z.heap.size]?=some (.cells #[.int .i32 (aX s b),.int .i64 b] 149):=by show (z.heap.push _)[z.heap.size]?=_;simp
 have d3:(z.alloc (.cells #[.int .i32 (aX s b),.int .i64 b] 149)).cell? ⟨z.heap.size,0,none⟩=some (.int .i32 (aX s b)):=by unfold zz;rw [c7];rfl
 have i7:(z.alloc (.cells #[.int .i32 (aX s b),.int .i64 b] 149)).cell? ⟨z.heap.size,1,none⟩=some (.int .i64 b):=by unfold zz;rw [c7];rfl
 have d5:z.heap.size<(z.alloc (.cells #[.int .i32 (aX s b),.int .i64 b] 149)).heap.size:=by simp
 have c0:=aA c7;have t:w.heap.size<=w.heap.size:=zy _;have h9:w.heap.size<z.heap.size:=by simp at e4;omega
 clear c5 e3 c7 f0 f2 e8 f1 d1 h0 h1 h2 e4;generalize z.alloc (.cells #[.int .i32 (aX s b),.int .i64 b] 149)=w2 at *;generalize z.heap.size=fb at *;obtain ⟨f,e1⟩ : ∃f,w.heap.size=f:=⟨_,rfl⟩;rw [e1] at a3 h8 h9;simp only [e1];have t:w.heap.size<=f:=by omega
 clear e1;have A:=aA (λe7=>aHo (aX s b) e7);have E:=aA (λe7=>aHp (aX s b) e7);by_cases v:b<s.size
 ·have V:aG (sJ s G p=eZ s b):=aA (by rw [e9.o,aJ v]);obtain ⟨j0,i9⟩:=f9 v;have b0:=aOk s b v;have a9:=aOl s b v;rw [b0] at A;rw [a9] at E;by_cases a5:(eB (aE s b) || dS (aE s b))=true
  ·have d0:=aGo a5;have a6:=aJs a5;by_cases e2:eB (aE s b)=true
   ·have d8:dS (aE s b:Int)=false:=by simp only [eB,Bool.and_eq_true,decide_eq_true_eq] at e2;simp only [dS,zw,decide_eq_false_iff_not];omega
    rw [d8] at a6;rw [e2] at A;obtain ⟨K,C,T,R,Q⟩ : ∃(K:Int) (C:Nat) (T:ByteArray),(∀d,w.grownBy d (some pb)->(∃j m c,bQ B d pb s C g j m c k a wd vC vP vM)->rT B pb s p G g k a wd vC vP vM w (.returned (gF K b T)) d)/\Calls zt 84 #[.pointer (some ⟨pb,0,none⟩),.int .i32 97] w2 λe d=>e=.returned (.agg #[.int .i32 K,.int .i64 b,.string T])/\w2.grownBy d (some pb)/\∃j m c,bQ B d pb s C g j m c k a wd vC vP vM:=by
     by_cases a1:eV s b-b > 20
     ·refine ⟨-2,b,⟨#[]⟩,λd l u=>⟨l,by rw [V.o,a6,aJ a1];exact ⟨rfl,u⟩⟩,(aAi 97 N.o b2 v d0).mono ?_⟩;rintro e d ⟨l,hr⟩;rw [aJ a1] at hr;exact ⟨hr.1,l,_,_,_,hr.2⟩
     ·refine ⟨97,eV s b,s.extract b (eV s b),λd l u=>⟨l,by rw [V.o,a6,aI a1];exact ⟨rfl,u⟩⟩,(aAi 97 N.o b2 v d0).mono ?_⟩;rintro e d ⟨l,hr⟩;rw [aI a1] at hr;exact ⟨hr.1,l,hr.2⟩
    have F:=aA R;have a7:=aA Q;clear R Q b0 a9 a6;generalize aX s b=cc at *;go_wp2_with (first
     |(go_at_call 83;refine (aB A _).mono ?_;rintro e P ⟨rfl,rfl⟩)
     |(go_at_call 84;refine (aB a7).mono ?_;rintro e q ⟨rfl,D,e5,e6,d4,S⟩;have n:=(D.block f (by omega) (by simp;omega)).trans a3.o;have Z:=aA S;have Y:=aA D;have a0:=aA n;have H:q.cell? ⟨f,0,none⟩=some (.int .i32 0):=(by simp [zz,n]);have I:q.cell? ⟨f,1,none⟩=some (.int .i64 0):=(by simp [zz,n]);have J:q.cell? ⟨f,2,none⟩=some (.string ⟨#[]⟩):=(by simp [zz,n]);have L:=λM=>jJ (v:=M) H;have b4:∀i,q.frozen? ⟨f,i,none⟩=false:=(λi=>by simp [zx,n]);clear D S n)
     |go_in)
    refine bodyPost_ret (by simp [results,zv,go_sem,L,I,J];try rfl) rfl ?_;exact F.o _ (jA (jA (jA (a8.o.trans Y.o) t _) t _) t _) ⟨_,_,_,Z.o.setTok3 a0.o _ _ _⟩
   ·have b8:eB (aE s b:Int)=false:=by simpa using e2
    have d8:dS (aE s b:Int)=true:=by rw [b8] at a5;simpa using a5
    rw [d8] at a6 E;rw [b8] at A;obtain ⟨K,C,T,R,Q⟩ : ∃(K:Int) (C:Nat) (T:ByteArray),(∀d,w.grownBy d (some pb)->(∃j m c,bQ B d pb s C g j m c k a wd vC vP vM)->rT B pb s p G g k a wd vC vP vM w (.returned (gF K b T)) d)/\Calls zt 84 #[.pointer (some ⟨pb,0,none⟩),.int .i32 65] w2 λe d=>e=.returned (.agg #[.int .i32 K,.int .i64 b,.string T])/\w2.grownBy d (some pb)/\∃j m c,bQ B d pb s C g j m c k a wd vC vP vM:=by
     by_cases a1:eV s b-b > 20
     ·refine ⟨-2,b,⟨#[]⟩,λd l u=>⟨l,by rw [V.o,a6,aJ a1];exact ⟨rfl,u⟩⟩,(aAi 65 N.o b2 v d0).mono ?_⟩;rintro e d ⟨l,hr⟩;rw [aJ a1] at hr;exact ⟨hr.1,l,_,_,_,hr.2⟩
     ·refine ⟨65,eV s b,s.extract b (eV s b),λd l u=>⟨l,by rw [V.o,a6,aI a1];exact ⟨rfl,u⟩⟩,(aAi 65 N.o b2 v d0).mono ?_⟩;rintro e d ⟨l,hr⟩;rw [aI a1] at hr;exact ⟨hr.1,l,hr.2⟩
    have F:=aA R;have a7:=aA Q;clear R Q b0 a9 a6;generalize aX s b=cc at *;go_wp2_with (first
     |(go_at_call 83;refine (aB A _).mono ?_;rintro e P ⟨rfl,rfl⟩)
     |(go_at_call 85;refine (aB E _).mono ?_;rintro e P ⟨rfl,rfl⟩)
     |(go_at_call 84;refine (aB a7).mono ?_;rintro e q ⟨rfl,D,e5,e6,d4,S⟩;have n:=(D.block f (by omega) (by simp;omega)).trans a3.o;have Z:=aA S;have Y:=aA D;have a0:=aA n;have H:q.cell? ⟨f,0,none⟩=some (.int .i32 0):=(by simp [zz,n]);have I:q.cell? ⟨f,1,none⟩=some (.int .i64 0):=(by simp [zz,n]);have J:q.cell? ⟨f,2,none⟩=some (.string ⟨#[]⟩):=(by simp [zz,n]);have L:=λM=>jJ (v:=M) H;have b4:∀i,q.frozen? ⟨f,i,none⟩=false:=(λi=>by simp [zx,n]);clear D S n)
     |go_in)
    refine bodyPost_ret (by simp [results,zv,go_sem,L,I,J];try rfl) rfl ?_;exact F.o _ (jA (jA (jA (a8.o.trans Y.o) t _) t _) t _) ⟨_,_,_,Z.o.setTok3 a0.o _ _ _⟩
  ·have b8:eB (aE s b:Int)=false:=by simp at a5;exact a5.1
   have f8:dS (aE s b:Int)=false:=by simp at a5;exact a5.2
   have d7:(eB (aE s b) || dS (aE s b))=false:=by rw [b8,f8];rfl
   rw [b8] at A;rw [f8] at E;by_cases b5:aE s b=39
   ·have c9:=(fM s b v 39 (by omega)).2 b5;have U:=aEc d7 b5;obtain ⟨K,C,T,R,Q⟩ : ∃(K:Int) (C:Nat) (T:ByteArray),(∀d,w.grownBy d (some pb)->(∃j m c,bQ B d pb s C g j m c k a wd vC vP vM)->rT B pb s p G g k a wd vC vP vM w (.returned (gF K b T)) d)/\Calls zt 86 #[.pointer (some ⟨pb,0,none⟩)] w2 λe d=>e=.returned (.agg #[.int .i32 K,.int .i64 b,.string T])/\w2.grownBy d (some pb)/\∃j m c,bQ B d pb s C g j m c k a wd vC vP vM:=by
     cases hq:lM s b with
     |none=>
      rw [hq] at U;refine ⟨-2,b,⟨#[]⟩,λd l u=>⟨l,by rw [V.o,U];exact ⟨rfl,u⟩⟩,(aHv N.o b2 c9).mono ?_⟩;rintro e d ⟨l,hr⟩;rw [hq] at hr;exact ⟨hr.1,l,_,_,_,hr.2⟩
     |some r=>
      obtain ⟨i3,i4⟩:=r;rw [hq] at U;refine ⟨97,i4,i3,λd l u=>⟨l,by rw [V.o,U];exact ⟨rfl,u⟩⟩,(aHv N.o b2 c9).mono ?_⟩;rintro e d ⟨l,hr⟩;rw [hq] at hr;exact ⟨hr.1,l,hr.2⟩
    have F:=aA R;have a7:=aA Q;rw [c9] at d3 A E;clear R Q b0 a9 U c9;go_wp2_with (first
     |(go_at_call 83;refine (aB A _).mono ?_;rintro e P ⟨rfl,rfl⟩)
     |(go_at_call 85;refine (aB E _).mono ?_;rintro e P ⟨rfl,rfl⟩)
     |(go_at_call 86;refine (aB a7).mono ?_;rintro e q ⟨rfl,D,e5,e6,d4,S⟩;have n:=(D.block f (by omega) (by simp;omega)).trans a3.o;have Z:=aA S;have Y:=aA D;have a0:=aA n;have H:q.cell? ⟨f,0,none⟩=some (.int .i32 0):=(by simp [zz,n]);have I:q.cell? ⟨f,1,none⟩=some (.int .i64 0):=(by simp [zz,n]);have J:q.cell? ⟨f,2,none⟩=some (.string ⟨#[]⟩):=(by simp [zz,n]);have L:=λM=>jJ (v:=M) H;have b4:∀i,q.frozen? ⟨f,i,none⟩=false:=(λi=>by simp [zx,n]);clear D S n)
     |go_in)
    refine bodyPost_ret (by simp [results,zv,go_sem,L,I,J];try rfl) rfl ?_;exact F.o _ (jA (jA (jA (a8.o.trans Y.o) t _) t _) t _) ⟨_,_,_,Z.o.setTok3 a0.o _ _ _⟩
   ·have e0:aX s b≠39:=λe=>b5 ((fM s b v 39 (by omega)).1 e)
    by_cases c3:aE s b=36
    ·have f5:=(fM s b v 36 (by omega)).2 c3;have U:=aJt d7 b5 c3;obtain ⟨K,C,R,Q⟩ : ∃(K:Int) (C:Nat),(∀d,w.grownBy d (some pb)->(∃j m c,bQ B d pb s C g j m c k a wd vC vP vM)->rT B pb s p G g k a wd vC vP vM w (.returned (gF K b ⟨#[]⟩)) d)/\Calls zt 87 #[.pointer (some ⟨pb,0,none⟩)] w2 λe d=>e=.returned (.agg #[.int .i32 K,.int .i64 b,.string ⟨#[]⟩])/\w2.grownBy d (some pb)/\∃j m c,bQ B d pb s C g j m c k a wd vC vP vM:=by
      by_cases c4:uL s b
      ·rw [aJ (show b+6<=s.size/\s.extract b (b+6)=⟨#[36,102,97,108,115,101]⟩ from c4)] at U;refine ⟨36,b+6,λd l u=>⟨l,by rw [V.o,U];exact ⟨rfl,u⟩⟩,(aGn N.o).mono ?_⟩;rintro e d ⟨l,hr|hr⟩
       ·exact ⟨hr.2.1,l,hr.2.2⟩
       ·exact absurd c4 hr.1
      ·rw [aI (show ¬(b+6<=s.size/\s.extract b (b+6)=⟨#[36,102,97,108,115,101]⟩) from c4)] at U;refine ⟨-2,b,λd l u=>⟨l,by rw [V.o,U];exact ⟨rfl,u⟩⟩,(aGn N.o).mono ?_⟩;rintro e d ⟨l,hr|hr⟩
       ·exact absurd hr.1 c4
       ·exact ⟨hr.2.1,l,_,_,_,hr.2.2⟩
     have F:=aA R;have a7:=aA Q;rw [f5] at d3 A E;clear R Q b0 a9 U f5 e0;go_wp2_with (first
      |(go_at_call 83;refine (aB A _).mono ?_;rintro e P ⟨rfl,rfl⟩)
      |(go_at_call 85;refine (aB E _).mono ?_;rintro e P ⟨rfl,rfl⟩)
      |(go_at_call 87;refine (aB a7).mono ?_;rintro e q ⟨rfl,D,e5,e6,d4,S⟩;have n:=(D.block f (by omega) (by simp;omega)).trans a3.o;have Z:=aA S;have Y:=aA D;have a0:=aA n;have H:q.cell? ⟨f,0,none⟩=some (.int .i32 0):=(by simp [zz,n]);have I:q.cell? ⟨f,1,none⟩=some (.int .i64 0):=(by simp [zz,n]);have J:q.cell? ⟨f,2,none⟩=some (.string ⟨#[]⟩):=(by simp [zz,n]);have L:=λM=>jJ (v:=M) H;have b4:∀i,q.frozen? ⟨f,i,none⟩=false:=(λi=>by simp [zx,n]);clear D S n)
      |go_in)
     refine bodyPost_ret (by simp [results,zv,go_sem,L,I,J];try rfl) rfl ?_;exact F.o _ (jA (jA (jA (a8.o.trans Y.o) t _) t _) t _) ⟨_,_,_,Z.o.setTok3 a0.o _ _ _⟩
    ·have g0:aX s b≠36:=λe=>c3 ((fM s b v 36 (by omega)).1 e)
     have b3:=aEd d7 b5 c3;have d9:=aOm s b v;have X:=aA (aHm (aX s b) w2 (aD5 s b));rw [d9] at X;have b7:=aAf s b v;cases hm:nV (aE s b)
     ·rw [hm] at X b3;have F:aG (∀d,w.grownBy d (some pb)->(∃j m c,bQ B d pb s b g j m c k a wd vC vP vM)->rT B pb s p G g k a wd vC vP vM w (.returned (gF (-2) b ⟨#[]⟩)) d):=aA λd l u=>⟨l,by rw [V.o,b3];exact ⟨rfl,u⟩⟩
      clear b0 a9 b3 d9 hm;generalize aX s b=cc at *;have i6:(cc==39)=false:=by simpa using e0
      have i5:(cc==36)=false:=by simpa using g0
      have j3:(cc==-1)=false:=by simpa using b7
      go_wp2_with (first
       |(go_at_call 83;refine (aB A _).mono ?_;rintro e P ⟨rfl,rfl⟩)
       |(go_at_call 85;refine (aB E _).mono ?_;rintro e P ⟨rfl,rfl⟩)
       |(go_at_call 88;refine (aB X).mono ?_;rintro e x ⟨rfl,y⟩;have b1:=aA y;have O:=(y.block f (by omega)).trans a3.o;have d2:=aA O;have W:=(y.block fb d5).trans c0.o;have g5:x.cell? ⟨fb,0,none⟩=some (.int .i32 (cc)):=(by unfold zz;rw [W];rfl);have g6:x.cell? ⟨fb,1,none⟩=some (.int .i64 b):=(by unfold zz;rw [W];rfl);have a2:=N.o.below y;have h3:=a2.box.c0;have h4:=a2.box.soft 0;have c1:=aA a2;clear y O W a2)
       |(go_at_call 89;refine (wM c1.o).mono ?_;rintro e q ⟨rfl,c6⟩;unfold gF;have j1:=b1.o.size;have n:=(c6.block f (by omega)).trans d2.o;have Z:=aA (c1.o.below c6);have Y:=aA ((nI b1.o (some pb)).trans (nI c6 (some pb)));have a0:=aA n;have H:q.cell? ⟨f,0,none⟩=some (.int .i32 0):=(by simp [zz,n]);have I:q.cell? ⟨f,1,none⟩=some (.int .i64 0):=(by simp [zz,n]);have J:q.cell? ⟨f,2,none⟩=some (.string ⟨#[]⟩):=(by simp [zz,n]);have L:=λM=>jJ (v:=M) H;have b4:∀i,q.frozen? ⟨f,i,none⟩=false:=(λi=>by simp [zx,n]);clear c6 n)
       |go_in)
      refine bodyPost_ret (by simp [results,zv,go_sem,L,I,J];try rfl) rfl ?_;exact F.o _ (jA (jA (jA (a8.o.trans Y.o) t _) t _) t _) ⟨_,_,_,Z.o.setTok3 a0.o _ _ _⟩
     ·rw [hm] at X b3;have h6:aE s b<128:=by unfold nV at hm;simp at hm;omega
      obtain ⟨f6,i0⟩:=mM s b v h6;have f7:eF (aE s b)=aX s b:=by
       rw [f6];have g1:aE s b=124\/aE s b=126\/aE s b=40\/aE s b=41\/aE s b=44\/aE s b=46:=by unfold nV at hm;simp at hm;omega
       generalize aE s b=bb at g1 ⊢;rcases g1 with rfl|rfl|rfl|rfl|rfl|rfl<;>rfl
      have F:aG (∀d,w.grownBy d (some pb)->(∃j m c,bQ B d pb s (b+1) g j m c k a wd vC vP vM)->rT B pb s p G g k a wd vC vP vM w (.returned (gF (aX s b) b ⟨#[]⟩)) d):=aA λd l u=>⟨l,by rw [V.o,b3];exact ⟨by rw [<-f7],u⟩⟩
      obtain ⟨i2,g9,rfl,rfl⟩:=N.o.more v;clear b0 a9 b3 d9 hm f6 f7;generalize aX s b=cc at *;have i6:(cc==39)=false:=by simpa using e0
      have i5:(cc==36)=false:=by simpa using g0
      go_wp2_with (first
       |(go_at_call 83;refine (aB A _).mono ?_;rintro e P ⟨rfl,rfl⟩)
       |(go_at_call 85;refine (aB E _).mono ?_;rintro e P ⟨rfl,rfl⟩)
       |(go_at_call 88;refine (aB X).mono ?_;rintro e x ⟨rfl,y⟩;have b1:=aA y;have O:=(y.block f (by omega)).trans a3.o;have W:=(y.block fb d5).trans c0.o;have a2:=N.o.below y;have h3:=a2.box.c0;have h4:=a2.box.soft 0;have g8:=aA (a2.step v);have a4:∀o,(x.setCell ⟨pb,0,none⟩ o).heap[f]?=some (.cells #[.int .i32 0,.int .i64 0,.string ⟨#[]⟩] 63)/\(x.setCell ⟨pb,0,none⟩ o).heap[fb]?=some (.cells #[.int .i32 cc,.int .i64 b] 149):=(λo=>⟨by rw [Below.heap_setCell _ _ _ _ (show f≠pb by omega)];exact O,by rw [Below.heap_setCell _ _ _ _ (show fb≠pb by omega)];exact W⟩);have g5:∀o,(x.setCell ⟨pb,0,none⟩ o).cell? ⟨fb,0,none⟩=some (.int .i32 cc):=(λo=>by unfold zz;rw [(a4 o).2];rfl);have g6:∀o,(x.setCell ⟨pb,0,none⟩ o).cell? ⟨fb,1,none⟩=some (.int .i64 b):=(λo=>by unfold zz;rw [(a4 o).2];rfl);have H:∀o,(x.setCell ⟨pb,0,none⟩ o).cell? ⟨f,0,none⟩=some (.int .i32 0):=(λo=>by unfold zz;rw [(a4 o).1];rfl);have I:∀o,(x.setCell ⟨pb,0,none⟩ o).cell? ⟨f,1,none⟩=some (.int .i64 0):=(λo=>by unfold zz;rw [(a4 o).1];rfl);have J:∀o,(x.setCell ⟨pb,0,none⟩ o).cell? ⟨f,2,none⟩=some (.string ⟨#[]⟩):=(λo=>by unfold zz;rw [(a4 o).1];rfl);have b4:∀o i,(x.setCell ⟨pb,0,none⟩ o).frozen? ⟨f,i,none⟩=false:=(λo i=>by simp [zx,(a4 o).1]);have L:=λo M=>jJ (v:=M) (H o);have g7:=aA a4;clear y O W a2 a4)
       |go_in)
      refine bodyPost_ret (by simp [results,zv,go_sem,L,I,J];try rfl) rfl ?_;have h5:=rB (j:=0) (a8.o.trans (nI b1.o (some pb))) (.slice (some ⟨g,i1*2+2,none⟩) (i2+1) (g9+1));have f3:=g8.o;rw [i0] at f3;exact F.o _ (jA (jA (jA h5 t _) t _) t _) ⟨_,_,_,f3.setTok3 (g7.o _).1 _ _ _⟩
 ·have g3:b=s.size:=by omega
  have d6:=oR s b v;have X:=aA (aHm (aX s b) w2 (aD5 s b));rw [d6] at X A E d3;rw [show rV (-1)=false by decide] at X;rw [show eB (-1)=false by decide] at A;rw [show dS (-1)=false by decide] at E;rw [d6] at c0;have F:aG (∀d,w.grownBy d (some pb)->(∃j m c,bQ B d pb s b g j m c k a wd vC vP vM)->rT B pb s p G g k a wd vC vP vM w (.returned (gF (-1) b ⟨#[]⟩)) d):=aA λd l u=>⟨l,by rw [e9.o,aI v,<-g3];exact ⟨rfl,u⟩⟩
  clear d6 g3;go_wp2_with (first
   |(go_at_call 83;refine (aB A _).mono ?_;rintro e P ⟨rfl,rfl⟩)
   |(go_at_call 85;refine (aB E _).mono ?_;rintro e P ⟨rfl,rfl⟩)
   |(go_at_call 88;refine (aB X).mono ?_;rintro e x ⟨rfl,y⟩;have b1:=aA y;have O:=(y.block f (by omega)).trans a3.o;have W:=(y.block fb d5).trans c0.o;have d2:=aA O;have c1:=aA (N.o.below y);have g5:x.cell? ⟨fb,0,none⟩=some (.int .i32 (-1)):=(by unfold zz;rw [W];rfl);have g6:x.cell? ⟨fb,1,none⟩=some (.int .i64 b):=(by unfold zz;rw [W];rfl);have H:x.cell? ⟨f,0,none⟩=some (.int .i32 0):=(by simp [zz,O]);have I:x.cell? ⟨f,1,none⟩=some (.int .i64 0):=(by simp [zz,O]);have J:x.cell? ⟨f,2,none⟩=some (.string ⟨#[]⟩):=(by simp [zz,O]);have L:=λM=>jJ (v:=M) H;have b4:∀i,x.frozen? ⟨f,i,none⟩=false:=(λi=>by simp [zx,O]);clear y O W)
   |go_in)
  refine bodyPost_ret (by simp [results,zv,go_sem,L,I,J];try rfl) rfl ?_;exact F.o _ (jA (jA (jA (a8.o.trans (nI b1.o (some pb))) t _) t _) t _) ⟨_,_,_,c1.o.setTok3 d2.o _ _ _⟩
end
theorem aOn(a:eZ s k=.bad p):p=k:=by
 unfold eZ at a;repeat' split at a
 all_goals first|(cases a;done)|(simp only [Nx.bad.injEq] at a;exact a.symm)
theorem aOo:eZ s k≠.stop p:=by
 intro a;unfold eZ at a;repeat' split at a
 all_goals cases a
theorem aGq{b:Nat}{f:Tk}(d:k<s.size)(a:eZ s k=.tok f b):k<b/\b<=s.size:=by
 unfold eZ at a;split at a
 ·rename_i c;split at a
  ·cases a
  ·simp only [Nx.tok.injEq] at a;rw [<-a.2];exact ⟨aJr d c,aJo (by omega)⟩
 ·split at a
  ·split at a
   ·rename_i j g e;simp only [Nx.tok.injEq] at a;rw [<-a.2];have:=aJq e;omega
   ·cases a
  ·split at a
   ·split at a
    ·rename_i i;simp only [Nx.tok.injEq] at a;rw [<-a.2];omega
    ·cases a
   ·split at a
    ·simp only [Nx.tok.injEq] at a;rw [<-a.2];omega
    ·cases a
theorem aOp(s:ByteArray):∀g a b q,s.size+1-q<=g->q<=s.size->s.size<q+a->s.size<q+b->cW s a q=cW s b q:=by
 intro g;induction g with
 |zero=>intro a b q n m;omega
 |succ g ih=>
  intro a b q n m r u;obtain ⟨i,rfl⟩ : ∃i,a=i+1:=⟨a-1,by omega⟩;obtain ⟨j,rfl⟩ : ∃j,b=j+1:=⟨b-1,by omega⟩;rw [cW,cW];by_cases c:q<s.size
  ·rw [aJ c,aJ c];by_cases f:jO (aE s q)=true
   ·rw [aJ f,aJ f];exact ih _ _ _ (by omega) (by omega) (by omega) (by omega)
   ·rw [aI f,aI f];by_cases d:aE s q=37
    ·rw [aJ d,aJ d];have o:=yW c d;have l:=aBc (s:=s) (p:=q) m;exact ih _ _ _ (by omega) l (by omega) (by omega)
    ·rw [aI d,aI d];cases ht:eZ s q with
     |tok t e=>
      obtain ⟨o,l⟩:=aGq c ht;simp only;rw [ih i j e (by omega) l (by omega) (by omega)]
     |bad p=>rfl
     |stop p=>rfl
  ·rw [aI c,aI c]
def eY(s:ByteArray)(q:Nat):List Tk:=eP (cW s (s.size+1-q) q)
theorem aA7{q a:Nat}(c:q<=s.size)(b:s.size<q+a):eP (cW s a q)=eY s q:=by unfold eY;rw [aOp s _ a (s.size+1-q) q (zy _) c b (by omega)]
theorem aOq(s:ByteArray):∀i a q,s.size+1-q<=i->q<=s.size->s.size<q+a->
  match sJ s a q with
  | .tok t e=>eY s q=t::eY s e/\e<=s.size/\t.kind≠101/\t.kind≠63
  | .bad p=>eY s q=[⟨63,⟨#[]⟩,p⟩]/\p<=s.size
  | .stop p=>eY s q=[⟨101,⟨#[]⟩,p⟩]/\p<=s.size:=by
 intro i;induction i with
 |zero=>intro a q l f;omega
 |succ i ih=>
  intro a q l f n;obtain ⟨j,rfl⟩ : ∃j,a=j+1:=⟨a-1,by omega⟩;rw [sJ,<-aA7 f n,cW];by_cases b:q<s.size
  ·rw [aJ b,aJ b];by_cases g:jO (aE s q)=true
   ·rw [aJ g,aJ g,aA7 (q:=q+1) (by omega) (by omega)];exact ih _ _ (by omega) (by omega) (by omega)
   ·rw [aI g,aI g];by_cases d:aE s q=37
    ·rw [aJ d,aJ d];have m:=yW b d;have c:=aBc (s:=s) (p:=q) f;rw [aA7 c (by omega)];exact ih _ _ (by omega) c (by omega)
    ·rw [aI d,aI d];cases ht:eZ s q with
     |tok t e=>
      obtain ⟨m,c⟩:=aGq b ht;simp only;refine ⟨?_,c,aJi ht⟩;rw [<-aA7 c (show s.size<e+j by omega)];rfl
     |bad p=>
      have o:p=q:=aOn ht;subst o;exact ⟨rfl,f⟩
     |stop p=>exact absurd ht aOo
  ·rw [aI b,aI b];exact ⟨rfl,f⟩
def iO:List Nat:=[110,118,102,101,63,124,126,40,41,44,46]
theorem aCw:∀a∈iO,∀b∈iO,eF a=eF b->a=b:=by decide
theorem aOr{e:Nat}{d:Tk}(a:eZ s k=.tok d e):d.kind∈iO:=by
 unfold eZ at a;split at a
 ·split at a
  ·cases a
  ·simp only [Nx.tok.injEq] at a;rw [<-a.1];simp only;split<;>decide
 ·split at a
  ·split at a
   ·simp only [Nx.tok.injEq] at a;rw [<-a.1];show (110:Nat)∈iO;decide
   ·cases a
  ·split at a
   ·split at a
    ·simp only [Nx.tok.injEq] at a;rw [<-a.1];show (102:Nat)∈iO;decide
    ·cases a
   ·split at a
    ·rename_i c;simp only [Nx.tok.injEq] at a;rw [<-a.1];simp only;generalize aE s k=b at c ⊢;have f:b=124\/b=126\/b=40\/b=41\/b=44\/b=46:=by unfold nV at c;simp at c;omega
     rcases f with rfl|rfl|rfl|rfl|rfl|rfl<;>decide
    ·cases a
theorem aOs(s:ByteArray):∀a k,∀c∈(cW s a k).1,c.kind∈iO:=by
 intro a;induction a with
 |zero=>intro k;simp [cW]
 |succ a ih=>
  intro k;rw [cW];split
  ·split
   ·exact ih _
   ·split
    ·exact ih _
    ·split
     ·rename_i c e b;intro d hu;rcases List.mem_cons.1 hu with rfl|hu
      ·exact aOr b
      ·exact ih _ d hu
     ·simp
  ·intro c b;simp at b;rw [b];show (101:Nat)∈iO;decide
theorem aOt{b:List Tk×Option Nat}(d:∀a∈b.1,a.kind∈iO):∀a∈eP b,a.kind∈iO:=by
 obtain ⟨e,c⟩:=b;intro a ht;unfold eP at ht;rcases List.mem_append.1 ht with ht|ht
 ·exact d a ht
 ·cases c with
  |none=>simp at ht
  |some p=>
   simp at ht;rw [ht];show (63:Nat)∈iO;decide
theorem aOu(s:ByteArray)(b a:Nat):(aH (eY s b) a).kind∈iO:=by
 unfold aH;by_cases c:a<(eY s b).length
 ·rw [zu,zs c,Option.getD_some];exact aOt (aOs s _ _) _ (List.getElem_mem _)
 ·rw [zu,List.getElem?_eq_none (by omega)];decide
theorem aOv{b e:List Tk}{c:Nat}{f:Tk}(a:b.drop c=f::e):c<b.length/\aH b c=f/\b.drop (c+1)=e:=by
 have d:c<b.length:=Classical.byContradiction λg=>by rw [List.drop_of_length_le (by omega)] at a;cases a
 rw [List.drop_eq_getElem_cons d] at a;simp only [List.cons.injEq] at a;exact ⟨d,by unfold aH;rw [zu,zs d];exact a.1,a.2⟩
section
variable {w:World}{pb:Nat}{left:Value}{k a:Int}{wd:ByteArray}{vC vP vM:Value}
theorem bV.setTok(e:bV w pb left k a wd vC vP vM)(b c:Int)(d:ByteArray):bV (((w.setCell ⟨pb,1,none⟩ (.int .i32 b)).setCell ⟨pb,2,none⟩ (.int .i64 c)).setCell ⟨pb,3,none⟩ (.string d)) pb left b c d vC vP vM:=by have f:bV (w.setCell ⟨pb,1,none⟩ (.int .i32 b)) pb left b a wd vC vP vM:=heap_setCell_same w pb 1 _ _ _ e;have g:bV ((w.setCell ⟨pb,1,none⟩ (.int .i32 b)).setCell ⟨pb,2,none⟩ (.int .i64 c)) pb left b c wd vC vP vM:=heap_setCell_same _ pb 2 _ _ _ f;exact heap_setCell_same _ pb 3 _ _ _ g
theorem bV.rows(g:bV w pb left k a wd vC vP vM)(b c:Int)(r:ByteArray){f:Nat}{d:TypeId}{l:Nat}{m:Value}{j:Nat}{n:List Value}(q:w.ownsRow f d l m j n)(e:d≠70):(((w.setCell ⟨pb,1,none⟩ (.int .i32 b)).setCell ⟨pb,2,none⟩ (.int .i64 c)).setCell ⟨pb,3,none⟩ (.string r)).ownsRow f d l m j n:=by have i:bV (w.setCell ⟨pb,1,none⟩ (.int .i32 b)) pb left b a wd vC vP vM:=heap_setCell_same w pb 1 _ _ _ g;have o:bV ((w.setCell ⟨pb,1,none⟩ (.int .i32 b)).setCell ⟨pb,2,none⟩ (.int .i64 c)) pb left b c wd vC vP vM:=heap_setCell_same _ pb 2 _ _ _ i;exact o.row (i.row (g.row q e 1 _) e 2 _) e 3 _
end
structure PP(B:Nat)(w:World)(pb:Nat)(s:ByteArray)(T:List Tk)(i g q j m c:Nat)(vC vP vM:Value):Prop where
 sc:bQ B w pb s q g j m c (eF (aH T i).kind) (aH T i).pos (aH T i).txt vC vP vM
 lt:i<T.length
 on:(aH T i).kind≠101->(aH T i).kind≠63->eY s q=T.drop (i+1)
def eD(a:Nat)(w:World)(i:Nat)(s:ByteArray)(b:List Tk)(e d:Nat)(l n m:Value):Prop:=∃j f g c,PP a w i s b e d j f g c l n m
theorem aGr{n:Nat}{e:World}{a:Nat}{T:List Tk}{i t g:Nat}{k o:Int}{v:ByteArray}{j m l:Value}{q:Ending}{r:Nat}(N:g<=s.size)(I:s.size<g+r)(A:eY s g=T.drop i)(b:rT n a s g r t k o v j m l w q e):q=.returned (.agg #[.int .i32 (eF (aH T i).kind),.int .i64 (aH T i).pos,.string (aH T i).txt])/\w.grownBy e (some a)/\(∃left,bV e a left k o v j m l)/\
  eD n (((e.setCell ⟨a,1,none⟩ (.int .i32 (eF (aH T i).kind))).setCell ⟨a,2,none⟩ (.int .i64 (aH T i).pos)).setCell ⟨a,3,none⟩ (.string (aH T i).txt)) a s T i t j m l:=by
 obtain ⟨J,b⟩:=b;have f:=aOq s _ r g (zy _) N I;have y:∀(d:Tk) (u:Nat) (E:List Tk),T.drop i=d::E->(d.kind≠101->d.kind≠63->eY s u=E)->q=.returned (gF (eF d.kind) d.pos d.txt)->(∃C D x,bQ n e a s u t C D x k o v j m l)->q=.returned (.agg #[.int .i32 (eF (aH T i).kind),.int .i64 (aH T i).pos,.string (aH T i).txt])/\w.grownBy e (some a)/\(∃left,bV e a left k o v j m l)/\eD n (((e.setCell ⟨a,1,none⟩ (.int .i32 (eF (aH T i).kind))).setCell ⟨a,2,none⟩ (.int .i64 (aH T i).pos)).setCell ⟨a,3,none⟩ (.string (aH T i).txt)) a s T i t j m l:=by
  intro d u E F M H c;obtain ⟨L,B,G⟩:=aOv F;obtain ⟨C,D,x,c⟩:=c;rw [B];refine ⟨H,J,⟨_,c.box⟩,u,C,D,x,⟨?_,L,?_⟩⟩
  ·rw [B];exact ⟨c.box.setTok _ _ _,c.high,c.box.rows _ _ _ c.row (by decide),c.len,c.drop,c.le⟩
  ·rw [B,G];exact M
 cases hx:sJ s r g with
 |tok d e'=>
  rw [hx] at b f;obtain ⟨O,_,_,_⟩:=f;exact y d e' _ (by rw [<-A,O]) (λ_ _=>rfl) b.1 b.2
 |bad p=>
  rw [hx] at b f;exact y ⟨63,⟨#[]⟩,p⟩ p [] (by rw [<-A,f.1]) (λ_ z=>absurd rfl z) b.1 b.2
 |stop p=>
  rw [hx] at b f;exact y ⟨101,⟨#[]⟩,p⟩ p [] (by rw [<-A,f.1]) (λz _=>absurd rfl z) b.1 b.2
theorem mL{l:Nat}{j:Nat}{d:List Tk}{a m:Nat}{q u r:Value}(c:Nat)(G:c∈iO)(D:c≠101)(E:c≠63)(F:∀a,(aH d a).kind∈iO)(I:s.size<=3000)(C:eD l w j s d a m q u r):Calls zt 90 #[.pointer (some ⟨j,0,none⟩),.int .i32 (eF c)] w λf v=>f=.returned (.bool (decide ((aH d a).kind=c)))/\w.grownBy v (some j)/\eD l v j s d (if (aH d a).kind=c then a+1 else a) m q u r:=by
 obtain ⟨M,J,L,A,e⟩:=C;have B:=e.sc.box.c1;by_cases b:(aH d a).kind=c
 ·rw [aJ b,eI b];have i:=aA ((aGp (s.size+1) e.sc I (by omega)).mono λf N H=>aGr e.sc.le (by omega) (e.on (by rw [b];exact D) (by rw [b];exact E)) H);rw [b] at B i;clear b e;generalize eF c=K at *;generalize aH d (a+1)=t at i;obtain ⟨T,V,U⟩:=t;simp only at i;go_enter Tryz.func90,Tryz.ntmps90;go_wp2_with (first
   |(go_at_call 50;refine (aB i).mono ?_;rintro f N ⟨rfl,o,⟨left,g⟩,n⟩;have O:=g.c1;have P:=g.c2;have Q:=g.c3;have R:=g.soft;have x:=aA o;have z:=aA n;clear o n g)
   |go_in)
  go_ret;exact ⟨rfl,rB (rB (rB x.o _) _) _,z.o⟩
 ·rw [aI b,dE b];have S:(eF (aH d a).kind != eF c)=true:=by simp;exact λf=>b (aCw _ (F a) _ G f)
  have y:=aA e;clear e;go_enter Tryz.func90,Tryz.ntmps90;go_wp2;go_ret;exact ⟨rfl,World.grownBy.refl _ _,M,J,L,A,y.o⟩
