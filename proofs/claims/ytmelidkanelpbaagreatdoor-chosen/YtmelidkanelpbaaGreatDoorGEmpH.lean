import Derived.Test.YtmelidkanelpbaaGreatDoorGWordH
open Bool renaming and_eq_false_iff→zx
open Nat renaming le_refl→zv
namespace Go.Proofs.YtmelidkanelpbaaGreatDoor
open _root_.Go.Proofs.Tryz renaming results39→zw,prog→zu
open World renaming cell?→zz,frozen?→zy
open Go.RowKit
set_option maxHeartbeats 3000000
set_option maxRecDepth 100000
abbrev fB:ByteArray:=⟨#[36,102,97,108,115,101]⟩
def uF(b:ByteArray)(a:Nat):Prop:=a+6<=b.size/\b.extract a (a+6)=fB
theorem aA6:∀a,a<6->aF fB a<128:=by
 have:∀a:Fin 6,aF fB a.1<128:=by decide
 exact λa b=>this ⟨a,b⟩
theorem aHe{c:ByteArray}{b:Nat}:uF c b↔b+6<=c.size/\∀a,a<6->aF c (b+a)=aF fB a:=by
 unfold uF;constructor
 ·rintro ⟨d,e⟩;refine ⟨d,λa m=>?_⟩;have:aF (c.extract b (b+6)) a=aF fB a:=by rw [e]
  rw [<-this,nF (c.extract b (b+6)) a (by rw [ByteArray.size_extract];omega),nF c (b+a) (by omega),ByteArray.getElem_extract]
 ·rintro ⟨d,e⟩;refine ⟨d,?_⟩;apply ByteArray.ext;apply Array.ext
  ·have:(c.extract b (b+6)).size=6:=by rw [ByteArray.size_extract];omega
   exact this
  ·intro a k l;have g:a<6:=l;have f:=e a g;rw [nF c (b+a) (by omega),nF fB a g] at f;have i:(c.extract b (b+6))[a]'k=c[b+a]'(by omega):=ByteArray.getElem_extract ..;have j:=UInt8.toNat_inj.1 f;exact i.trans j
def aQw(e c:Nat)(b:ByteArray)(a i q s o:Nat)(j f:Int)(n:ByteArray)(k m l:Value)(u:World)(g:Ending)(d:World):Prop:=
 u.grownBy d (some c)/\((uF b a/\g=.returned (fP 36 a ⟨#[]⟩)/\∃r t p,bO e d c b (a+6) i r t p j f n k m l)\/(¬uF b a/\g=.returned (fP (-2) a ⟨#[]⟩)/\bO e d c b a i q s o j f n k m l))
section
variable {B:Nat}{pb:Nat}{s:ByteArray}{p g j m c:Nat}{k a:Int}{wd:ByteArray}{vC vP vM:Value}
theorem aHf{f:World}(w:bO B f pb s p g j m c k a wd vC vP vM):Calls zu 62 #[.pointer (some ⟨pb,0,none⟩)] f λN e3=>aQw B pb s p g j m c k a wd vC vP vM f N e3:=by
 have M:=w.box.c0;have a5:=w.at0.2;have c1:∀i,(f.alloc i).cell? ⟨pb,0,none⟩=some (.slice (some ⟨g,j*2,none⟩) (m+1) (c+1)):=λi=>aC ((Below.refl _ f).alloc (zv _) i) M
 have c2:∀i,(f.alloc i).cell? ⟨g,j*2+1,none⟩=some (.int .i64 p):=λi=>aC ((Below.refl _ f).alloc (zv _) i) a5
 have Y:aM (∀i n,aB f ((f.alloc i).alloc n)):=aA λi n=>((Below.refl _ _).alloc (zv _) i).alloc (by simp) n
 have a3:aM (∀i n,((f.alloc i).alloc n).heap[f.heap.size]?=some i/\((f.alloc i).alloc n).heap[f.heap.size+1]?=some n/\((f.alloc i).alloc n).heap.size=f.heap.size+2):=aA λi n=>⟨by show ((f.heap.push _).push _)[f.heap.size]?=_;simp [Array.getElem?_push],by
  show ((f.heap.push i).push n)[f.heap.size+1]?=_;have w:((f.heap.push i).push n)[(f.heap.push i).size]?=some n:=by rw [Array.getElem?_push];exact aH rfl
  rwa [Array.size_push] at w,by simp⟩
 have C:=aA w;have d5:=w.box.lt;clear w M a5;go_enter Tryz.func62,Tryz.ntmps62;go_wp2;have S:=Y.o (.cells #[.int .i32 0,.int .i64 0,.string ⟨#[]⟩] 58) (.cells #[.int .i32 36,.int .i64 p,.string ⟨#[]⟩] 58);have Q:=aA (C.o.below S);obtain ⟨a9,b0,b1⟩:=a3.o (.cells #[.int .i32 0,.int .i64 0,.string ⟨#[]⟩] 58) (.cells #[.int .i32 36,.int .i64 p,.string ⟨#[]⟩] 58);have Z:=aA S;have R:=aA a9;have a4:=aA b0;clear S a9 b0 Y a3 c1 c2;generalize (f.alloc (.cells #[.int .i32 0,.int .i64 0,.string ⟨#[]⟩] 58)).alloc (.cells #[.int .i32 36,.int .i64 p,.string ⟨#[]⟩] 58)=w2 at *;obtain ⟨d,P⟩ : ∃d,f.heap.size=d:=⟨_,rfl⟩;rw [P] at b1 R a4 d5;simp only [P];have a1:=aA P;clear P;go_loopg [] 6 (λd8 wr=>∃b:Nat,d8+b=6/\wr.heap[d+2]?=some (.stringIter fB b)/\aB w2 wr/\p+b<=s.size/\∀l,l<b->aF s (p+l)=aF fB l);case atStart=>
  refine ⟨0,rfl,?_,(Below.refl _ w2).alloc (zv _) _,C.o.le,λl W=>by omega⟩;have:=World.iter_heap w2 fB 0;rw [b1] at this;simpa using this
 case round=>
  obtain ⟨b,f7,x,u,O,D⟩:=hrel;have e8:=aA x;have b2:=aA D;have a2:=aA u;have d2:∀l,l<b->aF s (p+l)<128:=λl W=>by rw [D l W];exact aA6 l (by omega)
  obtain ⟨E,d1⟩:=Q.o.letters b O d2;have b4:=aA E;by_cases I:b<6
  ·have y:b<fB.size:=I;have c8:(fB[b]'y).toNat<128:=by have:=aA6 b I;rw [nF fB b y] at this;exact this
   have a8:∀A,(Instr.next (.pointer (some ⟨d+2,0,none⟩)) true A).run zu wr=_:=λA=>Lib.run_next_ascii_at wr (d+2) fB b A x y c8
   have b5:=aA (Lib.iterAt_heap wr (d+2) fB b (b+1) x);have H:=Lib.below_iterAt u (k:=d+2) (by omega) fB (b+1);have r:=Q.o.below H;have c0:=(r.cells b (p+b) E O d1).1;have M:=r.box.c0;have b7:=aA r;have a0:=aA H;have b8:aM ((wr.iterAt (d+2) fB (b+1)).heap[d]?=some (.cells #[.int .i32 0,.int .i64 0,.string ⟨#[]⟩] 58)):=aA ((H.block d (by omega)).trans R.o);have U:(fB[b]'y).toNat=aF fB b:=(nF fB b y).symm;have f3:(b:Int)<(m:Int)+1:=by omega
   have f2:(0:Int)<=(b:Int):=by omega
   by_cases F:aT s (p+b)=(aF fB b:Int)
   ·have d3:p+b<s.size:=Classical.byContradiction λd4=>by rw [oJ s _ d4] at F;omega
    have c7:=(eX s (p+b) d3 (aF fB b) (aA6 b I)).1 F;rw [F,<-U] at c0;clear x D u E r H;go_wp2;go_roundg (6-(b+1));case measure=>omega
    case rel=>exact ⟨b+1,by omega,b5.o,a0.o,by omega,λl W=>by
     by_cases N:l=b
     ·subst N;exact c7
     ·exact b2.o l (by omega)⟩
   ·have b6:aM (¬uF s p):=aA λc4=>by
     obtain ⟨f0,c3⟩:=aHe.1 c4;exact F ((eX s (p+b) (by omega) (aF fB b) (aA6 b I)).2 (c3 b I))
    have X:=aA (vU b7.o);unfold fP at X;rw [U] at a8;generalize aT s (p+b)=cc at *;have f6:(cc != (aF fB b:Int))=true:=by simpa using F
    clear x D u E r H U;go_wp2_with (first
     |(go_at_call 64;refine (aD X).mono ?_;rintro N L ⟨rfl,T⟩;have J:=(T.block d (by have:=a2.o.size;simp only [Lib.iterAt_size];omega)).trans b8.o;have b3:=aA T;have d9:L.cell? ⟨d,0,none⟩=some (.int .i32 0):=(by simp [zz,J]);have e0:L.cell? ⟨d,1,none⟩=some (.int .i64 0):=(by simp [zz,J]);have e1:L.cell? ⟨d,2,none⟩=some (.string ⟨#[]⟩):=(by simp [zz,J]);have e2:=jB (v:=.int .i32 (-2)) d9;have f8:∀b,L.frozen? ⟨d,b,none⟩=false:=(λb=>by simp [zy,J]);clear T J)
     |go_in)
    refine bodyPost_ret (by simp [results,Tryz.results62,go_sem,e2,e0,e1];try rfl) rfl ?_;have V:aB f (wr.iterAt (d+2) fB (b+1)):=bK Z.o a0.o;have c9:aB f L:=bK V b3.o;have z:f.heap.size<=d:=by rw [a1.o];exact zv _
    have G:=fE (fE (fE c9 (p:=⟨d,0,none⟩) z (.int .i32 (-2))) (p:=⟨d,1,none⟩) z (.int .i64 p)) (p:=⟨d,2,none⟩) z (.string ⟨#[]⟩);exact ⟨nM G _,Or.inr ⟨b6.o,rfl,C.o.below G⟩⟩
  ·obtain rfl:b=6:=by omega
   have y:¬6<fB.size:=by decide
   have a8:∀A,(Instr.next (.pointer (some ⟨d+2,0,none⟩)) true A).run zu wr=_:=λA=>Lib.run_next_end_at wr (d+2) fB 6 A x y
   have b9:aM (uF s p):=aA (aHe.2 ⟨O,D⟩);have r:=Q.o.below u;have M:=r.box.c0;have e9:=r.box.soft 0;have a7:=(u.block d (by omega)).trans R.o;have a6:=(u.block (d+1) (by omega)).trans a4.o;obtain ⟨o,rfl⟩ : ∃o,m=o+6:=⟨m-6,by omega⟩;obtain ⟨q,rfl⟩ : ∃q,c=q+6:=⟨c-6,by have:=C.o.mc;omega⟩;have d6:pb≠d:=by omega
   have d7:pb≠d+1:=by omega
   have t:∀e,(wr.setCell ⟨pb,0,none⟩ e).heap[d]?=some (.cells #[.int .i32 0,.int .i64 0,.string ⟨#[]⟩] 58)/\(wr.setCell ⟨pb,0,none⟩ e).heap[d+1]?=some (.cells #[.int .i32 36,.int .i64 p,.string ⟨#[]⟩] 58):=λe=>⟨by rw [Below.heap_setCell _ _ _ _ d6.symm];exact a7,by rw [Below.heap_setCell _ _ _ _ d7.symm];exact a6⟩
   have e4:∀e,(wr.setCell ⟨pb,0,none⟩ e).cell? ⟨d,0,none⟩=some (.int .i32 0):=λe=>by simp [zz,(t e).1]
   have e5:∀e,(wr.setCell ⟨pb,0,none⟩ e).cell? ⟨d,1,none⟩=some (.int .i64 0):=λe=>by simp [zz,(t e).1]
   have e6:∀e,(wr.setCell ⟨pb,0,none⟩ e).cell? ⟨d,2,none⟩=some (.string ⟨#[]⟩):=λe=>by simp [zz,(t e).1]
   have f9:∀e b,(wr.setCell ⟨pb,0,none⟩ e).frozen? ⟨d,b,none⟩=false:=λe b=>by simp [zy,(t e).1]
   have g0:∀e,(wr.setCell ⟨pb,0,none⟩ e).cell? ⟨d+1,0,none⟩=some (.int .i32 36):=λe=>by simp [zz,(t e).2]
   have g1:∀e,(wr.setCell ⟨pb,0,none⟩ e).cell? ⟨d+1,1,none⟩=some (.int .i64 p):=λe=>by simp [zz,(t e).2]
   have g2:∀e,(wr.setCell ⟨pb,0,none⟩ e).cell? ⟨d+1,2,none⟩=some (.string ⟨#[]⟩):=λe=>by simp [zz,(t e).2]
   have e7:=λe=>jB (v:=.int .i32 36) (e4 e)
   have f5:o+6+1-6=o+1:=by omega
   have f1:q+6+1-6=q+1:=by omega
   have f4:(6:Int)<=(o:Int)+6+1:=by omega
   clear t x D u E r a7 a6;go_wp2;refine bodyPost_ret (by simp [results,Tryz.results62,go_sem,e7,e5,e6];try rfl) rfl ?_;have c5:=bO.jump 6 (p+6) o q C.o b4.o O;have V:aB f wr:=bK Z.o a2.o;have c6:Below (f.setCell ⟨pb,0,none⟩ (.slice (some ⟨g,j*2+6*2,none⟩) (o+1) (q+1))).heap.size (f.setCell ⟨pb,0,none⟩ (.slice (some ⟨g,j*2+6*2,none⟩) (o+1) (q+1))) (wr.setCell ⟨pb,0,none⟩ (.slice (some ⟨g,j*2+6*2,none⟩) (o+1) (q+1))):=aCw V (C.o.box.lt) _;have z:(f.setCell ⟨pb,0,none⟩ (.slice (some ⟨g,j*2+6*2,none⟩) (o+1) (q+1))).heap.size<=d:=by rw [<-a1.o];simp [World.setCell]
   have G:=fE (fE (fE c6 (p:=⟨d,0,none⟩) z (.int .i32 36)) (p:=⟨d,1,none⟩) z (.int .i64 p)) (p:=⟨d,2,none⟩) z (.string ⟨#[]⟩);have d0:f.grownBy (f.setCell ⟨pb,0,none⟩ (.slice (some ⟨g,j*2+6*2,none⟩) (o+1) (q+1))) (some pb):=cN _ _ _;exact ⟨d0.trans (nM G _),Or.inl ⟨b9.o,rfl,_,_,_,c5.below G⟩⟩
end
def dN(a:Nat):Int:=if a=110 then 97 else if a=118 then 65 else if a=102 then 36 else if a=101 then -1 else if a=63 then -2 else a
theorem aQx(b:ByteArray)(a:Nat)(c:a<b.size):eP (aT b a)=eP (aF b a):=by
 by_cases f:aF b a<128
 ·rw [(mJ b a c f).1]
 ·have d:eP (aF b a:Int)=false:=by simp only [eP,zx,decide_eq_false_iff_not];omega
  rw [d];rcases yA b a c (by omega) with e|e<;>(simp only [eP,zx,decide_eq_false_iff_not];omega)
theorem aQy(b:ByteArray)(a:Nat)(c:a<b.size):dR (aT b a)=dR (aF b a):=by
 by_cases f:aF b a<128
 ·rw [(mJ b a c f).1]
 ·have d:dR (aF b a:Int)=false:=by simp only [dR,zx,decide_eq_false_iff_not];omega
  rw [d];rcases yA b a c (by omega) with e|e<;>(simp only [dR,zx,decide_eq_false_iff_not];omega)
theorem aQz(b:ByteArray)(a:Nat)(e:a<b.size):rK (aT b a)=mV (aF b a):=by
 unfold rK mV;have c:∀d:Nat,d<128->(aT b a=(d:Int))=(aF b a=d):=λd f=>propext (eX b a e d f)
 have g:(aT b a=124)=(aF b a=124):=c 124 (by omega);have i:(aT b a=126)=(aF b a=126):=c 126 (by omega);have j:(aT b a=40)=(aF b a=40):=c 40 (by omega);have k:(aT b a=41)=(aF b a=41):=c 41 (by omega);have l:(aT b a=44)=(aF b a=44):=c 44 (by omega);have m:(aT b a=46)=(aF b a=46):=c 46 (by omega);simp only [g,i,j,k,l,m]
section
variable {B:Nat}{w W:World}{pb:Nat}{s:ByteArray}{p g j m c:Nat}{k a:Int}{wd:ByteArray}{vC vP vM:Value}
theorem bO.setTok{d:Nat}{l:Array Value}(b:bO B W pb s p g j m c k a wd vC vP vM)(n:W.heap[d]?=some (.cells l 58))(i:Nat)(e:Value):bO B (W.setCell ⟨d,i,none⟩ e) pb s p g j m c k a wd vC vP vM/\∃r,(W.setCell ⟨d,i,none⟩ e).heap[d]?=some (.cells r 58):=by
 have t:pb≠d:=by rintro rfl;have:=b.box;unfold bQ at this;rw [n] at this;simp at this
 refine ⟨⟨?_,b.high,?_,b.len,b.drop,b.le⟩,?_⟩
 ·unfold bQ;rw [Below.heap_setCell _ _ _ _ t];exact b.box
 ·refine ownsRow_setCell_other b.row ?_ e;intro o;obtain ⟨_,⟨f,_⟩|⟨x,u,v,f,_,q,_⟩⟩:=b.row
  ·simp at f
  ·simp at f;obtain ⟨rfl,_⟩:=f;simp [Value.ownBlock] at o;subst o;rw [n] at q;simp at q
 ·refine ⟨l.set! i e,?_⟩;have:=heap_setCell_same W d i l 58 e n;simpa using this
theorem bO.setTok3{b:Nat}{i:Array Value}(l:bO B W pb s p g j m c k a wd vC vP vM)(q:W.heap[b]?=some (.cells i 58))(d e f:Value):bO B (((W.setCell ⟨b,0,none⟩ d).setCell ⟨b,1,none⟩ e).setCell ⟨b,2,none⟩ f) pb s p g j m c k a wd vC vP vM:=by obtain ⟨n,u,r⟩:=l.setTok q 0 d;obtain ⟨o,v,t⟩:=n.setTok r 1 e;exact (o.setTok t 2 f).1
end
theorem iQ{b c:World}{d e j:Nat}(a:b.grownBy c (some d))(m:b.heap.size<=e)(l:Value):b.grownBy (c.setCell ⟨e,j,none⟩ l) (some d):=
 ⟨a.os,a.tape,a.output,by have:=a.size;simpa [World.setCell] using this,λk g i=>by rw [Below.heap_setCell _ _ _ _ (by intro f;simp at f;omega)];exact a.block k g i⟩
def rJ(g d:Nat)(e:ByteArray)(s r k:Nat)(l i:Int)(p:ByteArray)(m o n:Value)(u:World)(j:Ending)(f:World):Prop:=
 u.grownBy f (some d)/\
  match rW e r s with
  | .tok t q=>j=.returned (fP (dN t.kind) t.pos t.txt)/\∃b c a,bO g f d e q k b c a l i p m o n
  | .bad q=>j=.returned (fP (-2) q ⟨#[]⟩)/\∃b c a,bO g f d e q k b c a l i p m o n
  | .stop q=>j=.returned (fP (-1) q ⟨#[]⟩)/\∃b c a,bO g f d e q k b c a l i p m o n
theorem aCo{b:ByteArray}{a:Nat}(c:(eP (aF b a) || dR (aF b a))=true):eU (aF b a)=true:=by unfold eU;rw [Bool.or_eq_true] at c;rcases c with h|h<;>simp [h]
section
variable {B:Nat}{w:World}{pb:Nat}{s:ByteArray}{p g j m c:Nat}{k a:Int}{wd:ByteArray}{vC vP vM:Value}
theorem aHg(G:Nat)(c2:bO B w pb s p g j m c k a wd vC vP vM)(b2:s.size<=3000)(f4:s.size<p+G):Calls zu 39 #[.pointer (some ⟨pb,0,none⟩)] w λe d=>rJ B pb s p G g k a wd vC vP vM w e d:=by
 obtain ⟨b7,h7,f9⟩:=aRr s G p f4 c2.le;have d1:=aA (λb9=>aRs G (c2.below ((Below.refl w.heap.size w).alloc (zv _) b9)) f4);have f1:aM (∀b9,(w.alloc b9).heap[w.heap.size]?=some b9):=aA λb9=>by show (w.heap.push _)[w.heap.size]?=_;simp
 have h8:=c2.box.lt;obtain ⟨b,g2⟩ : ∃b,mK s G p=b:=⟨_,rfl⟩;rw [g2] at b7 h7 f9 d1;have e9:=aA b7;clear c2 g2 b7;go_enter Tryz.func39,Tryz.ntmps39;go_upto_region 3 with (first
  |(go_at_call 57;refine (aD d1 _).mono ?_;rintro e z ⟨rfl,c8,i1,j2,i8,b6⟩;have g4:=(c8.block w.heap.size (by simp) (by simp;omega)).trans (f1.o _);have f0:=aA b6;have f2:=aA g4;have h0:=b6.box.c0;have h1:=b6.at0.1;have h2:=b6.at0.2;have e8:aM (w.grownBy z (some pb)):=aA ((nM ((Below.refl w.heap.size w).alloc (zv _) _) (some pb)).trans c8);have e4:=c8.size;clear c8 b6 g4)
  |go_in)
 have c5:=(Below.refl z.heap.size z).alloc (zv _) (.cells #[.int .i32 (aT s b),.int .i64 b] 120);have N:=aA (f0.o.below c5);have e3:=c5.block w.heap.size (by simp at e4;omega);rw [f2.o] at e3;have a3:=aA e3;have a8:=aA (e8.o.trans (nM c5 (some pb)));have c7:(z.alloc (.cells #[.int .i32 (aT s b),.int .i64 b] 120)).heap[z.heap.size]?=some (.cells #[.int .i32 (aT s b),.int .i64 b] 120):=by show (z.heap.push _)[z.heap.size]?=_;simp
 have d3:(z.alloc (.cells #[.int .i32 (aT s b),.int .i64 b] 120)).cell? ⟨z.heap.size,0,none⟩=some (.int .i32 (aT s b)):=by unfold zz;rw [c7];rfl
 have i7:(z.alloc (.cells #[.int .i32 (aT s b),.int .i64 b] 120)).cell? ⟨z.heap.size,1,none⟩=some (.int .i64 b):=by unfold zz;rw [c7];rfl
 have d5:z.heap.size<(z.alloc (.cells #[.int .i32 (aT s b),.int .i64 b] 120)).heap.size:=by simp
 have c0:=aA c7;have t:w.heap.size<=w.heap.size:=zv _;have h9:w.heap.size<z.heap.size:=by simp at e4;omega
 clear c5 e3 c7 f0 f2 e8 f1 d1 h0 h1 h2 e4;generalize z.alloc (.cells #[.int .i32 (aT s b),.int .i64 b] 120)=w2 at *;generalize z.heap.size=fb at *;obtain ⟨f,e1⟩ : ∃f,w.heap.size=f:=⟨_,rfl⟩;rw [e1] at a3 h8 h9;simp only [e1];have t:w.heap.size<=f:=by omega
 clear e1;have A:=aA (λe7=>aHt (aT s b) e7);have E:=aA (λe7=>aHu (aT s b) e7);by_cases v:b<s.size
 ·have V:aM (rW s G p=dK s b):=aA (by rw [e9.o,aH v]);obtain ⟨j0,i9⟩:=f9 v;have b0:=aQx s b v;have a9:=aQy s b v;rw [b0] at A;rw [a9] at E;by_cases a5:(eP (aF s b) || dR (aF s b))=true
  ·have d0:=aCo a5;have a6:=aYa a5;by_cases e2:eP (aF s b)=true
   ·have d8:dR (aF s b:Int)=false:=by simp only [eP,Bool.and_eq_true,decide_eq_true_eq] at e2;simp only [dR,zx,decide_eq_false_iff_not];omega
    rw [d8] at a6;rw [e2] at A;obtain ⟨K,C,T,R,Q⟩ : ∃(K:Int) (C:Nat) (T:ByteArray),(∀d,w.grownBy d (some pb)->(∃j m c,bO B d pb s C g j m c k a wd vC vP vM)->rJ B pb s p G g k a wd vC vP vM w (.returned (fP K b T)) d)/\Calls zu 59 #[.pointer (some ⟨pb,0,none⟩),.int .i32 97] w2 λe d=>e=.returned (.agg #[.int .i32 K,.int .i64 b,.string T])/\w2.grownBy d (some pb)/\∃j m c,bO B d pb s C g j m c k a wd vC vP vM:=by
     by_cases a1:eC s b-b > 20
     ·refine ⟨-2,b,⟨#[]⟩,λd l u=>⟨l,by rw [V.o,a6,aH a1];exact ⟨rfl,u⟩⟩,(aAi 97 N.o b2 v d0).mono ?_⟩;rintro e d ⟨l,hr⟩;rw [aH a1] at hr;exact ⟨hr.1,l,_,_,_,hr.2⟩
     ·refine ⟨97,eC s b,s.extract b (eC s b),λd l u=>⟨l,by rw [V.o,a6,aI a1];exact ⟨rfl,u⟩⟩,(aAi 97 N.o b2 v d0).mono ?_⟩;rintro e d ⟨l,hr⟩;rw [aI a1] at hr;exact ⟨hr.1,l,hr.2⟩
    have F:=aA R;have a7:=aA Q;clear R Q b0 a9 a6;generalize aT s b=cc at *;go_wp2_with (first
     |(go_at_call 58;refine (aD A _).mono ?_;rintro e P ⟨rfl,rfl⟩)
     |(go_at_call 59;refine (aD a7).mono ?_;rintro e q ⟨rfl,D,e5,e6,d4,S⟩;have n:=(D.block f (by omega) (by simp;omega)).trans a3.o;have Z:=aA S;have Y:=aA D;have a0:=aA n;have H:q.cell? ⟨f,0,none⟩=some (.int .i32 0):=(by simp [zz,n]);have I:q.cell? ⟨f,1,none⟩=some (.int .i64 0):=(by simp [zz,n]);have J:q.cell? ⟨f,2,none⟩=some (.string ⟨#[]⟩):=(by simp [zz,n]);have L:=λM=>jB (v:=M) H;have b4:∀i,q.frozen? ⟨f,i,none⟩=false:=(λi=>by simp [zy,n]);clear D S n)
     |go_in)
    refine bodyPost_ret (by simp [results,zw,go_sem,L,I,J];try rfl) rfl ?_;exact F.o _ (iQ (iQ (iQ (a8.o.trans Y.o) t _) t _) t _) ⟨_,_,_,Z.o.setTok3 a0.o _ _ _⟩
   ·have b8:eP (aF s b:Int)=false:=by simpa using e2
    have d8:dR (aF s b:Int)=true:=by rw [b8] at a5;simpa using a5
    rw [d8] at a6 E;rw [b8] at A;obtain ⟨K,C,T,R,Q⟩ : ∃(K:Int) (C:Nat) (T:ByteArray),(∀d,w.grownBy d (some pb)->(∃j m c,bO B d pb s C g j m c k a wd vC vP vM)->rJ B pb s p G g k a wd vC vP vM w (.returned (fP K b T)) d)/\Calls zu 59 #[.pointer (some ⟨pb,0,none⟩),.int .i32 65] w2 λe d=>e=.returned (.agg #[.int .i32 K,.int .i64 b,.string T])/\w2.grownBy d (some pb)/\∃j m c,bO B d pb s C g j m c k a wd vC vP vM:=by
     by_cases a1:eC s b-b > 20
     ·refine ⟨-2,b,⟨#[]⟩,λd l u=>⟨l,by rw [V.o,a6,aH a1];exact ⟨rfl,u⟩⟩,(aAi 65 N.o b2 v d0).mono ?_⟩;rintro e d ⟨l,hr⟩;rw [aH a1] at hr;exact ⟨hr.1,l,_,_,_,hr.2⟩
     ·refine ⟨65,eC s b,s.extract b (eC s b),λd l u=>⟨l,by rw [V.o,a6,aI a1];exact ⟨rfl,u⟩⟩,(aAi 65 N.o b2 v d0).mono ?_⟩;rintro e d ⟨l,hr⟩;rw [aI a1] at hr;exact ⟨hr.1,l,hr.2⟩
    have F:=aA R;have a7:=aA Q;clear R Q b0 a9 a6;generalize aT s b=cc at *;go_wp2_with (first
     |(go_at_call 58;refine (aD A _).mono ?_;rintro e P ⟨rfl,rfl⟩)
     |(go_at_call 60;refine (aD E _).mono ?_;rintro e P ⟨rfl,rfl⟩)
     |(go_at_call 59;refine (aD a7).mono ?_;rintro e q ⟨rfl,D,e5,e6,d4,S⟩;have n:=(D.block f (by omega) (by simp;omega)).trans a3.o;have Z:=aA S;have Y:=aA D;have a0:=aA n;have H:q.cell? ⟨f,0,none⟩=some (.int .i32 0):=(by simp [zz,n]);have I:q.cell? ⟨f,1,none⟩=some (.int .i64 0):=(by simp [zz,n]);have J:q.cell? ⟨f,2,none⟩=some (.string ⟨#[]⟩):=(by simp [zz,n]);have L:=λM=>jB (v:=M) H;have b4:∀i,q.frozen? ⟨f,i,none⟩=false:=(λi=>by simp [zy,n]);clear D S n)
     |go_in)
    refine bodyPost_ret (by simp [results,zw,go_sem,L,I,J];try rfl) rfl ?_;exact F.o _ (iQ (iQ (iQ (a8.o.trans Y.o) t _) t _) t _) ⟨_,_,_,Z.o.setTok3 a0.o _ _ _⟩
  ·have b8:eP (aF s b:Int)=false:=by simp at a5;exact a5.1
   have f8:dR (aF s b:Int)=false:=by simp at a5;exact a5.2
   have d7:(eP (aF s b) || dR (aF s b))=false:=by rw [b8,f8];rfl
   rw [b8] at A;rw [f8] at E;by_cases b5:aF s b=39
   ·have c9:=(eX s b v 39 (by omega)).2 b5;have U:=aYb d7 b5;obtain ⟨K,C,T,R,Q⟩ : ∃(K:Int) (C:Nat) (T:ByteArray),(∀d,w.grownBy d (some pb)->(∃j m c,bO B d pb s C g j m c k a wd vC vP vM)->rJ B pb s p G g k a wd vC vP vM w (.returned (fP K b T)) d)/\Calls zu 61 #[.pointer (some ⟨pb,0,none⟩)] w2 λe d=>e=.returned (.agg #[.int .i32 K,.int .i64 b,.string T])/\w2.grownBy d (some pb)/\∃j m c,bO B d pb s C g j m c k a wd vC vP vM:=by
     cases hq:mU s b with
     |none=>
      rw [hq] at U;refine ⟨-2,b,⟨#[]⟩,λd l u=>⟨l,by rw [V.o,U];exact ⟨rfl,u⟩⟩,(aIr N.o b2 c9).mono ?_⟩;rintro e d ⟨l,hr⟩;rw [hq] at hr;exact ⟨hr.1,l,_,_,_,hr.2⟩
     |some r=>
      obtain ⟨i3,i4⟩:=r;rw [hq] at U;refine ⟨97,i4,i3,λd l u=>⟨l,by rw [V.o,U];exact ⟨rfl,u⟩⟩,(aIr N.o b2 c9).mono ?_⟩;rintro e d ⟨l,hr⟩;rw [hq] at hr;exact ⟨hr.1,l,hr.2⟩
    have F:=aA R;have a7:=aA Q;rw [c9] at d3 A E;clear R Q b0 a9 U c9;go_wp2_with (first
     |(go_at_call 58;refine (aD A _).mono ?_;rintro e P ⟨rfl,rfl⟩)
     |(go_at_call 60;refine (aD E _).mono ?_;rintro e P ⟨rfl,rfl⟩)
     |(go_at_call 61;refine (aD a7).mono ?_;rintro e q ⟨rfl,D,e5,e6,d4,S⟩;have n:=(D.block f (by omega) (by simp;omega)).trans a3.o;have Z:=aA S;have Y:=aA D;have a0:=aA n;have H:q.cell? ⟨f,0,none⟩=some (.int .i32 0):=(by simp [zz,n]);have I:q.cell? ⟨f,1,none⟩=some (.int .i64 0):=(by simp [zz,n]);have J:q.cell? ⟨f,2,none⟩=some (.string ⟨#[]⟩):=(by simp [zz,n]);have L:=λM=>jB (v:=M) H;have b4:∀i,q.frozen? ⟨f,i,none⟩=false:=(λi=>by simp [zy,n]);clear D S n)
     |go_in)
    refine bodyPost_ret (by simp [results,zw,go_sem,L,I,J];try rfl) rfl ?_;exact F.o _ (iQ (iQ (iQ (a8.o.trans Y.o) t _) t _) t _) ⟨_,_,_,Z.o.setTok3 a0.o _ _ _⟩
   ·have e0:aT s b≠39:=λe=>b5 ((eX s b v 39 (by omega)).1 e)
    by_cases c3:aF s b=36
    ·have f5:=(eX s b v 36 (by omega)).2 c3;have U:=aYc d7 b5 c3;obtain ⟨K,C,R,Q⟩ : ∃(K:Int) (C:Nat),(∀d,w.grownBy d (some pb)->(∃j m c,bO B d pb s C g j m c k a wd vC vP vM)->rJ B pb s p G g k a wd vC vP vM w (.returned (fP K b ⟨#[]⟩)) d)/\Calls zu 62 #[.pointer (some ⟨pb,0,none⟩)] w2 λe d=>e=.returned (.agg #[.int .i32 K,.int .i64 b,.string ⟨#[]⟩])/\w2.grownBy d (some pb)/\∃j m c,bO B d pb s C g j m c k a wd vC vP vM:=by
      by_cases c4:uF s b
      ·rw [aH (show b+6<=s.size/\s.extract b (b+6)=⟨#[36,102,97,108,115,101]⟩ from c4)] at U;refine ⟨36,b+6,λd l u=>⟨l,by rw [V.o,U];exact ⟨rfl,u⟩⟩,(aHf N.o).mono ?_⟩;rintro e d ⟨l,hr|hr⟩
       ·exact ⟨hr.2.1,l,hr.2.2⟩
       ·exact absurd c4 hr.1
      ·rw [aI (show ¬(b+6<=s.size/\s.extract b (b+6)=⟨#[36,102,97,108,115,101]⟩) from c4)] at U;refine ⟨-2,b,λd l u=>⟨l,by rw [V.o,U];exact ⟨rfl,u⟩⟩,(aHf N.o).mono ?_⟩;rintro e d ⟨l,hr|hr⟩
       ·exact absurd hr.1 c4
       ·exact ⟨hr.2.1,l,_,_,_,hr.2.2⟩
     have F:=aA R;have a7:=aA Q;rw [f5] at d3 A E;clear R Q b0 a9 U f5 e0;go_wp2_with (first
      |(go_at_call 58;refine (aD A _).mono ?_;rintro e P ⟨rfl,rfl⟩)
      |(go_at_call 60;refine (aD E _).mono ?_;rintro e P ⟨rfl,rfl⟩)
      |(go_at_call 62;refine (aD a7).mono ?_;rintro e q ⟨rfl,D,e5,e6,d4,S⟩;have n:=(D.block f (by omega) (by simp;omega)).trans a3.o;have Z:=aA S;have Y:=aA D;have a0:=aA n;have H:q.cell? ⟨f,0,none⟩=some (.int .i32 0):=(by simp [zz,n]);have I:q.cell? ⟨f,1,none⟩=some (.int .i64 0):=(by simp [zz,n]);have J:q.cell? ⟨f,2,none⟩=some (.string ⟨#[]⟩):=(by simp [zz,n]);have L:=λM=>jB (v:=M) H;have b4:∀i,q.frozen? ⟨f,i,none⟩=false:=(λi=>by simp [zy,n]);clear D S n)
      |go_in)
     refine bodyPost_ret (by simp [results,zw,go_sem,L,I,J];try rfl) rfl ?_;exact F.o _ (iQ (iQ (iQ (a8.o.trans Y.o) t _) t _) t _) ⟨_,_,_,Z.o.setTok3 a0.o _ _ _⟩
    ·have g0:aT s b≠36:=λe=>c3 ((eX s b v 36 (by omega)).1 e)
     have b3:=aYd d7 b5 c3;have d9:=aQz s b v;have X:=aA (aHr (aT s b) w2 (aCu s b));rw [d9] at X;have b7:=aAb s b v;cases hm:mV (aF s b)
     ·rw [hm] at X b3;have F:aM (∀d,w.grownBy d (some pb)->(∃j m c,bO B d pb s b g j m c k a wd vC vP vM)->rJ B pb s p G g k a wd vC vP vM w (.returned (fP (-2) b ⟨#[]⟩)) d):=aA λd l u=>⟨l,by rw [V.o,b3];exact ⟨rfl,u⟩⟩
      clear b0 a9 b3 d9 hm;generalize aT s b=cc at *;have i6:(cc==39)=false:=by simpa using e0
      have i5:(cc==36)=false:=by simpa using g0
      have j3:(cc==-1)=false:=by simpa using b7
      go_wp2_with (first
       |(go_at_call 58;refine (aD A _).mono ?_;rintro e P ⟨rfl,rfl⟩)
       |(go_at_call 60;refine (aD E _).mono ?_;rintro e P ⟨rfl,rfl⟩)
       |(go_at_call 63;refine (aD X).mono ?_;rintro e x ⟨rfl,y⟩;have b1:=aA y;have O:=(y.block f (by omega)).trans a3.o;have d2:=aA O;have W:=(y.block fb d5).trans c0.o;have g5:x.cell? ⟨fb,0,none⟩=some (.int .i32 (cc)):=(by unfold zz;rw [W];rfl);have g6:x.cell? ⟨fb,1,none⟩=some (.int .i64 b):=(by unfold zz;rw [W];rfl);have a2:=N.o.below y;have h3:=a2.box.c0;have h4:=a2.box.soft 0;have c1:=aA a2;clear y O W a2)
       |(go_at_call 64;refine (vU c1.o).mono ?_;rintro e q ⟨rfl,c6⟩;unfold fP;have j1:=b1.o.size;have n:=(c6.block f (by omega)).trans d2.o;have Z:=aA (c1.o.below c6);have Y:=aA ((nM b1.o (some pb)).trans (nM c6 (some pb)));have a0:=aA n;have H:q.cell? ⟨f,0,none⟩=some (.int .i32 0):=(by simp [zz,n]);have I:q.cell? ⟨f,1,none⟩=some (.int .i64 0):=(by simp [zz,n]);have J:q.cell? ⟨f,2,none⟩=some (.string ⟨#[]⟩):=(by simp [zz,n]);have L:=λM=>jB (v:=M) H;have b4:∀i,q.frozen? ⟨f,i,none⟩=false:=(λi=>by simp [zy,n]);clear c6 n)
       |go_in)
      refine bodyPost_ret (by simp [results,zw,go_sem,L,I,J];try rfl) rfl ?_;exact F.o _ (iQ (iQ (iQ (a8.o.trans Y.o) t _) t _) t _) ⟨_,_,_,Z.o.setTok3 a0.o _ _ _⟩
     ·rw [hm] at X b3;have h6:aF s b<128:=by unfold mV at hm;simp at hm;omega
      obtain ⟨f6,i0⟩:=mJ s b v h6;have f7:dN (aF s b)=aT s b:=by
       rw [f6];have g1:aF s b=124\/aF s b=126\/aF s b=40\/aF s b=41\/aF s b=44\/aF s b=46:=by unfold mV at hm;simp at hm;omega
       generalize aF s b=bb at g1 ⊢;rcases g1 with rfl|rfl|rfl|rfl|rfl|rfl<;>rfl
      have F:aM (∀d,w.grownBy d (some pb)->(∃j m c,bO B d pb s (b+1) g j m c k a wd vC vP vM)->rJ B pb s p G g k a wd vC vP vM w (.returned (fP (aT s b) b ⟨#[]⟩)) d):=aA λd l u=>⟨l,by rw [V.o,b3];exact ⟨by rw [<-f7],u⟩⟩
      obtain ⟨i2,g9,rfl,rfl⟩:=N.o.more v;clear b0 a9 b3 d9 hm f6 f7;generalize aT s b=cc at *;have i6:(cc==39)=false:=by simpa using e0
      have i5:(cc==36)=false:=by simpa using g0
      go_wp2_with (first
       |(go_at_call 58;refine (aD A _).mono ?_;rintro e P ⟨rfl,rfl⟩)
       |(go_at_call 60;refine (aD E _).mono ?_;rintro e P ⟨rfl,rfl⟩)
       |(go_at_call 63;refine (aD X).mono ?_;rintro e x ⟨rfl,y⟩;have b1:=aA y;have O:=(y.block f (by omega)).trans a3.o;have W:=(y.block fb d5).trans c0.o;have a2:=N.o.below y;have h3:=a2.box.c0;have h4:=a2.box.soft 0;have g8:=aA (a2.step v);have a4:∀o,(x.setCell ⟨pb,0,none⟩ o).heap[f]?=some (.cells #[.int .i32 0,.int .i64 0,.string ⟨#[]⟩] 58)/\(x.setCell ⟨pb,0,none⟩ o).heap[fb]?=some (.cells #[.int .i32 cc,.int .i64 b] 120):=(λo=>⟨by rw [Below.heap_setCell _ _ _ _ (show f≠pb by omega)];exact O,by rw [Below.heap_setCell _ _ _ _ (show fb≠pb by omega)];exact W⟩);have g5:∀o,(x.setCell ⟨pb,0,none⟩ o).cell? ⟨fb,0,none⟩=some (.int .i32 cc):=(λo=>by unfold zz;rw [(a4 o).2];rfl);have g6:∀o,(x.setCell ⟨pb,0,none⟩ o).cell? ⟨fb,1,none⟩=some (.int .i64 b):=(λo=>by unfold zz;rw [(a4 o).2];rfl);have H:∀o,(x.setCell ⟨pb,0,none⟩ o).cell? ⟨f,0,none⟩=some (.int .i32 0):=(λo=>by unfold zz;rw [(a4 o).1];rfl);have I:∀o,(x.setCell ⟨pb,0,none⟩ o).cell? ⟨f,1,none⟩=some (.int .i64 0):=(λo=>by unfold zz;rw [(a4 o).1];rfl);have J:∀o,(x.setCell ⟨pb,0,none⟩ o).cell? ⟨f,2,none⟩=some (.string ⟨#[]⟩):=(λo=>by unfold zz;rw [(a4 o).1];rfl);have b4:∀o i,(x.setCell ⟨pb,0,none⟩ o).frozen? ⟨f,i,none⟩=false:=(λo i=>by simp [zy,(a4 o).1]);have L:=λo M=>jB (v:=M) (H o);have g7:=aA a4;clear y O W a2 a4)
       |go_in)
      refine bodyPost_ret (by simp [results,zw,go_sem,L,I,J];try rfl) rfl ?_;have h5:=rX (j:=0) (a8.o.trans (nM b1.o (some pb))) (.slice (some ⟨g,i1*2+2,none⟩) (i2+1) (g9+1));have f3:=g8.o;rw [i0] at f3;exact F.o _ (iQ (iQ (iQ h5 t _) t _) t _) ⟨_,_,_,f3.setTok3 (g7.o _).1 _ _ _⟩
 ·have g3:b=s.size:=by omega
  have d6:=oJ s b v;have X:=aA (aHr (aT s b) w2 (aCu s b));rw [d6] at X A E d3;rw [show rK (-1)=false by decide] at X;rw [show eP (-1)=false by decide] at A;rw [show dR (-1)=false by decide] at E;rw [d6] at c0;have F:aM (∀d,w.grownBy d (some pb)->(∃j m c,bO B d pb s b g j m c k a wd vC vP vM)->rJ B pb s p G g k a wd vC vP vM w (.returned (fP (-1) b ⟨#[]⟩)) d):=aA λd l u=>⟨l,by rw [e9.o,aI v,<-g3];exact ⟨rfl,u⟩⟩
  clear d6 g3;go_wp2_with (first
   |(go_at_call 58;refine (aD A _).mono ?_;rintro e P ⟨rfl,rfl⟩)
   |(go_at_call 60;refine (aD E _).mono ?_;rintro e P ⟨rfl,rfl⟩)
   |(go_at_call 63;refine (aD X).mono ?_;rintro e x ⟨rfl,y⟩;have b1:=aA y;have O:=(y.block f (by omega)).trans a3.o;have W:=(y.block fb d5).trans c0.o;have d2:=aA O;have c1:=aA (N.o.below y);have g5:x.cell? ⟨fb,0,none⟩=some (.int .i32 (-1)):=(by unfold zz;rw [W];rfl);have g6:x.cell? ⟨fb,1,none⟩=some (.int .i64 b):=(by unfold zz;rw [W];rfl);have H:x.cell? ⟨f,0,none⟩=some (.int .i32 0):=(by simp [zz,O]);have I:x.cell? ⟨f,1,none⟩=some (.int .i64 0):=(by simp [zz,O]);have J:x.cell? ⟨f,2,none⟩=some (.string ⟨#[]⟩):=(by simp [zz,O]);have L:=λM=>jB (v:=M) H;have b4:∀i,x.frozen? ⟨f,i,none⟩=false:=(λi=>by simp [zy,O]);clear y O W)
   |go_in)
  refine bodyPost_ret (by simp [results,zw,go_sem,L,I,J];try rfl) rfl ?_;exact F.o _ (iQ (iQ (iQ (a8.o.trans (nM b1.o (some pb))) t _) t _) t _) ⟨_,_,_,c1.o.setTok3 d2.o _ _ _⟩
end
