import Derived.Test.YtmelidkanelpbaaGreatDoorShelfG
import Derived.Deep.RegionHeld3
import Derived.Deep.RegionWith
open Bool renaming and_eq_true→zr
open List renaming eq_nil_of_length_eq_zero→zw,take_succ_eq_append_getElem→zu,length_append→zt,getElem_mem→zq,take_of_length_le→zo,map_append→zn
open Nat renaming le_refl→zz,zero_le→zv
namespace Go.Proofs.YtmelidkanelpbaaGreatDoor
open _root_.Go.Proofs.Tryz renaming prog→zx,ntmps115→zm,ntmps130→zl,func115→zk,func130→zj
open World renaming cell?_setCell_other→zy,setCell→zs,frozen?_of_block→zp
set_option maxHeartbeats 2000000
set_option maxRecDepth 100000
open Go.RowKit Go.Shelf
variable{l:List Nd}{B g:Nat}{dv:Value}{w:World}
theorem aV5(k:Option Addr)(s:Nat)(l:List Nd)(w:World)(d:dV w k l)(o:kT w):Calls zx 101 #[.slice k l.length s] w λe A=>e=.returned (.bool (gJ l))/\aB w A:=by
 have c:=aZa k s l w d o;by_cases b:jA l=true
 ·cases l with
  |nil=>rw [aXr] at b;exact absurd b (by simp)
  |cons n0 r=>
   rw [b] at c;obtain ⟨E,F,rfl,m,n⟩:=d.cell 0 (by simp);simp only [List.getElem_cons_zero,Nat.zero_mul,Nat.add_zero] at m n;obtain ⟨q,u⟩:=n0;simp only at m n;have j:=aA (show gJ ((q,u)::r) = !q.toList.isEmpty by simp [gJ,b,aK]);have f:=aA c;have v:=aA (λD=>pQ q u D);have z:=d.few;simp only [List.length_cons] at z;clear c b d o;go_enter Tryz.func101,Tryz.ntmps101;go_wp2_with (first
    |(go_at_call 116;refine (aD f).mono ?_;rintro e C ⟨rfl,a⟩;have G:=aC a m;have H:=aC a n;have i:=aA a;have y:=a.size;clear a)
    |(go_at_call 67;refine (aD v _).mono ?_;rintro e I ⟨rfl,t⟩;have x:=aA (i.o.trans (t.mono y));clear t))
   go_ret;exact ⟨dK j.o.symm,x.o⟩
 ·have p:jA l=false:=by simpa using b
  rw [p] at c;have j:=aA (show gJ l=false by simp [gJ,p]);have f:=aA c;clear c b p d o;go_enter Tryz.func101,Tryz.ntmps101;go_wp2_with (go_at_call 116;refine (aD f).mono ?_;rintro e C ⟨rfl,a⟩;have i:=aA a;clear a);go_ret;exact ⟨dK j.o.symm,i.o⟩
theorem aV6(B g k:Nat)(a:Int)(d:Addr)(b i:List Nd)(dv:Value)(c:bG)(w:World)(e:cB w B g dv c)(y:0<=a)(z:a<60)(n:fV w B (some d) b)(r:look c a=some i):Calls zx 135 #[.pointer (some ⟨g,0,none⟩),.int .i64 a,.slice (some d) b.length k] w λm s=>m=.returned (.bool (decide (i=b)))/\cB s B g dv c/\Fr B w s:=by
 obtain ⟨f,rfl⟩ : ∃f:Nat,a=f:=⟨a.toNat,by omega⟩;obtain ⟨C,A,p⟩:=e.term f (by omega);rw [r] at p;obtain ⟨v,x,rfl,o⟩:=p;have t:=aA (aKe (some v) (some d) x k i b w o.nodes n.nodes);have u:=aA e;clear e n o r;go_enter Tryz.func135,Tryz.ntmps135;go_wp2_with (go_at_call 55;refine (aD t).mono ?_;rintro m D ⟨rfl,q⟩;have j:=aA q;clear q);go_ret;exact ⟨rfl,u.o.drawn j.o,(Fr.refl _ _).drawn j.o⟩
theorem aV7(B g q:Nat)(b:Int)(j:Addr)(d:List Nd)(dv:Value)(i:bG)(w:World)(a:cB w B g dv i)(R:0<=b)(S:b<60)(r:fV w B (some j) d)(m:look i b=none)(t:aQ d 1=true)(H:d.length<=60):Calls zx 135 #[.pointer (some ⟨g,0,none⟩),.int .i64 b,.slice (some j) d.length q] w λG v=>G=.returned (.bool true)/\cB v B g dv (i++[(b,d)])/\Fr B w v:=by
 obtain ⟨P,I,J,L,M⟩:=info_parts tT;obtain ⟨c,rfl⟩ : ∃c:Nat,b=c:=⟨b.toNat,by omega⟩;obtain ⟨Q,Z,s⟩:=a.term c (by omega);rw [m] at s;obtain rfl:Q=.slice none 0 0:=s;obtain ⟨F,N,f⟩:=a.bound;have U:=a.frozen (1+c);have O:=a.frozen 61;have k:=a.apart f;have X:=a.ok.few;have Y:=a.low;have W:=a.lt;have z:=aA a;have u:=aB8 f (p:=⟨g,1+c,none⟩) k (.slice (some j) d.length q);have C:=aA f;have A:=aA r;have y:=aA m;have D:=aA t;have o:=aA k;clear a f r m t k;go_enter Tryz.func135,Tryz.ntmps135;go_wp2_with (first
  |(at_builtin;refine wpList_append_own _ rfl _ _ 28 rfl B 3 P (.int .i64 0) 1 8 Tryz.underlying28 I J L M rfl (by decide) _ _ _ rfl (u.alloc _) ⟨w.heap.size,0,none⟩ 1 1 [.int .i64 (c:Int)] (by rfl) rfl ?d1 ?d2 ?d3 ?d4 ?d5 ?_)
  |go_in)
 case d1=>exact tU _ _ _ _ (by simp [zs])
 case d2=>exact aGc _
 case d3=>unfold maxLen;omega
 case d4=>omega
 case d5=>simp [zs];omega
 intro a0 x n e _;obtain ⟨a1,a2,rfl⟩:=aZ n;have E:=aA (z.o.more (by omega) y.o A.o D.o H C.o e n);have T:x.cell? ⟨g,61,none⟩=some F:=e.cell (aC ((Below.refl _ _).alloc (zz _) _) (by rw [zy w _ _ _ (by first|(simp;done)|(simp;omega))];exact N)) o.o;have V:x.frozen? ⟨g,61,none⟩=false:=by rw [zp (e.block g (by simp [zs];omega) o.o),zp (a:=⟨g,61,none⟩) (heap_alloc_old _ _ (show g<_ by simp [zs];omega)),World.frozen?_setCell];exact O
 clear n e u;go_wp2;go_ret;exact ⟨rfl,E.o⟩
theorem aV8(z:Option Addr)(G:Nat)(l:List Nd)(c i:Nat)(w:World)(D:dV w z l)(R:l.length<=60)(L:aQ (l.drop c) (1+i)=true)(J:c<=l.length):Calls zx 134 #[.slice z l.length G,.int .i64 c] w λr N=>r=.returned (.int .i64 ((c+aO (l.drop c) 1:Nat)))/\aB w N:=by
 go_enter Tryz.func134,Tryz.ntmps134;go_wp2;go_loopw [1,5] (λu M wr=>∃a b:Nat,a<=l.length/\b<=1+5*a/\u=.int .i64 a/\M=.int .i64 b/\aB w wr/\c+aO (l.drop c) 1=a+aO (l.drop a) b/\aQ (l.drop a) (b+i)=true) (λu _ _=>l.length-(intOf u).toNat);case atStart=>exact ⟨c,1,J,by omega,rfl,rfl,Below.refl _ _,rfl,L⟩
 case round=>
  obtain ⟨a,b,S,T,rfl,rfl,d,m,e⟩:=hrel;cases b with
  |zero=>
   have p:=aA m;have o:=aA d;clear m d e;go_wp2;go_ret;exact ⟨xL (by rw [p.o];simp),o.o⟩
  |succ b=>
   have s:a<l.length:=aLt (q:=b+i) (by rw [<-e];congr 1;omega);obtain ⟨Q,W,rfl,A,C⟩:=D.cell a s;have H:=aC d A;have I:=aC d C;rw [aY3 l a b s] at m;rw [show b+1+i=(b+i)+1 by omega,aEo l a (b+i) s,zr] at e;obtain ⟨t,e⟩:=e;generalize l[a]=nd at *;obtain ⟨v,x⟩:=nd;simp only at H I;clear A C D;have E:=d.size;have o:=aA d;have p:=aA m;have y:=aA e;have n:=aA (λP=>aEz v x P);clear d m e;by_cases f:v.toList.isEmpty=true
   ·have j:aM (aX (v,x)=0):=aA (jS f);rw [aI f] at n;clear t f;go_wp2_with (go_at_call 121;refine (aD n _).mono ?_;rintro r O ⟨rfl,k⟩;have q:=aA (o.o.trans (k.mono E));clear k);go_roundw;case rel=>exact ⟨a+1,b,by omega,by omega,by go_num,by go_num,q.o,by rw [p.o,j.o];simp;omega,by have:=y.o;rw [j.o] at this;rw [<-this];congr 1⟩
    case measure=>simp [intOf];omega
   ·obtain ⟨U,V,F⟩:=aYb t f;have j:=aA F;rw [aH f] at n;clear t F f;go_wp2_with (go_at_call 121;refine (aD n _).mono ?_;rintro r O ⟨rfl,k⟩;have q:=aA (o.o.trans (k.mono E));clear k);go_roundw;case rel=>exact ⟨a+1,b+x.toNat,by omega,by omega,by go_num,by go_num,q.o,by rw [p.o,j.o];omega,by have:=y.o;rw [j.o] at this;rw [<-this];congr 1;omega⟩
    case measure=>simp [intOf];omega
theorem dV.sub{d c:Nat}(e:dV w (some ⟨d,c,none⟩) l)(a i:Nat):dV w (some ⟨d,c+a*2,none⟩) ((l.drop a).take i):=by
 have q:((l.drop a).take i).length<=l.length-a:=by simp;omega
 refine ⟨by have:=e.few;omega,λb o=>?_,λb o=>?_⟩
 ·have f:a+b<l.length:=by omega
  have:=e.short (a+b) f;simpa using this
 ·have f:a+b<l.length:=by omega
  obtain ⟨j,p,k,m,n⟩:=e.cell (a+b) f;obtain ⟨rfl,rfl⟩ : d=j/\c=p:=by simpa using k
  refine ⟨d,c+a*2,rfl,?_,?_⟩
  ·rw [show c+a*2+b*2=c+(a+b)*2 by omega];simpa using m
  ·rw [show c+a*2+b*2+1=c+(a+b)*2+1 by omega];simpa using n
theorem fV.sub{a c:Nat}(d:fV w B (some ⟨a,c,none⟩) l)(b f:Nat):fV w B (some ⟨a,c+b*2,none⟩) ((l.drop b).take f):=
 ⟨d.nodes.sub b f,λi e=>by simp at e;subst e;exact d.low ⟨a,c,none⟩ rfl⟩
theorem aAt(c:Array Value)(a:TypeId)(d:a≠136)(e:a≠3):lX (w.alloc (.cells c a)) B w.heap.size:=
 Or.inr λi f j b=>by
  rw [heap_alloc_new] at b;simp at b;rw [<-b.2.1];exact ⟨d,e⟩
theorem aKi{k:Program}{n e f:Nat}{q r:Value}{p:Value}{s j:bG}{m:Array Value}(_:cB w B g dv s)(z:lX w B e)(A:lX w B f)(u:w.cell? ⟨e,1,none⟩=some q)(v:w.cell? ⟨f,1,none⟩=some r)
  (t:∀b,(∃i,b=w.drewN i)->Calls k n m b λc a=>c=.returned p/\cB a B g dv j/\Fr B b a):∀b,(∃i,b=w.drewN i)->Calls k n m b λc a=>c=.returned p/\cB a B g dv j/\Fr B w a/\a.cell? ⟨e,1,none⟩=some q/\a.cell? ⟨f,1,none⟩=some r:=by
 intro b o;refine (t b o).mono ?_;rintro c a ⟨rfl,y,x⟩;have d:Fr B w a:=((Fr.refl _ _).drawn o).trans x;exact ⟨rfl,y,d,d.cell u z,d.cell v A⟩
theorem aDv(B g:Nat)(dv:Value)(j:bG)(w:World)(n p:Bool)(y t:Option Addr)(J i:Nat)(c a:List Nd)(u:cB w B g dv j)(e9:fV w B y c)(f2:fV w B t a)(k3:a.length<=i)(j8:aQ c 1=true)(j9:aQ a 1=true)(k1:c.length<=60)(i5:a.length<=60):Calls zx 114 #[.pointer (some ⟨g,0,none⟩),.agg #[.bool n,.slice y c.length J],.agg #[.bool p,.slice t a.length i]] w λA s=>∃(d8:Bool) (c1:bG),A=.returned (.bool d8)/\cB s B g dv c1/\Fr B w s/\(∃a4,c1=j++a4)/\(d8=true->kA (n,c) (p,a) j=some c1)/\(d8=false->kA (n,c) (p,a) j=none):=by
 have a5:aB w ((w.alloc (.cells #[.bool n,.slice y c.length J] 86)).alloc (.cells #[.bool p,.slice t a.length i] 86)):=((Below.refl _ _).alloc (zz _) _).alloc (by simp) _;have f4:=u.below a5;have f0:=e9.fr (Fr.of_below a5);have f3:=f2.fr (Fr.of_below a5);have f5:lX ((w.alloc (.cells #[.bool n,.slice y c.length J] 86)).alloc (.cells #[.bool p,.slice t a.length i] 86)) B (w.heap.size+1):=by have:=aAt (w:=w.alloc (.cells #[.bool n,.slice y c.length J] 86)) (B:=B) #[.bool p,.slice t a.length i] 86 (by decide) (by decide);simpa using this
 have f7:((w.alloc (.cells #[.bool n,.slice y c.length J] 86)).alloc (.cells #[.bool p,.slice t a.length i] 86)).cell? ⟨w.heap.size+1,1,none⟩=some (.slice t a.length i):=by simp
 have a9:aM (Fr B w ((w.alloc (.cells #[.bool n,.slice y c.length J] 86)).alloc (.cells #[.bool p,.slice t a.length i] 86))):=aA (Fr.of_below a5);have e2:=aA f4;have h5:=aA f0;have h6:=aA f3;have e4:=aA f5;have h7:=aA f7;clear u e9 f2 a5 f4 f0 f3 f5 f7;by_cases d4:n=p
 ·subst d4;have a3:aM (kA (n,c) (n,a) j=dI c a j):=aA (by simp [kA]);go_enter Tryz.func114,Tryz.ntmps114;go_wp2;generalize hW:((w.alloc (.cells #[.bool n,.slice y c.length J] 86)).alloc (.cells #[.bool n,.slice t a.length i] 86))=W at *;have e5:=aA hW;clear hW;go_loopw [7,19] (λG d5 wr=>∃(e b k:Nat) (d:bG),e<=c.length/\b<=a.length/\d5=.int .i64 e/\G=.int .i64 b/\cB wr B g dv d/\Fr B W wr/\(∃a4,d=j++a4)/\aQ (c.drop e) k=true/\aQ (a.drop b) k=true/\dI c a j=dI (c.drop e) (a.drop b) d)
   (λ_ d5 _=>c.length-(intOf d5).toNat)
  case atStart=>exact ⟨0,0,1,j,zv _,zv _,rfl,rfl,e2.o,Fr.refl _ _,⟨[],by simp⟩,j8,j9,rfl⟩
  case round=>
   obtain ⟨e,b,k,d,k8,g2,rfl,rfl,u,C,b3,M,V,a7⟩:=hrel;by_cases U:e<c.length
   ·obtain ⟨k,rfl⟩ : ∃j7,k=j7+1:=by
     cases k with
     |zero=>rw [aCe c e U] at M;simp at M
     |succ k=>exact ⟨k,rfl⟩
    have c3:b<a.length:=aLt V;have f1:=h5.o.fr C;have c2:=h6.o.fr C;obtain ⟨k2,l1,rfl,i6,i8⟩:=f1.nodes.cell e U;obtain ⟨z,F,rfl,e7,e8⟩:=c2.nodes.cell b c3;have c7:wr.cell? ⟨w.heap.size+1,1,none⟩=some (.slice (some ⟨z,F,none⟩) a.length i):=C.cell h7.o e4.o;have c4:=λG=>aY5 c a e b d G U
    have c6:=aY6 c a e b d U;have g6:=aY7 c a e b d U c3;have a8:=M;rw [aEo c e k U,zr] at a8;obtain ⟨g7,a8⟩:=a8;have c9:aQ (a.drop b) (1+k)=true:=by rw [<-V];congr 1;omega
    have g9:=aEg (a.drop b) 1 k c9;have d0:=V;rw [aEo a b k c3,zr] at d0;generalize hnd:c[e]=nd at *;obtain ⟨o,f⟩:=nd;simp only at i6 i8 c4 c6;have a2:=aA a7;have e1:=aA c4;have h9:=aA c6;have e3:=aA g6;have c0:=aA a8;have i3:=aA d0;have b9:=aA g9;have i0:=aA g7;have I:=aA b3;have a0:=aA u;have P:=aA C;have e0:=aA c2;have i4:=aA c9;have h0:=C.size;have l0:w.heap.size+2<=wr.heap.size:=by rw [<-e5.o] at h0;simpa using h0
    clear M a8 V c9 d0 g9 a7 c4 c6 g6 g7 b3 u C c2 f1 hnd;have Y:=aA (λH=>pQ o f H);have f6:aB wr (wr.alloc (.cells #[.string o,.int .i64 f] 117)):=(Below.refl _ _).alloc (zz _) _;have k0:=aA f6;clear f6;by_cases N:o.toList.isEmpty=true
    ·rw [N] at Y;have j6:=aLs i0.o N;obtain ⟨d2,d3⟩:=j6;simp only at d2 d3;have e6:aM (aX (o,f)=0):=aA (jS N);have Q:aM (aK (o,f)=true):=aA N;clear N;obtain ⟨r,T⟩ : ∃r,r=b+aO (a.drop b) 1:=⟨_,rfl⟩;have g0:=tG (a.drop b) 1;have g1:=aXs (a.drop b) 0 (by intro j0;have:=congrArg List.length j0;simp at this;omega);simp at g0 g1;have k5:b<r:=by omega
     have g3:r<=a.length:=by omega
     have g5:((a.drop b).take (aO (a.drop b) 1)).length=r-b:=by simp;omega
     have j2:(b:Int)<=(r:Int):=by omega
     have k6:(r:Int)<=(i:Int):=by omega
     have k7:¬i=b:=by omega
     have b8:=aA g5;have b0:=aA T;have h4:=aA (λH (j5:dV H (some ⟨z,F,none⟩) a)=>by have:=aV8 (some ⟨z,F,none⟩) i a b k H j5 i5 i4.o g2;rw [<-T] at this;exact this);clear T g0 g1 g5;go_wp2_with (first
      |(go_at_call 67;refine (aD Y _).mono ?_;rintro A d9 ⟨rfl,v⟩;obtain ⟨d6,d7,m⟩:=jD v;have x:=aA m;have i2:aM (Fr B _ d9):=aA (Fr.of_below v);have j4:=m.size;have c8:=aC m c7;clear v m)
      |(go_at_call 134;refine (aD h4 _ ((e0.o.fr (Fr.of_below x.o)).nodes)).mono ?_;rintro A h2 ⟨rfl,S⟩;have l2:=aC S d6;have h1:=aC S d7;have g8:=aC S c8;have b2:=aA (x.o.trans (S.mono j4));have i1:=aA ((i2.o).trans (Fr.of_below S));clear S))
     have b5:lX h2 B wr.heap.size:=by have j1:=aAt (w:=wr) (B:=B) #[.string o,.int .i64 f] 117 (by decide) (by decide);exact j1.fr (by simp) (i1.o)
     have b6:lX h2 B (w.heap.size+1):=(e4.o.fr (by rw [<-e5.o];simp) P.o).fr (by omega) (Fr.of_below b2.o);have R:=a0.o.below b2.o;have b4:=(e0.o.fr (Fr.of_below b2.o)).sub b (aO (a.drop b) 1);have b7:=aA (P.o.trans (Fr.of_below b2.o));cases hl:look d f with
     |none=>
      have O:=aA (aKi R b5 b6 h1 g8 (λH a6=>by have:=aV7 B g (i-b) f ⟨z,F+b*2,none⟩ ((a.drop b).take (aO (a.drop b) 1)) dv d H (R.drawn a6) d2 d3 (b4.fr ((Fr.refl _ _).drawn a6)) hl b9.o.1 (by rw [b8.o];omega);rw [b8.o] at this;exact this));have b1:=aA hl;clear b5 b6 R b4 hl;go_region_held3 (λs=>s.cell? ⟨wr.heap.size,1,none⟩=some (.int .i64 f)/\s.cell? ⟨w.heap.size+1,1,none⟩=some (.slice (some ⟨z,F,none⟩) a.length i)) (go_keep) ((go_at_call 135;refine (aD O _ (by first|exact ⟨0,rfl⟩|exact ⟨_,rfl⟩|exact mF _ _ _)).mono ?_;rintro A h3 ⟨rfl,E,D,f8,f9⟩;have a1:=aA E;have Z:=aA D;clear E D));have q:aM (dI c a j=dI (c.drop (e+1)) (a.drop r) (d++[(f,(a.drop b).take (aO (a.drop b) 1))])):=aA (by rw [a2.o,h9.o Q.o b1.o,b0.o]);go_wp2;go_roundw;case rel=>exact ⟨e+1,r,k,d++[(f,(a.drop b).take (aO (a.drop b) 1))],by omega,g3,by go_num,rfl,a1.o,b7.o.trans Z.o,(by obtain ⟨a4,u⟩:=I.o;exact ⟨a4++[(f,(a.drop b).take (aO (a.drop b) 1))],by rw [u];simp⟩),(by have:=c0.o;rw [e6.o] at this;exact this),(by have:=b9.o.2;rw [List.drop_drop,<-b0.o] at this;exact this),q.o⟩
      case measure=>simp [intOf];omega
     |some G=>
      have O:=aA (aKi R b5 b6 h1 g8 (λH a6=>by have:=aV6 B g (i-b) f ⟨z,F+b*2,none⟩ ((a.drop b).take (aO (a.drop b) 1)) G dv d H (R.drawn a6) d2 d3 (b4.fr ((Fr.refl _ _).drawn a6)) hl;rw [b8.o] at this;exact this));have b1:=aA hl;clear b5 b6 R b4 hl;by_cases X:G=(a.drop b).take (aO (a.drop b) 1)
      ·rw [fA X] at O;have q:aM (dI c a j=dI (c.drop (e+1)) (a.drop r) d):=aA (by rw [a2.o,e1.o G Q.o b1.o,aI X,b0.o]);clear X;go_region_held3 (λs=>s.cell? ⟨wr.heap.size,1,none⟩=some (.int .i64 f)/\s.cell? ⟨w.heap.size+1,1,none⟩=some (.slice (some ⟨z,F,none⟩) a.length i)) (go_keep) ((go_at_call 135;refine (aD O _ (by first|exact ⟨0,rfl⟩|exact ⟨_,rfl⟩|exact mF _ _ _)).mono ?_;rintro A h3 ⟨rfl,E,D,f8,f9⟩;have a1:=aA E;have Z:=aA D;clear E D));go_wp2;go_roundw;case rel=>exact ⟨e+1,r,k,d,by omega,g3,by go_num,rfl,a1.o,b7.o.trans Z.o,I.o,(by have:=c0.o;rw [e6.o] at this;exact this),(by have:=b9.o.2;rw [List.drop_drop,<-b0.o] at this;exact this),q.o⟩
       case measure=>simp [intOf];omega
      ·rw [gB X] at O;have q:aM (dI c a j=none):=aA (by rw [a2.o,e1.o G Q.o b1.o,aH X]);clear X;go_region_held3 (λs=>s.cell? ⟨wr.heap.size,1,none⟩=some (.int .i64 f)/\s.cell? ⟨w.heap.size+1,1,none⟩=some (.slice (some ⟨z,F,none⟩) a.length i)) (go_keep) ((go_at_call 135;refine (aD O _ (by first|exact ⟨0,rfl⟩|exact ⟨_,rfl⟩|exact mF _ _ _)).mono ?_;rintro A h3 ⟨rfl,E,D,f8,f9⟩;have a1:=aA E;have Z:=aA D;clear E D));go_wp2;go_ret;exact ⟨false,d,rfl,a1.o,a9.o.trans (b7.o.trans Z.o),I.o,by simp,λ_=>a3.o.trans q.o⟩
    ·have d1:o.toList.isEmpty=false:=by simpa using N
     rw [d1] at Y;have Q:aM (aK (o,f)=false):=aA d1;clear N d1;have g:=xM;have k9:=xO o a[b].1 f a[b].2;have c5:=xN (o,f) a[b];simp only at c5;have j2:(b:Int)<(a.length:Int):=by omega
     by_cases L:(o,f)=a[b]
     ·rw [fA L] at c5;have q:aM (dI c a j=dI (c.drop (e+1)) (a.drop (b+1)) d):=aA (by rw [a2.o,e3.o Q.o,aI L]);have h8:=aA L;clear L;go_wp2_with (first
       |(go_at_call 67;refine (aD Y _).mono ?_;rintro A d9 ⟨rfl,v⟩;obtain ⟨d6,d7,m⟩:=jD v;have x:=aA m;have c8:=aC m c7;have i7:=aC m e7;have i9:=aC m e8;clear v m))
      go_quiet (fail);go_wp2;go_roundw;case rel=>exact ⟨e+1,b+1,k+aX (o,f),d,by omega,by omega,by go_num,by go_num,(a0.o.below x.o).drawn (by first|exact mF _ _ _|exact ⟨_,rfl⟩),(P.o.trans (Fr.of_below x.o)).drawn (by first|exact mF _ _ _|exact ⟨_,rfl⟩),I.o,c0.o,(by have:=i3.o.2;rw [<-h8.o] at this;exact this),q.o⟩
      case measure=>simp [intOf];omega
     ·rw [gB L] at c5;have q:aM (dI c a j=none):=aA (by rw [a2.o,e3.o Q.o,aH L]);clear L;go_wp2_with (first
       |(go_at_call 67;refine (aD Y _).mono ?_;rintro A d9 ⟨rfl,v⟩;obtain ⟨d6,d7,m⟩:=jD v;have x:=aA m;have c8:=aC m c7;have i7:=aC m e7;have i9:=aC m e8;clear v m))
      go_quiet (fail);go_wp2;go_ret;exact ⟨false,d,rfl,(a0.o.below x.o).drawn (by first|exact mF _ _ _|exact ⟨_,rfl⟩),a9.o.trans ((P.o.trans (Fr.of_below x.o)).drawn (by first|exact mF _ _ _|exact ⟨_,rfl⟩)),I.o,by simp,λ_=>a3.o.trans q.o⟩
   ·have g4:c.drop e=[]:=List.drop_eq_nil_of_le (by omega);rw [g4] at M a7;have j3:k=0:=by simpa [aQ] using M
    subst j3;have T:=aY8 g2 V;have q:aM (dI c a j=some d):=aA (by rw [a7,aY4 a b d T]);have a0:=aA u;have P:=aA C;have I:=aA b3;clear u C b3 g4 M a7 V T;go_wp2;go_ret;exact ⟨true,d,rfl,a0.o,a9.o.trans P.o,I.o,λ_=>a3.o.trans q.o,by simp⟩
 ·have k4:(!n==p)=true:=by cases n<;>cases p<;>simp_all
  have a3:aM (kA (n,c) (p,a) j=none):=aA (by simp [kA,d4]);clear d4;go_enter Tryz.func114,Tryz.ntmps114;go_wp2;go_ret;exact ⟨false,j,rfl,e2.o,a9.o,⟨[],by simp⟩,by simp,λ_=>a3.o⟩
theorem aKj{d:TypeId}{a c m:Nat}{e:List Value}(b:w.ownsRow B d 1 (.slice (some ⟨g,0,none⟩) c a) c e)(u:m<=c):w.ownsRow B d 1 (.slice (some ⟨g,0,none⟩) m a) m (e.take m):=by
 obtain ⟨s,⟨b,_⟩|⟨j,f,i,p,k,n,t,q,r,o⟩⟩:=b
 ·simp at b
 ·obtain ⟨rfl,rfl⟩ : g=j/\a=f:=by simpa using p
  refine ⟨by simp;omega,Or.inr ⟨g,a,i,rfl,k,n,by omega,q,r,?_⟩⟩;rw [<-o,List.take_take];congr 1
  omega
structure uK(w wr:World)(B g:Nat)(dv bv:Value)(M:bG):Prop where
 blk:oV wr g
 fr:Fr B w wr
 rest:∀k,k≠g->wr.heap[k]?=w.heap[k]?
 among:wr.cell? ⟨g,0,none⟩=some dv
 term:∀x:Nat,x<60->wr.cell? ⟨g,1+x,none⟩=if (x:Int)∈M.map Prod.fst then some (.slice none 0 0) else w.cell? ⟨g,1+x,none⟩
 bound:wr.cell? ⟨g,61,none⟩=some bv
theorem uK.start{a:Value}{c:bG}(b:cB w B g dv c)(d:w.cell? ⟨g,61,none⟩=some a):uK w w B g dv a []:=
 ⟨b.blk,Fr.refl _ _,λ_ _=>rfl,b.among,λe _=>by simp,d⟩
theorem uK.step{w wr:World}{B g b:Nat}{dv c:Value}{M:bG}{p:Int×List Nd}(a:uK w wr B g dv c M)(i:B<=g)(q:b<60)(e:p.1=(b:Int))(j:∃f,wr.cell? ⟨g,1+b,none⟩=some f):uK w (wr.setCell ⟨g,1+b,none⟩ (.slice none 0 0)) B g dv c (M++[p]):=by
 obtain ⟨f,k⟩:=j;refine ⟨a.blk.set _ _,a.fr.trans (Fr.setB i a.blk _ _),λo d=>by rw [heap_setCell_other _ _ _ _ (by simpa using d)];exact a.rest o d,?_,λx m=>?_,?_⟩
 ·rw [zy wr _ _ _ (by first|(simp;done)|(simp;omega))];exact a.among
 ·by_cases n:x=b
  ·subst n;rw [World.cell?_setCell_same wr _ _ k,aI (by simp [e])]
  ·rw [zy wr _ _ _ (by first|(simp;done)|(simp;omega)),a.term x m];have:((x:Int)∈(M++[p]).map Prod.fst)↔((x:Int)∈M.map Prod.fst):=by
    rw [zn,List.mem_append];simp [e];omega
   simp only [this]
 ·rw [zy wr _ _ _ (by first|(simp;done)|(simp;omega))];exact a.bound
theorem aDw(B g:Nat)(dv:Value)(a M:bG)(w:World)(d:cB w B g dv (a++M)):Calls zx 115 #[.pointer (some ⟨g,0,none⟩),.int .i64 (a.length:Nat)] w λq R=>q=.returned (.tuple #[])/\cB R B g dv a/\Fr B w R:=by
 obtain ⟨b8,o,j⟩:=d.bound;have J:=d.ok.few;simp only [zt] at J;have G:=λb5=>d.frozen b5
 have b2:=d.low;have p:=d.apart j;have i:=aA d;have b3:=j;obtain ⟨_,⟨rfl,Z⟩|⟨e,m,b9,rfl,c0,a8,C,c6,P,O⟩⟩:=b3
 ·have a1:a=[]/\M=[]:=by
   simp only [zt] at Z;exact ⟨zw (by omega),zw (by omega)⟩
  obtain ⟨rfl,rfl⟩:=a1;have a6:=G 61;have n:=aA (cB.less (M:=[]) d d.blk (Fr.refl _ _) d.among (λx _=>by simp) (by rw [o];rfl) (bv':=.slice none 0 0) (World.ownsRow_nil _ _ _ _));clear d j p;go_enter zk,zm;go_wp2;go_loopw [13] (λk wr=>k=.int .i64 0/\wr=w) (λ_ _=>0);case atStart=>exact ⟨rfl,rfl⟩
  case round=>
   obtain ⟨rfl,rfl⟩:=hrel;go_wp2;go_end0;exact ⟨rfl,n.o⟩
 ·simp only [zt] at C O o j p P;have D:∀b,b<M.length->∃f:Nat,f<60/\(M[b]?).map Prod.fst=some (f:Int)/\w.cell? ⟨e,a.length+b,none⟩=some (.int .i64 (f:Int)):=by
   intro b t;have c4:=i.o.ok.keys M[b] (List.mem_append_right _ (zq _));refine ⟨M[b].1.toNat,by omega,by simp [t];omega,?_⟩;have:=World.ownsRow.cellAt j (a.length+b) (by omega);rw [this];rw [zn,List.getElem?_append_right (by simp)];simp [t];omega
  have H:e≠g:=by intro q;exact p (by simp [Value.ownBlock,q])
  have s:=aKj j (m:=a.length) (by omega);rw [zn,List.take_left' (by simp)] at s;have A:=aA s;have z:=aA D;have c2:(0:Int)<=(a.length:Int):=by omega
  have b0:(a.length:Int)<=((a.length+M.length:Nat):Int):=by omega
  have c3:(a.length:Int)<=(m:Int):=by omega
  have b1:(a.length:Int)<=(a.length:Int)+(M.length:Int):=by omega
  clear d j s a8 P O p D;by_cases a5:m=a.length
  ·have a2:M=[]:=zw (by omega);subst a2;subst a5;have a6:=G 61;have n:=aA (cB.less (M:=[]) i.o i.o.blk (Fr.refl _ _) i.o.among (λx _=>by simp) (by rw [o];rfl) A.o);simp only [List.length_nil,Nat.add_zero] at o;clear C z b0 b1 J;go_enter zk,zm;go_wp2;go_loopw [13] (λk wr=>k=.int .i64 0/\wr=w) (λ_ _=>0);case atStart=>exact ⟨rfl,rfl⟩
   case round=>
    obtain ⟨rfl,rfl⟩:=hrel;go_wp2;go_end0;exact ⟨rfl,n.o⟩
  ·go_enter zk,zm;go_wp2;have S:=aA (uK.start i.o o);go_loopw [13] (λk wr=>∃b:Nat,b<=M.length/\k=.int .i64 b/\uK w wr B g dv (.slice (some ⟨e,0,none⟩) (a.length+M.length) m) (M.take b)) (λk _=>M.length-(intOf k).toNat);case atStart=>exact ⟨0,zv _,rfl,S.o⟩
   case round=>
    obtain ⟨b,t,rfl,c⟩:=hrel;by_cases u:b<M.length
    ·obtain ⟨f,v,L,E⟩:=z.o b u;have c1:wr.cell? ⟨e,a.length+b,none⟩=some (.int .i64 (f:Int)):=by rw [World.cell?_of_block (c.rest e H)];exact E
     have F:∃Q,wr.cell? ⟨g,1+f,none⟩=some Q:=by
      rw [c.term f v];obtain ⟨b7,y,_⟩:=i.o.term f v;split
      ·exact ⟨_,rfl⟩
      ·exact ⟨b7,y⟩
     have a7:wr.frozen? ⟨g,1+f,none⟩=false:=by obtain ⟨V,r⟩:=c.blk;simp [World.frozen?,r]
     have T:=aA (c.step b2 v (p:=M[b]) (by simpa [u] using L) F);obtain ⟨Q,c5⟩:=F;clear E c L;go_wp2;go_roundw;case rel=>exact ⟨b+1,by omega,by go_num,by rw [zu u];exact T.o⟩
     case measure=>simp [intOf];omega
    ·have I:M.take b=M:=zo (by omega);rw [I] at c;have a4:=c.bound;have a7:wr.frozen? ⟨g,61,none⟩=false:=by
      obtain ⟨V,r⟩:=c.blk;simp [World.frozen?,r]
     have N:wr.ownsRow B 3 1 (.slice (some ⟨e,0,none⟩) a.length m) a.length (a.map λb6=>.int .i64 b6.1):=by
      obtain ⟨a0,⟨Y,_⟩|⟨X,U,W,y,a3,a9,b4⟩⟩:=A.o
      ·simp at Y
      ·obtain ⟨rfl,rfl⟩ : e=X/\m=U:=by simpa using y
       exact ⟨a0,Or.inr ⟨e,m,W,rfl,a3,by rw [c.rest e H];exact a9,b4⟩⟩
     have n:=aA (cB.less i.o c.blk c.fr c.among c.term (by rw [a4];rfl) N);clear c I N;go_wp2;go_end0;exact ⟨rfl,n.o⟩
def mP(a:List Lt):Prop:=∀l∈a,aQ l.2 1=true/\l.2.length<=60
theorem cB.len{c:bG}(d:cB w B g dv c):∃a b,w.cell? ⟨g,61,none⟩=some (.slice a c.length b):=by obtain ⟨i,e,f⟩:=d.bound;obtain ⟨a,b,rfl⟩:=aZ f;exact ⟨a,b,e⟩
theorem uL(w:World)(a b:Value)(c:TypeId):(w.alloc (.cells #[a,b] c)).cell? ⟨w.heap.size,0,none⟩=some a/\(w.alloc (.cells #[a,b] c)).cell? ⟨w.heap.size,1,none⟩=some b:=by simp
theorem aV9(B g:Nat)(p:Option Addr)(q:Nat)(a:List Lt)(m:bG)(w:World)(j:Bool)(i:Option Addr)(k:Nat)(c:List Nd)(d:cB w B g (.slice p a.length q) m)(s:dD w B p a)(O:fV w B i c)(b8:aQ c 1=true)(c0:c.length<=60)(R:mP a):Calls zx 132 #[.pointer (some ⟨g,0,none⟩),.agg #[.bool j,.slice i c.length k]] w λr X=>∃C:Nat,r=.returned (.int .i64 C)/\C<=8/\cB X B g (.slice p a.length q) m/\Fr B w X:=by
 have o:aB w (w.alloc (.cells #[.bool j,.slice i c.length k] 86)):=(Below.refl _ _).alloc (zz _) _;have t:=d.below o;have M:=s.fr (Fr.of_below o);have P:=O.fr (Fr.of_below o);have N:=aAt (w:=w) (B:=B) #[.bool j,.slice i c.length k] 86 (by decide) (by decide);have Q:=uL w (.bool j) (.slice i c.length k) 86;have c7:=s.few;have a3:aM (Fr B w (w.alloc (.cells #[.bool j,.slice i c.length k] 86))):=aA (Fr.of_below o);have c5:=t.among;have a7:=aA t;have a1:=aA M;have a8:=aA P;have L:=aA N;have H:=aA Q;have a0:=aA R;clear d s O o t M P N Q R;go_enter Tryz.func132,Tryz.ntmps132;go_wp2;generalize hW:w.alloc (.cells #[.bool j,.slice i c.length k] 86)=W at *;clear hW;go_loopw [5,14] (λb0 A wr=>∃b n:Nat,b<=a.length/\n<=b/\A=.int .i64 b/\b0=.int .i64 n/\cB wr B g (.slice p a.length q) m/\Fr B W wr) (λ_ A _=>a.length-(intOf A).toNat);case atStart=>exact ⟨0,0,zv _,zv _,rfl,rfl,a7.o,Fr.refl _ _⟩
 case round=>
  obtain ⟨b,n,c8,d0,rfl,rfl,d,e⟩:=hrel;by_cases b4:b<a.length
  ·obtain ⟨c2,d3,D,F,rfl,b5,b1,b2,z,u⟩:=(a1.o.fr e).cell b b4;obtain ⟨v,x⟩:=a0.o a[b] (zq _);obtain ⟨c3,c4,b3⟩:=d.len;have c9:(m.length:Int)<=60:=by have:=d.ok.few;omega
   have b6:=e.cell H.o.1 L.o;have b7:=e.cell H.o.2 L.o;generalize a[b]=y at *;obtain ⟨E,G⟩:=y;simp only at b1 b2 v x u z;have f:aB wr (wr.alloc (.cells #[.bool E,.slice D G.length F] 86)):=(Below.refl _ _).alloc (zz _) _;have Z:=aA (aDv B g _ m (wr.alloc (.cells #[.bool E,.slice D G.length F] 86)) j E i D k F c G (d.below f) (a8.o.fr (e.trans (Fr.of_below f))) (u.fr (Fr.of_below f)) z b8 v c0 x);have a4:=aA (e.trans (Fr.of_below f));have c6:=aC f b3;have d1:=aC f b6;have d2:=aC f b7;clear f d e u b5 z v x;go_wp2_with (first
    |(go_at_call 114;refine (aD Z).mono ?_;rintro r b9 ⟨C,c1,rfl,U,S,⟨a9,rfl⟩,-,-⟩;have Y:=aA (aDw B g _ m a9 b9 U);have a5:=aA (a4.o.trans S);clear U S)
    |(go_at_call 115;refine (aD Y).mono ?_;rintro r d4 ⟨rfl,V,T⟩;have J:=aA V;have I:=aA (a5.o.trans T);clear V T))
   ·go_roundw;case rel=>exact ⟨b+1,n+1,by omega,by omega,by go_num,by go_num,J.o,I.o⟩
    case measure=>simp [intOf];omega
   ·go_roundw;case rel=>exact ⟨b+1,n,by omega,by omega,by go_num,rfl,J.o,I.o⟩
    case measure=>simp [intOf];omega
  ·have a6:=aA d;have a2:=aA e;clear d e;go_wp2;go_ret;exact ⟨n,rfl,by omega,a6.o,a3.o.trans a2.o⟩
theorem aVa(B g:Nat)(f:Option Addr)(n:Nat)(d:List Lt)(m:bG)(w:World)(F:Option Addr)(Y:Nat)(a:List Lt)(c:cB w B g (.slice f d.length n) m)(r:dD w B f d)(q:dD w B F a)(I:mP d)(H:mP a)(a2:0<a.length):Calls zx 112 #[.pointer (some ⟨g,0,none⟩),.slice F a.length Y] w λG P=>∃p:Nat,G=.returned (.int .i64 p)/\p<a.length/\cB P B g (.slice f d.length n) m/\Fr B w P:=by
 have a4:=c.among;have a6:=r.few;have a5:=q.few;have X:=aA c;have S:=aA r;have R:=aA q;have W:=aA I;have V:=aA H;clear c r q I H;go_enter Tryz.func112,Tryz.ntmps112;go_wp2_with fail;go_quiet (fail);go_wp2;go_loopw [5,6,18] (λE a0 v wr=>∃b j o:Nat,b<=a.length/\j<a.length/\o<=9/\v=.int .i64 b/\E=.int .i64 j/\a0=.int .i64 o/\cB wr B g (.slice f d.length n) m/\Fr B w wr) (λ_ _ v _=>a.length-(intOf v).toNat);case atStart=>exact ⟨0,0,d.length+1,zv _,a2,by omega,rfl,rfl,by go_num,X.o.drawn (by first|exact mF _ _ _|exact ⟨_,rfl⟩),(Fr.refl _ _).drawn (by first|exact mF _ _ _|exact ⟨_,rfl⟩)⟩
 case round=>
  obtain ⟨b,j,o,a7,M,a8,rfl,rfl,rfl,c,e⟩:=hrel;by_cases L:b<a.length
  ·obtain ⟨E,b0,x,A,rfl,a3,Z,a1,O,s⟩:=(R.o.fr e).cell b L;obtain ⟨t,u⟩:=V.o a[b] (zq _);generalize a[b]=y at *;obtain ⟨z,C⟩:=y;simp only at Z a1 t u s O;have i:aB wr (wr.alloc (.cells #[.bool z,.slice x C.length A] 86)):=(Below.refl _ _).alloc (zz _) _;have Q:=aA (aV9 B g f n d m (wr.alloc (.cells #[.bool z,.slice x C.length A] 86)) z x A C (c.below i) (S.o.fr (e.trans (Fr.of_below i))) (s.fr (Fr.of_below i)) t u W.o);have U:=aA (e.trans (Fr.of_below i));clear i c e s a3 O t u;go_wp2_with (first
    |(go_at_call 132;refine (aD Q).mono ?_;rintro G b1 ⟨p,rfl,a9,N,J⟩;have k:=aA N;have D:=aA (U.o.trans J);clear N J))
   ·go_roundw;case rel=>exact ⟨b+1,b,p,by omega,L,by omega,by go_num,rfl,rfl,k.o,D.o⟩
    case measure=>simp [intOf];omega
   ·go_roundw;case rel=>exact ⟨b+1,j,o,by omega,M,by omega,by go_num,rfl,rfl,k.o,D.o⟩
    case measure=>simp [intOf];omega
  ·have k:=aA c;have T:=aA e;clear c e;go_wp2;go_ret;exact ⟨j,rfl,M,k.o,T.o⟩
def nX(b:Nd)(l:List Nd):Bool:=l.any λa=>decide (b=a)
theorem aKk(b:Nd)(l:List Nd):nX b l=true↔b∈l:=by
 simp only [nX,List.any_eq_true,decide_eq_true_eq];constructor
 ·rintro ⟨c,a,rfl⟩;exact a
 ·intro a;exact ⟨b,a,rfl⟩
theorem aVb(b:Nd)(l:List Nd)(a:Nat)(c:a<l.length):nX b (l.take (a+1))=(nX b (l.take a) || decide (b=l[a])):=by rw [zu c,nX,nX,List.any_append];simp
theorem aVc{b:Nd}{c:Nat}(a:nX b (l.take c)=true):nX b l=true:=by rw [aKk] at a ⊢;exact List.mem_of_mem_take a
theorem aVd(r:Option Addr)(A:Nat)(l:List Nd)(b:ByteArray)(c:Int)(w:World)(j:dV w r l):Calls zx 142 #[.slice r l.length A,.agg #[.string b,.int .i64 c]] w λC D=>∃y:Int,C=.returned (.int .i64 y)/\decide (0<=y)=nX (b,c) l/\aB w D:=by
 have H:=j.few;have m:aB w (w.alloc (.cells #[.string b,.int .i64 c] 117)):=(Below.refl _ _).alloc (zz _) _;have t:=uL w (.string b) (.int .i64 c) 117;have s:=j.below m (zz _);have o:=aA m;have p:=aA t;have z:=aA s;clear j m t s;go_enter Tryz.func142,Tryz.ntmps142;go_wp2;generalize hW:w.alloc (.cells #[.string b,.int .i64 c] 117)=W at *;clear hW;go_loopw [8] (λn wr=>∃a:Nat,a<=l.length/\n=.int .i64 a/\(∃x,wr=W.drewN x)/\nX (b,c) (l.take a)=false) (λn _=>l.length-(intOf n).toNat);case atStart=>exact ⟨0,zv _,rfl,⟨0,rfl⟩,rfl⟩
 case round=>
  obtain ⟨a,I,rfl,⟨x,rfl⟩,e⟩:=hrel;by_cases v:a<l.length
  ·obtain ⟨E,M,rfl,F,G⟩:=z.o.cell a v;have J:=p.o.1;have L:=p.o.2;have k:=xN (b,c) l[a];simp only at k;have g:=xM;have N:=xO b l[a].1 c l[a].2;have d:=aVb (b,c) l a v;rw [e,Bool.false_or] at d;have q:=aA e;clear e;by_cases f:(b,c)=l[a]
   ·rw [fA f] at k d;have i:=aA (aVc d);clear f d;go_wp2;go_quiet (fail);go_wp2;go_ret;refine ⟨_,rfl,?_,bD o.o (aR (by first|exact mF _ _ _|exact ⟨_,rfl⟩))⟩;rw [i.o];simp
   ·rw [gB f] at k d;have i:=aA d;clear f d;go_wp2;go_quiet (fail);go_wp2;go_roundw;case rel=>exact ⟨a+1,by omega,by go_num,(by first|exact mF _ _ _|exact ⟨_,rfl⟩),i.o⟩
    case measure=>simp [intOf];omega
  ·have u:l.take a=l:=zo (by omega);rw [u] at e;have q:=aA e;clear u e;go_wp2;go_ret;exact ⟨_,rfl,by rw [q.o];rfl,bD o.o (aR (by first|exact mF _ _ _|exact ⟨_,rfl⟩))⟩
theorem aVe(c:Option Addr)(f:Nat)(l:List Nd)(a:ByteArray)(b:Int)(w:World)(j:dV w c l):Calls zx 131 #[.slice c l.length f,.agg #[.string a,.int .i64 b]] w λi q=>i=.returned (.bool (nX (a,b) l))/\aB w q:=by
 have d:aB w (w.alloc (.cells #[.string a,.int .i64 b] 117)):=(Below.refl _ _).alloc (zz _) _;have n:=aA (aVd c f l a b _ (j.below d (zz _)));have o:=aA d;clear d j;go_enter Tryz.func131,Tryz.ntmps131;go_wp2_with (go_at_call 142;refine (aD n).mono ?_;rintro i s ⟨r,rfl,m,k⟩;have e:=aA m;have p:=aA (o.o.trans (k.mono (by simp)));clear m k);go_ret;exact ⟨dK (by first|exact e.o|simpa using e.o),p.o⟩
def eW(b:bG)(c:List Nd)(a:Nd):Bool:=aK a && (look b a.2).isNone && nX a c
theorem aKl(w:World)(a:Option Addr)(l b:Nat):(binOp .eql 84 (.slice a l b) (.slice none 0 0)).run zx w=.ok (.bool a.isNone) w:=by simp only [binOp];simp [run_equal_slice_nil w 84 117 a l b Tryz.underlying84]
theorem uM{W b c:World}(e:∃a,b=W.drewN a)(d:aB b c):aB W c:=by obtain ⟨a,rfl⟩:=e;exact (aR ⟨a,rfl⟩).trans d
theorem aVf(B g O F:Nat)(dv:Value)(o:bG)(s:Option Addr)(P:Nat)(d:List Nd)(b:ByteArray)(i:Int)(w:World)(v:cB w B g dv o)(y:fV w B s d)(D:w.cell? ⟨O,0,none⟩=some (.pointer (some ⟨g,0,none⟩)))(z:w.cell? ⟨F,1,none⟩=some (.slice s d.length P))(E:cZ (b,i)=true):Calls zx 130 #[.agg #[.string b,.int .i64 i],.pointer (some ⟨O,0,none⟩),.pointer (some ⟨F,0,none⟩)] w λr n=>r=.returned (.bool (eW o d (b,i)))/\aB w n:=by
 have e:aB w (w.alloc (.cells #[.string b,.int .i64 i] 117)):=(Below.refl _ _).alloc (zz _) _;have S:=uL w (.string b) (.int .i64 i) 117;have M:=aC e D;have L:=aC e z;have p:=aA (λf=>pQ b i f);by_cases m:b.toList.isEmpty=true
 ·rw [m] at p;have a0:=aLs E m;obtain ⟨U,a1⟩:=a0;simp only at U a1;obtain ⟨c,rfl⟩:=Int.eq_ofNat_of_zero_le U;obtain ⟨a5,T,x⟩:=(v.below e).term c (by omega);have Q:=aA (λf (Z:dV f s d)=>aVe s P d b (c:Int) f Z);have u:=aA e;have Y:=aA (y.fr (Fr.of_below e)).nodes;obtain ⟨A,C⟩:=S;cases hl:look o (c:Int) with
  |none=>
   rw [hl] at x;obtain rfl:a5=.slice none 0 0:=x;have a2:=λf=>aKl f none 0 0
   have q:=aA (show eW o d (b,(c:Int))=nX (b,(c:Int)) d by simp [eW,aK,m,hl]);clear v y D z e E m hl;go_enter zj,zl;go_wp2_with fail;generalize hW:w.alloc (.cells #[.string b,.int .i64 (c:Int)] 117)=W at *;clear hW;go_region_held3 (λn=>n.cell? ⟨w.heap.size,0,none⟩=some (.string b)/\n.cell? ⟨w.heap.size,1,none⟩=some (.int .i64 (c:Int))/\n.cell? ⟨O,0,none⟩=some (.pointer (some ⟨g,0,none⟩))/\n.cell? ⟨F,1,none⟩=some (.slice s d.length P)/\n.cell? ⟨g,1+c,none⟩=some (.slice none 0 0)) (go_keep)
    (first
     |(go_at_call 67;refine (aD p _).mono ?_;rintro r V ⟨rfl,a⟩;replace a:=uM (W:=W) (by first|exact ⟨0,rfl⟩|exact ⟨1,rfl⟩|exact ⟨_,rfl⟩) a;have G:=aC a A;have H:=aC a C;have I:=aC a M;have J:=aC a L;have R:=aC a T;have j:=aA a;clear a)
     |(go_at_call 131;refine (aD Q _ (Y.o.below j.o (zz _))).mono ?_;rintro r b1 ⟨rfl,k⟩;have a6:=aC k G;have a7:=aC k H;have a8:=aC k I;have a9:=aC k J;have b0:=aC k R;have X:=aA (j.o.trans (k.mono j.o.size));clear k))
   go_wp2;go_ret;exact ⟨dK q.o.symm,bD u.o X.o⟩
  |some t=>
   rw [hl] at x;obtain ⟨a3,a4,rfl,-⟩:=x;have a2:=λf=>aKl f (some a3) t.length a4
   have q:=aA (show eW o d (b,(c:Int))=false by simp [eW,hl]);clear v y D z e E m hl Q;go_enter zj,zl;go_wp2_with fail;generalize hW:w.alloc (.cells #[.string b,.int .i64 (c:Int)] 117)=W at *;clear hW;first|go_region_with (go_at_call 67;refine (aD p _).mono ?_;rintro r V ⟨rfl,a⟩;replace a:=uM (W:=W) (by first|exact ⟨0,rfl⟩|exact ⟨1,rfl⟩|exact ⟨_,rfl⟩) a;have G:=aC a A;have H:=aC a C;have I:=aC a M;have J:=aC a L;have R:=aC a T;have j:=aA a;clear a)|fail
   all_goals
    go_wp2;go_ret;exact ⟨dK q.o.symm,bD u.o j.o⟩
 ·have N:b.toList.isEmpty=false:=by simpa using m
  rw [N] at p;have q:=aA (show eW o d (b,i)=false by simp [eW,aK,N]);have u:=aA e;obtain ⟨A,C⟩:=S;clear v y D z e E m N;go_enter zj,zl;go_wp2_with fail;generalize hW:w.alloc (.cells #[.string b,.int .i64 i] 117)=W at *;clear hW;first|go_region_with (go_at_call 67;refine (aD p _).mono ?_;rintro r V ⟨rfl,a⟩;replace a:=uM (W:=W) (by first|exact ⟨0,rfl⟩|exact ⟨1,rfl⟩|exact ⟨_,rfl⟩) a;have G:=aC a A;have H:=aC a C;have I:=aC a M;have J:=aC a L;have j:=aA a;clear a)|fail
  all_goals
   go_wp2;go_ret;exact ⟨dK q.o.symm,bD u.o j.o⟩
