import Derived.Test.YtbpiopdphigodaaGreatDoorPTermP
import Derived.Deep.RegionHeld3
open Bool renaming and_eq_true→zu
open List renaming eq_nil_of_length_eq_zero→zy,length_append→zx,map_append→zs
open Nat renaming le_refl→zp,zero_le→zo
namespace Go.Proofs.YtbpiopdphigodaaGreatDoor
open _root_.Go.Proofs.Tryz renaming prog→zv,ntmps147→zr,func147→zq
open World renaming cell?_setCell_other→zz,setCell→zw,frozen?_of_block→zt
set_option maxHeartbeats 2000000
set_option maxRecDepth 100000
open Go.RowKit Go.Shelf
variable{B:Nat}{w:World}
theorem aQs(k:Option Addr)(q:Nat)(b:List Nd)(w:World)(e:cS w k b)(n:iW w):Calls zv 34 #[.slice k b.length q] w λf z=>f=.returned (.bool (gD b))/\aB w z:=by
 have d:=aRf k q b w e n;by_cases c:jI b=true
 ·cases b with
  |nil=>rw [aU2] at c;exact absurd c (by simp)
  |cons n0 r=>
   rw [c] at d;obtain ⟨D,E,rfl,l,m⟩:=e.cell 0 (by simp);simp only [List.getElem_cons_zero,Nat.zero_mul,Nat.add_zero] at l m;obtain ⟨p,t⟩:=n0;simp only at l m;have j:=aA (show gD ((p,t)::r) = !p.toList.isEmpty by simp [gD,c,aM]);have g:=aA d;have u:=aA (λC=>nH p t C);have y:=e.few;simp only [List.length_cons] at y;clear d c e n;go_enter Tryz.func34,Tryz.ntmps34;go_wp2_with (first
    |(go_at_call 63;refine (aC g).mono ?_;rintro f A ⟨rfl,a⟩;have F:=aD a l;have G:=aD a m;have i:=aA a;have x:=a.size;clear a)
    |(go_at_call 36;refine (aC u _).mono ?_;rintro f H ⟨rfl,s⟩;have v:=aA (i.o.trans (s.mono x));clear s))
   go_ret;exact ⟨cX j.o.symm,v.o⟩
 ·have o:jI b=false:=by simpa using c
  rw [o] at d;have j:=aA (show gD b=false by simp [gD,o]);have g:=aA d;clear d c o e n;go_enter Tryz.func34,Tryz.ntmps34;go_wp2_with (go_at_call 63;refine (aC g).mono ?_;rintro f A ⟨rfl,a⟩;have i:=aA a;clear a);go_ret;exact ⟨cX j.o.symm,i.o⟩
theorem aQt(B e k:Nat)(a:Int)(d:Addr)(b i:List Nd)(l:Value)(c:bD)(w:World)(f:bU w B e l c)(y:0<=a)(z:a<60)(n:fM w B (some d) b)(r:look c a=some i):Calls zv 163 #[.pointer (some ⟨e,0,none⟩),.int .i64 a,.slice (some d) b.length k] w λm s=>m=.returned (.bool (decide (i=b)))/\bU s B e l c/\Fr B w s:=by
 obtain ⟨g,rfl⟩ : ∃g:Nat,a=g:=⟨a.toNat,by omega⟩;obtain ⟨C,A,p⟩:=f.term g (by omega);rw [r] at p;obtain ⟨v,x,rfl,o⟩:=p;have t:=aA (aGb (some v) (some d) x k i b w o.nodes n.nodes);have u:=aA f;clear f n o r;go_enter Tryz.func163,Tryz.ntmps163;go_wp2_with (go_at_call 81;refine (aC t).mono ?_;rintro m D ⟨rfl,q⟩;have j:=aA q;clear q);go_ret;exact ⟨rfl,u.o.drawn j.o,(Fr.refl _ _).drawn j.o⟩
theorem aQu(B b o:Nat)(c:Int)(j:Addr)(e:List Nd)(q:Value)(i:bD)(w:World)(a:bU w B b q i)(R:0<=c)(S:c<60)(r:fM w B (some j) e)(l:look i c=none)(t:aN e 1=true)(H:e.length<=60):Calls zv 163 #[.pointer (some ⟨b,0,none⟩),.int .i64 c,.slice (some j) e.length o] w λG v=>G=.returned (.bool true)/\bU v B b q (i++[(c,e)])/\Fr B w v:=by
 obtain ⟨P,I,J,L,M⟩:=info_parts sI;obtain ⟨d,rfl⟩ : ∃d:Nat,c=d:=⟨c.toNat,by omega⟩;obtain ⟨Q,Z,s⟩:=a.term d (by omega);rw [l] at s;obtain rfl:Q=.slice none 0 0:=s;obtain ⟨F,N,g⟩:=a.bound;have U:=a.frozen (1+d);have O:=a.frozen 61;have k:=a.apart g;have X:=a.ok.few;have Y:=a.low;have W:=a.lt;have z:=aA a;have u:=yY g (p:=⟨b,1+d,none⟩) k (.slice (some j) e.length o);have C:=aA g;have A:=aA r;have y:=aA l;have D:=aA t;have n:=aA k;clear a g r l t k;go_enter Tryz.func163,Tryz.ntmps163;go_wp2_with (first
  |(at_builtin;refine wpList_append_own _ rfl _ _ 33 rfl B 3 P (.int .i64 0) 1 8 Tryz.underlying33 I J L M rfl (by decide) _ _ _ rfl (u.alloc _) ⟨w.heap.size,0,none⟩ 1 1 [.int .i64 (d:Int)] (by rfl) rfl ?d1 ?d2 ?d3 ?d4 ?d5 ?_)
  |go_in)
 case d1=>exact tS _ _ _ _ (by simp [zw])
 case d2=>exact aEa _
 case d3=>unfold maxLen;omega
 case d4=>omega
 case d5=>simp [zw];omega
 intro a0 x m f _;obtain ⟨a1,a2,rfl⟩:=aY m;have E:=aA (z.o.more (by omega) y.o A.o D.o H C.o f m);have T:x.cell? ⟨b,61,none⟩=some F:=f.cell (aD ((Below.refl _ _).alloc (zp _) _) (by rw [zz w _ _ _ (by first|(simp;done)|(simp;omega))];exact N)) n.o;have V:x.frozen? ⟨b,61,none⟩=false:=by rw [zt (f.block b (by simp [zw];omega) n.o),zt (a:=⟨b,61,none⟩) (heap_alloc_old _ _ (show b<_ by simp [zw];omega)),World.frozen?_setCell];exact O
 clear m f u;go_wp2;go_ret;exact ⟨rfl,E.o⟩
theorem aQv(y:Option Addr)(F:Nat)(a:List Nd)(d i:Nat)(w:World)(C:cS w y a)(Q:a.length<=60)(J:aN (a.drop d) (1+i)=true)(I:d<=a.length):Calls zv 162 #[.slice y a.length F,.int .i64 d] w λq M=>q=.returned (.int .i64 ((d+aL (a.drop d) 1:Nat)))/\aB w M:=by
 go_enter Tryz.func162,Tryz.ntmps162;go_wp2;go_loopw [1,5] (λt L wr=>∃b c:Nat,b<=a.length/\c<=1+5*b/\t=.int .i64 b/\L=.int .i64 c/\aB w wr/\d+aL (a.drop d) 1=b+aL (a.drop b) c/\aN (a.drop b) (c+i)=true) (λt _ _=>a.length-(intOf t).toNat);case atStart=>exact ⟨d,1,I,by omega,rfl,rfl,Below.refl _ _,rfl,J⟩
 case round=>
  obtain ⟨b,c,R,S,rfl,rfl,e,l,f⟩:=hrel;cases c with
  |zero=>
   have o:=aA l;have n:=aA e;clear l e f;go_wp2;go_ret;exact ⟨vB (by rw [o.o];simp),n.o⟩
  |succ c=>
   have r:b<a.length:=aI0 (q:=c+i) (by rw [<-f];congr 1;omega);obtain ⟨P,V,rfl,z,A⟩:=C.cell b r;have G:=aD e z;have H:=aD e A;rw [aTt a b c r] at l;rw [show c+1+i=(c+i)+1 by omega,aCi a b (c+i) r,zu] at f;obtain ⟨s,f⟩:=f;generalize a[b]=nd at *;obtain ⟨u,v⟩:=nd;simp only at G H;clear z A C;have D:=e.size;have n:=aA e;have o:=aA l;have x:=aA f;have m:=aA (λO=>aBz u v O);clear e l f;by_cases g:u.toList.isEmpty=true
   ·have j:aI (aX (u,v)=0):=aA (nL g);rw [aG g] at m;clear s g;go_wp2_with (go_at_call 92;refine (aC m _).mono ?_;rintro q N ⟨rfl,k⟩;have p:=aA (n.o.trans (k.mono D));clear k);go_roundw;case rel=>exact ⟨b+1,c,by omega,by omega,by go_num,by go_num,p.o,by rw [o.o,j.o];simp;omega,by have:=x.o;rw [j.o] at this;rw [<-this];congr 1⟩
    case measure=>simp [intOf];omega
   ·obtain ⟨T,U,E⟩:=aUk s g;have j:=aA E;rw [aF g] at m;clear s E g;go_wp2_with (go_at_call 92;refine (aC m _).mono ?_;rintro q N ⟨rfl,k⟩;have p:=aA (n.o.trans (k.mono D));clear k);go_roundw;case rel=>exact ⟨b+1,c+v.toNat,by omega,by omega,by go_num,by go_num,p.o,by rw [o.o,j.o];omega,by have:=x.o;rw [j.o] at this;rw [<-this];congr 1;omega⟩
    case measure=>simp [intOf];omega
theorem cS.sub{e c:Nat}{d:List Nd}(f:cS w (some ⟨e,c,none⟩) d)(a i:Nat):cS w (some ⟨e,c+a*2,none⟩) ((d.drop a).take i):=by
 have p:((d.drop a).take i).length<=d.length-a:=by simp;omega
 refine ⟨by have:=f.few;omega,λb n=>?_,λb n=>?_⟩
 ·have g:a+b<d.length:=by omega
  have:=f.short (a+b) g;simpa using this
 ·have g:a+b<d.length:=by omega
  obtain ⟨j,o,k,l,m⟩:=f.cell (a+b) g;obtain ⟨rfl,rfl⟩ : e=j/\c=o:=by simpa using k
  refine ⟨e,c+a*2,rfl,?_,?_⟩
  ·rw [show c+a*2+b*2=c+(a+b)*2 by omega];simpa using l
  ·rw [show c+a*2+b*2+1=c+(a+b)*2+1 by omega];simpa using m
theorem fM.sub{a c:Nat}{f:List Nd}(d:fM w B (some ⟨a,c,none⟩) f)(b g:Nat):fM w B (some ⟨a,c+b*2,none⟩) ((f.drop b).take g):=
 ⟨d.nodes.sub b g,λi e=>by simp at e;subst e;exact d.low ⟨a,c,none⟩ rfl⟩
theorem yO(c:Array Value)(a:TypeId)(d:a≠153)(e:a≠3):lF (w.alloc (.cells c a)) B w.heap.size:=
 Or.inr λg f i b=>by
  rw [heap_alloc_new] at b;simp at b;rw [<-b.2.1];exact ⟨d,e⟩
theorem aGf{l:Program}{n e g i:Nat}{d q r:Value}{p:Value}{s k:bD}{m:Array Value}(_:bU w B e d s)(z:lF w B g)(A:lF w B i)(u:w.cell? ⟨g,1,none⟩=some q)(v:w.cell? ⟨i,1,none⟩=some r)
  (t:∀b,(∃j,b=w.drewN j)->Calls l n m b λc a=>c=.returned p/\bU a B e d k/\Fr B b a):∀b,(∃j,b=w.drewN j)->Calls l n m b λc a=>c=.returned p/\bU a B e d k/\Fr B w a/\a.cell? ⟨g,1,none⟩=some q/\a.cell? ⟨i,1,none⟩=some r:=by
 intro b o;refine (t b o).mono ?_;rintro c a ⟨rfl,y,x⟩;have f:Fr B w a:=((Fr.refl _ _).drawn o).trans x;exact ⟨rfl,y,f,f.cell u z,f.cell v A⟩
theorem aBu(B I:Nat)(a4:Value)(i:bD)(w:World)(l n:Bool)(v r:Option Addr)(H g:Nat)(c a:List Nd)(s:bU w B I a4 i)(e9:fM w B v c)(f2:fM w B r a)(k3:a.length<=g)(j8:aN c 1=true)(j9:aN a 1=true)(k1:c.length<=60)(i5:a.length<=60):Calls zv 146 #[.pointer (some ⟨I,0,none⟩),.agg #[.bool l,.slice v c.length H],.agg #[.bool n,.slice r a.length g]] w λy q=>∃(d8:Bool) (c1:bD),y=.returned (.bool d8)/\bU q B I a4 c1/\Fr B w q/\(∃a3,c1=i++a3)/\(d8=true->jM (l,c) (n,a) i=some c1)/\(d8=false->jM (l,c) (n,a) i=none):=by
 have a5:aB w ((w.alloc (.cells #[.bool l,.slice v c.length H] 41)).alloc (.cells #[.bool n,.slice r a.length g] 41)):=((Below.refl _ _).alloc (zp _) _).alloc (by simp) _;have f4:=s.below a5;have f0:=e9.fr (Fr.of_below a5);have f3:=f2.fr (Fr.of_below a5);have f5:lF ((w.alloc (.cells #[.bool l,.slice v c.length H] 41)).alloc (.cells #[.bool n,.slice r a.length g] 41)) B (w.heap.size+1):=by have:=yO (w:=w.alloc (.cells #[.bool l,.slice v c.length H] 41)) (B:=B) #[.bool n,.slice r a.length g] 41 (by decide) (by decide);simpa using this
 have f7:((w.alloc (.cells #[.bool l,.slice v c.length H] 41)).alloc (.cells #[.bool n,.slice r a.length g] 41)).cell? ⟨w.heap.size+1,1,none⟩=some (.slice r a.length g):=by simp
 have a9:aI (Fr B w ((w.alloc (.cells #[.bool l,.slice v c.length H] 41)).alloc (.cells #[.bool n,.slice r a.length g] 41))):=aA (Fr.of_below a5);have e2:=aA f4;have h5:=aA f0;have h6:=aA f3;have e4:=aA f5;have h7:=aA f7;clear s e9 f2 a5 f4 f0 f3 f5 f7;by_cases d4:l=n
 ·subst d4;have a2:aI (jM (l,c) (l,a) i=dG c a i):=aA (by simp [jM]);go_enter Tryz.func146,Tryz.ntmps146;go_wp2;generalize hW:((w.alloc (.cells #[.bool l,.slice v c.length H] 41)).alloc (.cells #[.bool l,.slice r a.length g] 41))=W at *;have e5:=aA hW;clear hW;go_loopw [7,19] (λE d5 wr=>∃(e b j:Nat) (d:bD),e<=c.length/\b<=a.length/\d5=.int .i64 e/\E=.int .i64 b/\bU wr B I a4 d/\Fr B W wr/\(∃a3,d=i++a3)/\aN (c.drop e) j=true/\aN (a.drop b) j=true/\dG c a i=dG (c.drop e) (a.drop b) d)
   (λ_ d5 _=>c.length-(intOf d5).toNat)
  case atStart=>exact ⟨0,0,1,i,zo _,zo _,rfl,rfl,e2.o,Fr.refl _ _,⟨[],by simp⟩,j8,j9,rfl⟩
  case round=>
   obtain ⟨e,b,j,d,k8,g2,rfl,rfl,s,z,b3,L,U,a7⟩:=hrel;by_cases T:e<c.length
   ·obtain ⟨j,rfl⟩ : ∃j7,j=j7+1:=by
     cases j with
     |zero=>rw [aAd c e T] at L;simp at L
     |succ j=>exact ⟨j,rfl⟩
    have c3:b<a.length:=aI0 U;have f1:=h5.o.fr z;have c2:=h6.o.fr z;obtain ⟨k2,l1,rfl,i6,i8⟩:=f1.nodes.cell e T;obtain ⟨x,D,rfl,e7,e8⟩:=c2.nodes.cell b c3;have c7:wr.cell? ⟨w.heap.size+1,1,none⟩=some (.slice (some ⟨x,D,none⟩) a.length g):=z.cell h7.o e4.o;have c4:=λE=>aTv c a e b d E T
    have c6:=aTw c a e b d T;have g6:=aTx c a e b d T c3;have a8:=L;rw [aCi c e j T,zu] at a8;obtain ⟨g7,a8⟩:=a8;have c9:aN (a.drop b) (1+j)=true:=by rw [<-U];congr 1;omega
    have g9:=aCa (a.drop b) 1 j c9;have d0:=U;rw [aCi a b j c3,zu] at d0;generalize hnd:c[e]=nd at *;obtain ⟨m,f⟩:=nd;simp only at i6 i8 c4 c6;have a1:=aA a7;have e1:=aA c4;have h9:=aA c6;have e3:=aA g6;have c0:=aA a8;have i3:=aA d0;have b9:=aA g9;have i0:=aA g7;have G:=aA b3;have Z:=aA s;have O:=aA z;have e0:=aA c2;have i4:=aA c9;have h0:=z.size;have l0:w.heap.size+2<=wr.heap.size:=by rw [<-e5.o] at h0;simpa using h0
    clear L a8 U c9 d0 g9 a7 c4 c6 g6 g7 b3 s z c2 f1 hnd;have X:=aA (λF=>nH m f F);have f6:aB wr (wr.alloc (.cells #[.string m,.int .i64 f] 43)):=(Below.refl _ _).alloc (zp _) _;have k0:=aA f6;clear f6;by_cases M:m.toList.isEmpty=true
    ·rw [M] at X;have j6:=aHz i0.o M;obtain ⟨d2,d3⟩:=j6;simp only at d2 d3;have e6:aI (aX (m,f)=0):=aA (nL M);have P:aI (aM (m,f)=true):=aA M;clear M;obtain ⟨p,S⟩ : ∃p,p=b+aL (a.drop b) 1:=⟨_,rfl⟩;have g0:=rS (a.drop b) 1;have g1:=aTh (a.drop b) 0 (by intro j0;have:=congrArg List.length j0;simp at this;omega);simp at g0 g1;have k5:b<p:=by omega
     have g3:p<=a.length:=by omega
     have g5:((a.drop b).take (aL (a.drop b) 1)).length=p-b:=by simp;omega
     have j2:(b:Int)<=(p:Int):=by omega
     have k6:(p:Int)<=(g:Int):=by omega
     have k7:¬g=b:=by omega
     have b8:=aA g5;have b0:=aA S;have h4:=aA (λF (j5:cS F (some ⟨x,D,none⟩) a)=>by have:=aQv (some ⟨x,D,none⟩) g a b j F j5 i5 i4.o g2;rw [<-S] at this;exact this);clear S g0 g1 g5;go_wp2_with (first
      |(go_at_call 36;refine (aC X _).mono ?_;rintro y d9 ⟨rfl,t⟩;obtain ⟨d6,d7,k⟩:=fY t;have u:=aA k;have i2:aI (Fr B _ d9):=aA (Fr.of_below t);have j4:=k.size;have c8:=aD k c7;clear t k)
      |(go_at_call 162;refine (aC h4 _ ((e0.o.fr (Fr.of_below u.o)).nodes)).mono ?_;rintro y h2 ⟨rfl,R⟩;have l2:=aD R d6;have h1:=aD R d7;have g8:=aD R c8;have b2:=aA (u.o.trans (R.mono j4));have i1:=aA ((i2.o).trans (Fr.of_below R));clear R))
     have b5:lF h2 B wr.heap.size:=by have j1:=yO (w:=wr) (B:=B) #[.string m,.int .i64 f] 43 (by decide) (by decide);exact j1.fr (by simp) (i1.o)
     have b6:lF h2 B (w.heap.size+1):=(e4.o.fr (by rw [<-e5.o];simp) O.o).fr (by omega) (Fr.of_below b2.o);have Q:=Z.o.below b2.o;have b4:=(e0.o.fr (Fr.of_below b2.o)).sub b (aL (a.drop b) 1);have b7:=aA (O.o.trans (Fr.of_below b2.o));cases hl:look d f with
     |none=>
      have N:=aA (aGf Q b5 b6 h1 g8 (λF a6=>by have:=aQu B I (g-b) f ⟨x,D+b*2,none⟩ ((a.drop b).take (aL (a.drop b) 1)) a4 d F (Q.drawn a6) d2 d3 (b4.fr ((Fr.refl _ _).drawn a6)) hl b9.o.1 (by rw [b8.o];omega);rw [b8.o] at this;exact this));have b1:=aA hl;clear b5 b6 Q b4 hl;go_region_held3 (λq=>q.cell? ⟨wr.heap.size,1,none⟩=some (.int .i64 f)/\q.cell? ⟨w.heap.size+1,1,none⟩=some (.slice (some ⟨x,D,none⟩) a.length g)) (go_keep) ((go_at_call 163;refine (aC N _ (by first|exact ⟨0,rfl⟩|exact ⟨_,rfl⟩|exact kG _ _ _)).mono ?_;rintro y h3 ⟨rfl,C,A,f8,f9⟩;have a0:=aA C;have Y:=aA A;clear C A));have o:aI (dG c a i=dG (c.drop (e+1)) (a.drop p) (d++[(f,(a.drop b).take (aL (a.drop b) 1))])):=aA (by rw [a1.o,h9.o P.o b1.o,b0.o]);go_wp2;go_roundw;case rel=>exact ⟨e+1,p,j,d++[(f,(a.drop b).take (aL (a.drop b) 1))],by omega,g3,by go_num,rfl,a0.o,b7.o.trans Y.o,(by obtain ⟨a3,s⟩:=G.o;exact ⟨a3++[(f,(a.drop b).take (aL (a.drop b) 1))],by rw [s];simp⟩),(by have:=c0.o;rw [e6.o] at this;exact this),(by have:=b9.o.2;rw [List.drop_drop,<-b0.o] at this;exact this),o.o⟩
      case measure=>simp [intOf];omega
     |some E=>
      have N:=aA (aGf Q b5 b6 h1 g8 (λF a6=>by have:=aQt B I (g-b) f ⟨x,D+b*2,none⟩ ((a.drop b).take (aL (a.drop b) 1)) E a4 d F (Q.drawn a6) d2 d3 (b4.fr ((Fr.refl _ _).drawn a6)) hl;rw [b8.o] at this;exact this));have b1:=aA hl;clear b5 b6 Q b4 hl;by_cases V:E=(a.drop b).take (aL (a.drop b) 1)
      ·rw [fH V] at N;have o:aI (dG c a i=dG (c.drop (e+1)) (a.drop p) d):=aA (by rw [a1.o,e1.o E P.o b1.o,aG V,b0.o]);clear V;go_region_held3 (λq=>q.cell? ⟨wr.heap.size,1,none⟩=some (.int .i64 f)/\q.cell? ⟨w.heap.size+1,1,none⟩=some (.slice (some ⟨x,D,none⟩) a.length g)) (go_keep) ((go_at_call 163;refine (aC N _ (by first|exact ⟨0,rfl⟩|exact ⟨_,rfl⟩|exact kG _ _ _)).mono ?_;rintro y h3 ⟨rfl,C,A,f8,f9⟩;have a0:=aA C;have Y:=aA A;clear C A));go_wp2;go_roundw;case rel=>exact ⟨e+1,p,j,d,by omega,g3,by go_num,rfl,a0.o,b7.o.trans Y.o,G.o,(by have:=c0.o;rw [e6.o] at this;exact this),(by have:=b9.o.2;rw [List.drop_drop,<-b0.o] at this;exact this),o.o⟩
       case measure=>simp [intOf];omega
      ·rw [gH V] at N;have o:aI (dG c a i=none):=aA (by rw [a1.o,e1.o E P.o b1.o,aF V]);clear V;go_region_held3 (λq=>q.cell? ⟨wr.heap.size,1,none⟩=some (.int .i64 f)/\q.cell? ⟨w.heap.size+1,1,none⟩=some (.slice (some ⟨x,D,none⟩) a.length g)) (go_keep) ((go_at_call 163;refine (aC N _ (by first|exact ⟨0,rfl⟩|exact ⟨_,rfl⟩|exact kG _ _ _)).mono ?_;rintro y h3 ⟨rfl,C,A,f8,f9⟩;have a0:=aA C;have Y:=aA A;clear C A));go_wp2;go_ret;exact ⟨false,d,rfl,a0.o,a9.o.trans (b7.o.trans Y.o),G.o,by simp,λ_=>a2.o.trans o.o⟩
    ·have d1:m.toList.isEmpty=false:=by simpa using M
     rw [d1] at X;have P:aI (aM (m,f)=false):=aA d1;clear M d1;have I:=tO;have k9:=tQ m a[b].1 f a[b].2;have c5:=tP (m,f) a[b];simp only at c5;have j2:(b:Int)<(a.length:Int):=by omega
     by_cases J:(m,f)=a[b]
     ·rw [fH J] at c5;have o:aI (dG c a i=dG (c.drop (e+1)) (a.drop (b+1)) d):=aA (by rw [a1.o,e3.o P.o,aG J]);have h8:=aA J;clear J;go_wp2_with (first
       |(go_at_call 36;refine (aC X _).mono ?_;rintro y d9 ⟨rfl,t⟩;obtain ⟨d6,d7,k⟩:=fY t;have u:=aA k;have c8:=aD k c7;have i7:=aD k e7;have i9:=aD k e8;clear t k))
      go_quiet (fail);go_wp2;go_roundw;case rel=>exact ⟨e+1,b+1,j+aX (m,f),d,by omega,by omega,by go_num,by go_num,(Z.o.below u.o).drawn (by first|exact kG _ _ _|exact ⟨_,rfl⟩),(O.o.trans (Fr.of_below u.o)).drawn (by first|exact kG _ _ _|exact ⟨_,rfl⟩),G.o,c0.o,(by have:=i3.o.2;rw [<-h8.o] at this;exact this),o.o⟩
      case measure=>simp [intOf];omega
     ·rw [gH J] at c5;have o:aI (dG c a i=none):=aA (by rw [a1.o,e3.o P.o,aF J]);clear J;go_wp2_with (first
       |(go_at_call 36;refine (aC X _).mono ?_;rintro y d9 ⟨rfl,t⟩;obtain ⟨d6,d7,k⟩:=fY t;have u:=aA k;have c8:=aD k c7;have i7:=aD k e7;have i9:=aD k e8;clear t k))
      go_quiet (fail);go_wp2;go_ret;exact ⟨false,d,rfl,(Z.o.below u.o).drawn (by first|exact kG _ _ _|exact ⟨_,rfl⟩),a9.o.trans ((O.o.trans (Fr.of_below u.o)).drawn (by first|exact kG _ _ _|exact ⟨_,rfl⟩)),G.o,by simp,λ_=>a2.o.trans o.o⟩
   ·have g4:c.drop e=[]:=List.drop_eq_nil_of_le (by omega);rw [g4] at L a7;have j3:j=0:=by simpa [aN] using L
    subst j3;have S:=aTy g2 U;have o:aI (dG c a i=some d):=aA (by rw [a7,aTu a b d S]);have Z:=aA s;have O:=aA z;have G:=aA b3;clear s z b3 g4 L a7 U S;go_wp2;go_ret;exact ⟨true,d,rfl,Z.o,a9.o.trans O.o,G.o,λ_=>a2.o.trans o.o,by simp⟩
 ·have k4:(!l==n)=true:=by cases l<;>cases n<;>simp_all
  have a2:aI (jM (l,c) (n,a) i=none):=aA (by simp [jM,d4]);clear d4;go_enter Tryz.func146,Tryz.ntmps146;go_wp2;go_ret;exact ⟨false,i,rfl,e2.o,a9.o,⟨[],by simp⟩,by simp,λ_=>a2.o⟩
theorem aGg{e:TypeId}{b a d m:Nat}{f:List Value}(c:w.ownsRow B e 1 (.slice (some ⟨b,0,none⟩) d a) d f)(t:m<=d):w.ownsRow B e 1 (.slice (some ⟨b,0,none⟩) m a) m (f.take m):=by
 obtain ⟨r,⟨c,_⟩|⟨j,g,i,o,k,l,s,p,q,n⟩⟩:=c
 ·simp at c
 ·obtain ⟨rfl,rfl⟩ : b=j/\a=g:=by simpa using o
  refine ⟨by simp;omega,Or.inr ⟨b,a,i,rfl,k,l,by omega,p,q,?_⟩⟩;rw [<-n,List.take_take];congr 1
  omega
structure sZ(w wr:World)(B g:Nat)(dv bv:Value)(M:bD):Prop where
 blk:nM wr g
 fr:Fr B w wr
 rest:∀k,k≠g->wr.heap[k]?=w.heap[k]?
 among:wr.cell? ⟨g,0,none⟩=some dv
 term:∀x:Nat,x<60->wr.cell? ⟨g,1+x,none⟩=if (x:Int)∈M.map Prod.fst then some (.slice none 0 0) else w.cell? ⟨g,1+x,none⟩
 bound:wr.cell? ⟨g,61,none⟩=some bv
theorem sZ.start{a:Nat}{c b:Value}{e:bD}(d:bU w B a c e)(f:w.cell? ⟨a,61,none⟩=some b):sZ w w B a c b []:=
 ⟨d.blk,Fr.refl _ _,λ_ _=>rfl,d.among,λg _=>by simp,f⟩
theorem sZ.step{w wr:World}{B b c:Nat}{e d:Value}{M:bD}{p:Int×List Nd}(a:sZ w wr B b e d M)(j:B<=b)(q:c<60)(g:p.1=(c:Int))(k:∃i,wr.cell? ⟨b,1+c,none⟩=some i):sZ w (wr.setCell ⟨b,1+c,none⟩ (.slice none 0 0)) B b e d (M++[p]):=by
 obtain ⟨i,l⟩:=k;refine ⟨a.blk.set _ _,a.fr.trans (Fr.setB j a.blk _ _),λo f=>by rw [heap_setCell_other _ _ _ _ (by simpa using f)];exact a.rest o f,?_,λx m=>?_,?_⟩
 ·rw [zz wr _ _ _ (by first|(simp;done)|(simp;omega))];exact a.among
 ·by_cases n:x=c
  ·subst n;rw [World.cell?_setCell_same wr _ _ l,aG (by simp [g])]
  ·rw [zz wr _ _ _ (by first|(simp;done)|(simp;omega)),a.term x m];have:((x:Int)∈(M++[p]).map Prod.fst)↔((x:Int)∈M.map Prod.fst):=by
    rw [zs,List.mem_append];simp [g];omega
   simp only [this]
 ·rw [zz wr _ _ _ (by first|(simp;done)|(simp;omega))];exact a.bound
theorem aBv(B g:Nat)(p:Value)(a M:bD)(w:World)(d:bU w B g p (a++M)):Calls zv 147 #[.pointer (some ⟨g,0,none⟩),.int .i64 (a.length:Nat)] w λq R=>q=.returned (.tuple #[])/\bU R B g p a/\Fr B w R:=by
 obtain ⟨b8,n,j⟩:=d.bound;have J:=d.ok.few;simp only [zx] at J;have G:=λb5=>d.frozen b5
 have b2:=d.low;have o:=d.apart j;have i:=aA d;have b3:=j;obtain ⟨_,⟨rfl,Z⟩|⟨e,l,b9,rfl,c0,a8,C,c6,P,O⟩⟩:=b3
 ·have a1:a=[]/\M=[]:=by
   simp only [zx] at Z;exact ⟨zy (by omega),zy (by omega)⟩
  obtain ⟨rfl,rfl⟩:=a1;have a6:=G 61;have m:=aA (bU.less (M:=[]) d d.blk (Fr.refl _ _) d.among (λx _=>by simp) (by rw [n];rfl) (bv':=.slice none 0 0) (World.ownsRow_nil _ _ _ _));clear d j o;go_enter zq,zr;go_wp2;go_loopw [13] (λk wr=>k=.int .i64 0/\wr=w) (λ_ _=>0);case atStart=>exact ⟨rfl,rfl⟩
  case round=>
   obtain ⟨rfl,rfl⟩:=hrel;go_wp2;go_end0;exact ⟨rfl,m.o⟩
 ·simp only [zx] at C O n j o P;have D:∀b,b<M.length->∃f:Nat,f<60/\(M[b]?).map Prod.fst=some (f:Int)/\w.cell? ⟨e,a.length+b,none⟩=some (.int .i64 (f:Int)):=by
   intro b t;have c4:=i.o.ok.keys M[b] (List.mem_append_right _ (List.getElem_mem _));refine ⟨M[b].1.toNat,by omega,by simp [t];omega,?_⟩;have:=World.ownsRow.cellAt j (a.length+b) (by omega);rw [this];rw [zs,List.getElem?_append_right (by simp)];simp [t];omega
  have H:e≠g:=by intro q;exact o (by simp [Value.ownBlock,q])
  have s:=aGg j (m:=a.length) (by omega);rw [zs,List.take_left' (by simp)] at s;have A:=aA s;have z:=aA D;have c2:(0:Int)<=(a.length:Int):=by omega
  have b0:(a.length:Int)<=((a.length+M.length:Nat):Int):=by omega
  have c3:(a.length:Int)<=(l:Int):=by omega
  have b1:(a.length:Int)<=(a.length:Int)+(M.length:Int):=by omega
  clear d j s a8 P O o D;by_cases a5:l=a.length
  ·have a2:M=[]:=zy (by omega);subst a2;subst a5;have a6:=G 61;have m:=aA (bU.less (M:=[]) i.o i.o.blk (Fr.refl _ _) i.o.among (λx _=>by simp) (by rw [n];rfl) A.o);simp only [List.length_nil,Nat.add_zero] at n;clear C z b0 b1 J;go_enter zq,zr;go_wp2;go_loopw [13] (λk wr=>k=.int .i64 0/\wr=w) (λ_ _=>0);case atStart=>exact ⟨rfl,rfl⟩
   case round=>
    obtain ⟨rfl,rfl⟩:=hrel;go_wp2;go_end0;exact ⟨rfl,m.o⟩
  ·go_enter zq,zr;go_wp2;have S:=aA (sZ.start i.o n);go_loopw [13] (λk wr=>∃b:Nat,b<=M.length/\k=.int .i64 b/\sZ w wr B g p (.slice (some ⟨e,0,none⟩) (a.length+M.length) l) (M.take b)) (λk _=>M.length-(intOf k).toNat);case atStart=>exact ⟨0,zo _,rfl,S.o⟩
   case round=>
    obtain ⟨b,t,rfl,c⟩:=hrel;by_cases u:b<M.length
    ·obtain ⟨f,v,L,E⟩:=z.o b u;have c1:wr.cell? ⟨e,a.length+b,none⟩=some (.int .i64 (f:Int)):=by rw [World.cell?_of_block (c.rest e H)];exact E
     have F:∃Q,wr.cell? ⟨g,1+f,none⟩=some Q:=by
      rw [c.term f v];obtain ⟨b7,y,_⟩:=i.o.term f v;split
      ·exact ⟨_,rfl⟩
      ·exact ⟨b7,y⟩
     have a7:wr.frozen? ⟨g,1+f,none⟩=false:=by obtain ⟨V,r⟩:=c.blk;simp [World.frozen?,r]
     have T:=aA (c.step b2 v (p:=M[b]) (by simpa [u] using L) F);obtain ⟨Q,c5⟩:=F;clear E c L;go_wp2;go_roundw;case rel=>exact ⟨b+1,by omega,by go_num,by rw [List.take_succ_eq_append_getElem u];exact T.o⟩
     case measure=>simp [intOf];omega
    ·have I:M.take b=M:=List.take_of_length_le (by omega);rw [I] at c;have a4:=c.bound;have a7:wr.frozen? ⟨g,61,none⟩=false:=by
      obtain ⟨V,r⟩:=c.blk;simp [World.frozen?,r]
     have N:wr.ownsRow B 3 1 (.slice (some ⟨e,0,none⟩) a.length l) a.length (a.map λb6=>.int .i64 b6.1):=by
      obtain ⟨a0,⟨Y,_⟩|⟨X,U,W,y,a3,a9,b4⟩⟩:=A.o
      ·simp at Y
      ·obtain ⟨rfl,rfl⟩ : e=X/\l=U:=by simpa using y
       exact ⟨a0,Or.inr ⟨e,l,W,rfl,a3,by rw [c.rest e H];exact a9,b4⟩⟩
     have m:=aA (bU.less i.o c.blk c.fr c.among c.term (by rw [a4];rfl) N);clear c I N;go_wp2;go_end0;exact ⟨rfl,m.o⟩
