import Derived.Test.YthjhkgohninpcaaGreatDoorVRes1M
import Derived.Deep.RegionWith
import Derived.Test.YthjhkgohninpcaaGreatDoorWCon0M
open List renaming map_append→zx,take_succ_eq_append_getElem→zs,length_map→zn,getElem_append_right→zm,map→zk,map_map→zj,map_congr_left→zi,map_cons→zg,length_append→zf,take_length→zc
open Nat renaming le_refl→zw,add_assoc→zh
open Or renaming inr→z0,inl→z2
open Prod renaming fst→zy,snd→z1
namespace Go.Proofs.YthjhkgohninpcaaGreatDoor
open Calls renaming quiet_of_same→zz
open IntKind renaming i64→zv
open _root_.Go.Proofs.Tryz renaming ntmps16→zu,ntmps70→zt,func16→zq,func70→zo,prog→zl,ntmps30→ze,ntmps69→zd,func30→zb,func69→za
open Value renaming int→zr,slice→zp
open Go.RowKit Go.Shelf Go.WideMaps
set_option maxHeartbeats 8000000
set_option maxRecDepth 100000
def aC6(c d:List Lt)(e f:Int)(a b:Nat):Prop:=∃(g:a<c.length) (i:b<d.length),e=a/\f=b/\c[a].1≠d[b].1
def gQ(a c:List Lt)(i j:Int)(f:List Lt)(g:Bool)(e:Int):Prop:=
 (¬(cG a=true/\cG c=true)/\f=[]/\g=false/\e=5)\/
 (cG a=true/\cG c=true/\(((¬∃b d,aC6 a c i j b d)/\f=[]/\g=false/\e=6)\/
  ∃b d,aC6 a c i j b d/\fL (aQ 0 (a.getD b default).2++aQ 1 (c.getD d default).2) 0 (a.getD b default).2.length (bJ 0 [(a,b),(c,d)]) f g e))
def aC7(c:List Lt)(d e:Int)(a b:Nat):Prop:=∃(f:a<c.length) (g:b<c.length),d=a/\e=b/\a<b/\c[a].1=c[b].1
def jF(a:List Lt)(g i:Int)(e:List Lt)(f:Bool)(d:Int):Prop:=
 (cG a=false/\e=[]/\f=false/\d=5)\/
 (cG a=true/\(((¬∃b c,aC7 a g i b c)/\e=[]/\f=false/\d=6)\/
  ∃b c,aC7 a g i b c/\fL (aQ 0 (a.getD b default).2++aQ 0 (a.getD c default).2) 0 (a.getD b default).2.length (bJ 0 [(a,c)]) e f d))
theorem gQ.one{i j:List Lt}{m n:Int}{o p:List Lt}{q r:Bool}{k l:Int}(c:gQ i j m n o q k)(a:gQ i j m n p r l):o=p/\q=r/\k=l:=by
 rcases c with ⟨g,rfl,rfl,rfl⟩|⟨g,u,c⟩
 ·rcases a with ⟨_,rfl,rfl,rfl⟩|⟨b,v,_⟩
  ·exact ⟨rfl,rfl,rfl⟩
  ·exact absurd ⟨b,v⟩ g
 ·rcases a with ⟨b,_⟩|⟨_,_,a⟩
  ·exact absurd ⟨g,u⟩ b
  ·rcases c with ⟨b,rfl,rfl,rfl⟩|⟨d,e,f,c⟩
   ·rcases a with ⟨_,rfl,rfl,rfl⟩|⟨d,e,f,_⟩
    ·exact ⟨rfl,rfl,rfl⟩
    ·exact absurd ⟨d,e,f⟩ b
   ·rcases a with ⟨b,_⟩|⟨s,t,w,a⟩
    ·exact absurd ⟨d,e,f⟩ b
    ·obtain ⟨_,_,x,y,_⟩:=f;obtain ⟨_,_,z,A,_⟩:=w;obtain rfl:d=s:=by omega
     obtain rfl:e=t:=by omega
     exact aBv c a
theorem jF.one{i:List Lt}{l m:Int}{n o:List Lt}{p q:Bool}{j k:Int}(c:jF i l m n p j)(b:jF i l m o q k):n=o/\p=q/\j=k:=by
 rcases c with ⟨g,rfl,rfl,rfl⟩|⟨g,c⟩
 ·rcases b with ⟨_,rfl,rfl,rfl⟩|⟨a,_⟩
  ·exact ⟨rfl,rfl,rfl⟩
  ·rw [g] at a;cases a
 ·rcases b with ⟨a,_⟩|⟨_,b⟩
  ·rw [g] at a;cases a
  ·rcases c with ⟨a,rfl,rfl,rfl⟩|⟨d,e,f,c⟩
   ·rcases b with ⟨_,rfl,rfl,rfl⟩|⟨d,e,f,_⟩
    ·exact ⟨rfl,rfl,rfl⟩
    ·exact absurd ⟨d,e,f⟩ a
   ·rcases b with ⟨a,_⟩|⟨r,s,t,b⟩
    ·exact absurd ⟨d,e,f⟩ a
    ·obtain ⟨_,_,u,v,_⟩:=f;obtain ⟨_,_,w,x,_⟩:=t;obtain rfl:d=r:=by omega
     obtain rfl:e=s:=by omega
     exact aBv c b
def lE(g:List Lt->Bool->Int->Prop)(d:World)(i:Ending)(e:World):Prop:=
 ∃c a f b,i=.returned (.tuple #[c,.bool f,.int .i64 b])/\g a f b/\bZ d.heap.size e c a/\a.length<=100/\aC d e
theorem lE.none{S:List Lt->Bool->Int->Prop}{w w':World}{a:Int}(b:S [] false a)(c:aC w w'):lE S w (.returned (.tuple #[.slice none 0 0,.bool false,.int .i64 a])) w':=
 ⟨_,[],false,a,rfl,b,bZ.nil _ _,by simp,c⟩
theorem aC8(f:Option Addr)(b g:Nat)(a:Int)(e:World):Calls zl 30 #[.slice f b g,.int .i64 a] e λi j=>i=.returned (.bool (decide (0<=a/\a<b)))/\j=e:=by
 by_cases c:0<=a
 ·by_cases d:a<b
  ·have:decide (0<=a/\a<b)=true:=by simp [c,d]
   rw [this];go_enter zb,ze;go_wp2;go_ret;exact ⟨rfl,rfl⟩
  ·have:decide (0<=a/\a<b)=false:=by simp [d]
   rw [this];go_enter zb,ze;go_wp2;go_ret;exact ⟨rfl,rfl⟩
 ·have:decide (0<=a/\a<b)=false:=by simp [c]
  rw [this];go_enter zb,ze;go_wp2;go_ret;exact ⟨rfl,rfl⟩
theorem aMc(C D:Option Addr)(u v:Nat)(a b:List Lt)(l m:Int)(n:World)(F:bD n C a)(M:bD n D b)(V:iC n):Calls zl 16 #[.slice C a.length u,.int .i64 l,.slice D b.length v,.int .i64 m] n λj c7=>lE (gQ a b l m) n j c7:=by
 have q:=aA (aDj C u a n F V);have b9:=aA V;have a4:=aA F;have S:=aA M;clear F M V;cases i1:cG a with
 |false=>
  have k:aG (gQ a b l m [] false 5):=aA (z2 ⟨by simp [i1],rfl,rfl,rfl⟩);rw [i1] at q;clear i1;go_enter zq,zu;go_wp2_with (go_at_call 29;refine (aB q).mono ?_;rintro j G ⟨rfl,c⟩;have f:=aA c;clear c);go_returns;exact lE.none k.o f.o
 |true=>
  rw [i1] at q;have s:=aA (λp (r:aC n p)=>aDj D v b p (S.o.below r (zw _)) (b9.o.below r (zw _)));cases i2:cG b with
  |false=>
   have k:aG (gQ a b l m [] false 5):=aA (z2 ⟨by simp [i2],rfl,rfl,rfl⟩);rw [i2] at s;clear i1 i2;go_enter zq,zu;go_wp2_with (first
    |(go_at_call 29;refine (aB s _ f.o).mono ?_;rintro j A ⟨rfl,g⟩;have i:=aA (f.o.trans (g.mono o));clear g)
    |(go_at_call 29;refine (aB q).mono ?_;rintro j G ⟨rfl,c⟩;have f:=aA c;have o:=c.size;clear c))
   go_returns;exact lE.none k.o i.o
  |true=>
   rw [i2] at s;have I:=aA (And.intro i1 i2);have x:=aA (λp=>aC8 C a.length u l p);have B:=aA (λp=>aC8 D b.length v m p);have t:aG ((¬∃d e,aC6 a b l m d e)->gQ a b l m [] false 6):=aA λc1=>z0 ⟨i1,i2,z2 ⟨c1,rfl,rfl,rfl⟩⟩
   clear i1 i2;by_cases w:0<=l/\l<a.length
   ·rw [eI w] at x;obtain ⟨d,rfl⟩ : ∃d:Nat,l=d:=⟨l.toNat,by omega⟩;have N:d<a.length:=by omega
    by_cases y:0<=m/\m<b.length
    ·rw [eI y] at B;obtain ⟨e,rfl⟩ : ∃e:Nat,m=e:=⟨m.toNat,by omega⟩;have O:e<b.length:=by omega
     have d5:(d:Int)<(a.length:Int):=by omega
     have d7:(e:Int)<(b.length:Int):=by omega
     have d6:(0:Int)<=(d:Int):=by omega
     have d8:(0:Int)<=(e:Int):=by omega
     obtain ⟨T,a1,c9,d0,rfl,E,_,_⟩:=a4.o.cell d N;obtain ⟨U,a2,d1,d2,rfl,L,_,_⟩:=S.o.cell e O;by_cases z:a[d].1=b[e].1
     ·have k:=aA (t.o (λ⟨a5,a6,b1,b2,b3,b4,c4⟩=>by
       obtain rfl:d=a5:=by omega
       obtain rfl:e=a6:=by omega
       exact c4 z))
      rw [z] at E;clear t w y z;go_enter zq,zu;go_upto_region 3 with (first
       |(go_at_call 29;refine (aB s _ f.o).mono ?_;rintro j A ⟨rfl,g⟩;have i:=aA (f.o.trans (g.mono o));clear g)
       |(go_at_call 29;refine (aB q).mono ?_;rintro j G ⟨rfl,c⟩;have f:=aA c;have o:=c.size;clear c))
      have a7:=aD i.o E;have a8:=aD i.o L;go_quiet (first|(go_at_call_of 30 (zp (some ⟨T,a1,none⟩) a.length u);exact zz (aB x _))|(go_at_call_of 30 (zp (some ⟨U,a2,none⟩) b.length v);exact zz (aB B _)));go_wp2;go_returns;exact lE.none k.o (aV i.o (aL ⟨_,rfl⟩))
     ·have c2:(a[d].1==b[e].1)=false:=by simpa using z
      have X:=nL I.o.1;have a0:=nL I.o.2;have b5:=aA (λ(p:World) (r:aC n p)=>aLc (some ⟨T,a1,none⟩) (some ⟨U,a2,none⟩) u v a b d e p (a4.o.below r (zw _)) (S.o.below r (zw _)) X.term a0.term N O X.len a0.len);have k:aG (∀P R J Q H,aC n Q->xI Q Q.heap.size (aQ 0 a[d].2++aQ 1 b[e].2) 0 a[d].2.length (bJ 0 [(a,d),(b,e)]) P R J H->lE (gQ a b d e) n (.returned (.tuple #[P,.bool R,.int .i64 J])) H):=aA λP R J Q H r b0=>by
       obtain ⟨c3,F,M,c0⟩:=(b0.lift r).out;exact ⟨P,c3,R,J,rfl,z0 ⟨I.o.1,I.o.2,z0 ⟨d,e,⟨N,O,rfl,rfl,z⟩,by simpa [N,O] using F⟩⟩,M,c0,(b0.lift r).low⟩
      clear t w y X a0;obtain ⟨d3,W⟩ : ∃a3,a[d].1=a3:=⟨_,rfl⟩;obtain ⟨d4,Z⟩ : ∃a3,b[e].1=a3:=⟨_,rfl⟩;rw [W] at E;rw [Z] at L;rw [W,Z] at c2;clear W Z z;go_enter zq,zu;go_upto_region 3 with (first
       |(go_at_call 29;refine (aB s _ f.o).mono ?_;rintro j A ⟨rfl,g⟩;have i:=aA (f.o.trans (g.mono o));clear g)
       |(go_at_call 29;refine (aB q).mono ?_;rintro j G ⟨rfl,c⟩;have f:=aA c;have o:=c.size;clear c))
      have a7:=aD i.o E;have a8:=aD i.o L;go_quiet (first|(go_at_call_of 30 (zp (some ⟨T,a1,none⟩) a.length u);exact zz (aB x _))|(go_at_call_of 30 (zp (some ⟨U,a2,none⟩) b.length v);exact zz (aB B _)));have Y:aC n (A.drewN nq):=aV i.o (aL (w1:=A.drewN nq) ⟨nq,rfl⟩);have b6:=aA (b5.o _ Y);have b8:=aA Y;clear E L a7 a8 Y;go_wp2_with (first
       |(go_at_call 31;refine (aB b6).mono ?_)
       |go_in)
      rintro j H ⟨c6,c8,c5,rfl,a9⟩;have b7:=aA (k.o c6 c8 c5 _ H b8.o a9);clear a9;go_wp2;go_returns;exact b7.o
    ·rw [dE y] at B;have k:=aA (t.o (λ⟨a5,a6,b1,b2,b3,b4,_⟩=>y (by omega)));clear t w y;go_enter zq,zu;go_upto_region 3 with (first
      |(go_at_call 29;refine (aB s _ f.o).mono ?_;rintro j A ⟨rfl,g⟩;have i:=aA (f.o.trans (g.mono o));clear g)
      |(go_at_call 29;refine (aB q).mono ?_;rintro j G ⟨rfl,c⟩;have f:=aA c;have o:=c.size;clear c))
     go_quiet (first|(go_at_call_of 30 (zp C a.length u);exact zz (aB x _))|(go_at_call_of 30 (zp D b.length v);exact zz (aB B _)));go_wp2;go_returns;exact lE.none k.o (aV i.o (aL ⟨_,rfl⟩))
   ·rw [dE w] at x;have k:=aA (t.o (λ⟨d,e,b1,b2,b3,b4,_⟩=>w (by omega)));clear t w;go_enter zq,zu;go_upto_region 3 with (first
     |(go_at_call 29;refine (aB s _ f.o).mono ?_;rintro j A ⟨rfl,g⟩;have i:=aA (f.o.trans (g.mono o));clear g)
     |(go_at_call 29;refine (aB q).mono ?_;rintro j G ⟨rfl,c⟩;have f:=aA c;have o:=c.size;clear c))
    go_quiet ((go_at_call 30;exact zz (aB x _)));go_wp2;go_returns;exact lE.none k.o (aV i.o (aL ⟨_,rfl⟩))
theorem bA7(f g:Option Addr)(k l:Nat)(d e:List Lt)(i j:Int)(a:World)(b:bD a f d)(c:bD a g e)(p:iC a):Calls zl 9 #[.slice f d.length k,.int .i64 i,.slice g e.length l,.int .i64 j] a λm x=>lE (gQ d e i j) a m x:=by
 have q:=aA (aMc f g k l d e i j a b c p);clear b c p;go_enter Tryz.func9,Tryz.ntmps9;go_wp2_with (first
  |(go_at_call 16;refine (aB q).mono ?_;rintro m A ⟨z,w,y,v,rfl,b,c,n,o⟩;have r:=aA b;have s:=aA c;have t:=aA n;have u:=aA o;clear b c n o)
  |go_in)
 go_returns;exact ⟨_,w,y,v,rfl,r.o,s.o,t.o,u.o⟩
theorem vX(a b:Int)(e:World):Calls zl 69 #[.int .i64 a,.int .i64 b] e λf g=>f=.returned (.bool (decide (0<=a/\a<b)))/\g=e:=by
 by_cases c:0<=a
 ·by_cases d:a<b
  ·have:decide (0<=a/\a<b)=true:=by simp [c,d]
   rw [this];go_enter za,zd;go_wp2;go_ret;exact ⟨rfl,rfl⟩
  ·have:decide (0<=a/\a<b)=false:=by simp [d]
   rw [this];go_enter za,zd;go_wp2;go_ret;exact ⟨rfl,rfl⟩
 ·have:decide (0<=a/\a<b)=false:=by simp [c]
  rw [this];go_enter za,zd;go_wp2;go_ret;exact ⟨rfl,rfl⟩
theorem qS(a b:List (Int×Lt)):aK (a++b)=aK a++aK b:=by simp [aK]
theorem rH(a:Int×Lt)(b:List (Int×Lt)):aK (a::b)=aQ a.1 a.2.2++aK b:=by simp [aK,aQ]
theorem uC:∀(a b:List (Int×Lt)) (c:Nat),bE c (a++b)=bE c a++bE (c+(aK a).length) b
 |[],b,c=>by simp [bE,aK]
 |r::a,b,c=>by
  simp only [List.cons_append,bE];rw [uC a b,rH];simp [aQ,zh]
theorem uD:∀(a:List (Int×Lt)) (b:Nat),bE b a=(bE 0 a).map (b + ·)
 |[],b=>rfl
 |r::a,b=>by
  simp only [bE,zg,Nat.add_zero,Nat.zero_add];rw [uD a (b+r.2.2.length),uD a r.2.2.length,zj];congr 1
  apply zi;intro c _;simp [zh]
theorem rI{a:List (Int×Lt)}(c:∀b∈a,bA b.2.2 1=true):dM ((aK a).map z1):=by
 induction a with
 |nil=>intro g i d;simp [aK] at d
 |cons b a ih=>
  rw [rH,zx,sQ];exact (qH (c b (by simp))).append (ih λf e=>c f (by simp [e]))
section
variable {C1 C2 D1 D2:List (Int×Lt)}{rc rd:Int×Lt}{R:List Rw}{g:Nat->Nat}
def oI(a e b c:Nat)(d:Nat):Nat:=dN 0 a b (dN a e c d)
theorem bA8(c:Rows (aK (C1++rc::C2)++aK (D1++rd::D2)) R g)(e:∀a∈C1,bA a.2.2 1=true)(f:∀a∈C2,bA a.2.2 1=true)(i:∀a∈D1,bA a.2.2 1=true)(j:∀a∈D2,bA a.2.2 1=true)(q:bA rc.2.2 1=true)(r:bA rd.2.2 1=true):Rows (aQ rc.1 rc.2.2++aQ rd.1 rd.2.2++aK (C1++C2++(D1++D2))) R (λv=>g (oI rc.2.2.length rd.2.2.length (aK C1).length ((aK C1).length+(aK C2).length+(aK D1).length) v)):=by
 have k:dM ((aQ rc.1 rc.2.2).map z1):=by rw [sQ];exact qH q
 have l:dM ((aQ rd.1 rd.2.2).map z1):=by rw [sQ];exact qH r
 have m:aK (C1++rc::C2)++aK (D1++rd::D2)=[]++aK C1++aQ rc.1 rc.2.2++(aK C2++(aK D1++(aQ rd.1 rd.2.2++aK D2))):=by simp [qS,rH]
 rw [m] at c;have p:dM ((aK C2++(aK D1++(aQ rd.1 rd.2.2++aK D2))).map z1):=by simp only [zx];exact (rI f).append ((rI i).append (l.append (rI j)))
 have d:=c.swap (by intro w x s;simp at s) (rI e) k p;have n : []++aQ rc.1 rc.2.2++aK C1++(aK C2++(aK D1++(aQ rd.1 rd.2.2++aK D2)))=aQ rc.1 rc.2.2++(aK C1++aK C2++aK D1)++aQ rd.1 rd.2.2++aK D2:=by simp
 rw [n] at d;have b:=d.swap k (by simp only [zx];exact ((rI e).append (rI f)).append (rI i)) l (rI j);have o:aQ rc.1 rc.2.2++aQ rd.1 rd.2.2++(aK C1++aK C2++aK D1)++aK D2=aQ rc.1 rc.2.2++aQ rd.1 rd.2.2++aK (C1++C2++(D1++D2)):=by simp [qS]
 rw [o] at b;have t:(aQ rc.1 rc.2.2).length=rc.2.2.length:=by simp [aQ]
 have u:(aQ rd.1 rd.2.2).length=rd.2.2.length:=by simp [aQ]
 simp only [zf,List.length_nil,t,u] at b;exact b
theorem bA9(j:∀a∈C1,0<a.2.2.length)(k:∀a∈C2,0<a.2.2.length)(l:∀a∈D1,0<a.2.2.length)(m:∀a∈D2,0<a.2.2.length):(bE (rc.2.2.length+rd.2.2.length) (C1++C2++(D1++D2))).map (oI rc.2.2.length rd.2.2.length (aK C1).length ((aK C1).length+(aK C2).length+(aK D1).length)) =
   bE 0 C1++bE ((aK C1).length+rc.2.2.length) C2++(bE (aK (C1++rc::C2)).length D1++bE ((aK (C1++rc::C2)).length+(aK D1).length+rd.2.2.length) D2):=by
 have p:(aK (C1++rc::C2)).length=(aK C1).length+(rc.2.2.length+(aK C2).length):=by simp [qS,rH,aQ]
 rw [p,uC,uC,uC];simp only [zx,List.append_assoc];rw [qS,zf];have d:∀(b:List (Int×Lt)) (f e:Nat),(∀a∈b,0<a.2.2.length)->(∀c,c<(aK b).length->oI rc.2.2.length rd.2.2.length (aK C1).length ((aK C1).length+(aK C2).length+(aK D1).length) (f+c)=e+c)->(bE f b).map (oI rc.2.2.length rd.2.2.length (aK C1).length ((aK C1).length+(aK C2).length+(aK D1).length))=bE e b:=by intro b f e n i;rw [uD b f,uD b e,zj];apply zi;intro c o;have:=vU b 0 n c o;exact i c (by omega)
 rw [d C1 _ 0 j ?_,d C2 _ ((aK C1).length+rc.2.2.length) k ?_,d D1 _ ((aK C1).length+(rc.2.2.length+(aK C2).length)) l ?_,d D2 _ ((aK C1).length+(rc.2.2.length+(aK C2).length)+(aK D1).length+rd.2.2.length) m ?_];all_goals
  intro c i;unfold oI dN;repeat' split
  all_goals omega
theorem bAa{b d a c:Nat}(e:0<b):oI b d a c 0=a:=by
 unfold oI dN;repeat' split
 all_goals omega
theorem bAb{b e a c d:Nat}(f:0<e):oI b e a (a+c+d) b=a+(b+c)+d:=by
 unfold oI dN;repeat' split
 all_goals omega
end
theorem aC9{g:Type}{b:List g}{a:Nat}(d:a<b.length):∃c f e,b=c++f::e/\c.length=a:=
 ⟨b.take a,b[a],b.drop (a+1),by rw [<-List.drop_eq_getElem_cons d,List.take_append_drop],by simp;omega⟩
theorem uE{c:Type}(a b:List c)(d:c):(a++d::b).eraseIdx a.length=a++b:=by rw [List.eraseIdx_append_of_length_le (zw _)];simp
theorem aFm(a c:List (Int×Lt))(d:Int×Lt)(b:Nat):bE b (a++d::c)=bE b a++(b+(aK a).length)::bE (b+(aK a).length+d.2.2.length) c:=by rw [uC];rfl
theorem kA{a:List Nd}(b:bA a 1=true):0<a.length:=by
 cases a with
 |nil=>simp [bA] at b
 |cons=>simp
theorem bAc{k o:List Lt}{n p:Nat}(X:n<k.length)(Y:p<o.length)(A:∀j∈k,bA j.2 1=true)(B:∀j∈o,bA j.2 1=true){s:Tb}{f:Nat->Nat}(z:Rows (aK (k.map (λa=>((0:Int),a))++o.map (λa=>((1:Int),a)))) (s.map zy) f)(Z:hH s){q r:List Nat}
  (t:(bE 0 (k.map λa=>((0:Int),a))).map f=q) (u:(bE (aK (k.map λa=>((0:Int),a))).length (o.map λa=>((1:Int),a))).map f=r) (b1:n<q.length) (b2:p<r.length)
  {C:List Lt} {H:Bool} {y:Int} (w:rG s q[n] r[p] (q.eraseIdx n++r.eraseIdx p) ((k.map zy).eraseIdx n++(o.map zy).eraseIdx p) C H y):fL (aQ 0 k[n].2++aQ 1 o[p].2) 0 k[n].2.length (bJ 0 [(k,n),(o,p)]) C H y:=by
 obtain ⟨b,c,e,rfl,rfl⟩:=aC9 X;obtain ⟨d,g,m,rfl,rfl⟩:=aC9 Y;have Q:(b++c::e)[b.length]=c:=by simp
 have R:(d++g::m)[d.length]=g:=by simp
 rw [Q,R];have a1:bJ 0 [(b++c::e,b.length),(d++g::m,d.length)]=b.map (λa=>((0:Int),a))++e.map (λa=>((0:Int),a))++(d.map (λa=>((1:Int),a))++m.map (λa=>((1:Int),a))):=by simp [bJ,uE]
 rw [a1];have v:∀(N:Int) (x:List Lt),(∀j∈x,bA j.2 1=true)->∀i∈x.map (λa=>(N,a)),bA i.2.2 1=true:=λN x U i hr=>by
  obtain ⟨j,l,rfl⟩:=List.mem_map.1 hr;exact U j l
 have D:=v 0 b (λj l=>A j (by simp [l]));have E:=v 0 e (λj l=>A j (by simp [l]));have F:=v 1 d (λj l=>B j (by simp [l]));have G:=v 1 m (λj l=>B j (by simp [l]));have O:=A c (by simp);have P:=B g (by simp);have a7:=kA O;have a8:=kA P;simp only [zx,zg] at z t u w;rw [qS] at z;have W:=bA8 (rc:=((0:Int),c)) (rd:=((1:Int),g)) z D E F G O P;have a0:=bA9 (rc:=((0:Int),c)) (rd:=((1:Int),g)) (λi hr=>kA (D i hr)) (λi hr=>kA (E i hr)) (λi hr=>kA (F i hr)) (λi hr=>kA (G i hr));have a2:(b.map λa=>((0:Int),a)).length=b.length:=by simp
 have a3:(d.map λa=>((1:Int),a)).length=d.length:=by simp
 rw [aFm,zx,zg] at t u;have J:(zk f (bE 0 (b.map λa=>((0:Int),a)))).length=b.length:=by rw [zn,vH,a2]
 have L:(zk f (bE (aK ((b.map λa=>((0:Int),a))++((0:Int),c)::e.map λa=>((0:Int),a))).length (d.map λa=>((1:Int),a)))).length=d.length:=by rw [zn,vH,a3]
 have a9:q[b.length]=f (0+(aK (b.map λa=>((0:Int),a))).length):=by subst t;rw [zm (by omega)];simp [J]
 have b0:r[d.length]=f ((aK ((b.map λa=>((0:Int),a))++((0:Int),c)::e.map λa=>((0:Int),a))).length+(aK (d.map λa=>((1:Int),a))).length):=by subst u;rw [zm (by omega)];simp [L]
 have S:q.eraseIdx b.length=zk f (bE 0 (b.map λa=>((0:Int),a)))++zk f (bE (0+(aK (b.map λa=>((0:Int),a))).length+c.2.length) (e.map λa=>((0:Int),a))):=by rw [<-t,<-J];exact uE _ _ _
 have T:r.eraseIdx d.length=zk f (bE (aK ((b.map λa=>((0:Int),a))++((0:Int),c)::e.map λa=>((0:Int),a))).length (d.map λa=>((1:Int),a)))++zk f (bE ((aK ((b.map λa=>((0:Int),a))++((0:Int),c)::e.map λa=>((0:Int),a))).length+(aK (d.map λa=>((1:Int),a))).length+g.2.length) (m.map λa=>((1:Int),a))):=by rw [<-u,<-L];exact uE _ _ _
 have a4:(b.map zy++c.1::e.map zy).eraseIdx b.length=b.map zy++e.map zy:=by have:=uE (b.map zy) (e.map zy) c.1;rwa [zn] at this
 have a5:(d.map zy++g.1::m.map zy).eraseIdx d.length=d.map zy++m.map zy:=by have:=uE (d.map zy) (m.map zy) g.1;rwa [zn] at this
 rw [a9,b0,S,T,a4,a5] at w;have M:(aK ((b.map λa=>((0:Int),a))++((0:Int),c)::e.map λa=>((0:Int),a))).length=(aK (b.map λa=>((0:Int),a))).length+(c.2.length+(aK (e.map λa=>((0:Int),a))).length):=by simp [qS,rH,aQ]
 have V:(aQ 0 c.2++aQ 1 g.2).length=c.2.length+g.2.length:=by simp [aQ]
 refine aLk W rfl Z (by simp [aQ];omega) (by simp [aQ];omega) ?_ ?_
 ·intro i hr;simp only [List.mem_append] at hr;rcases hr with (hr|hr)|hr|hr
  ·exact kA (D i hr)
  ·exact kA (E i hr)
  ·exact kA (F i hr)
  ·exact kA (G i hr)
 ·show rG s (f (oI c.2.length g.2.length _ _ 0)) (f (oI c.2.length g.2.length _ _ c.2.length)) _ _ C H y;rw [bAa a7,bAb a8,V];have I:=congrArg (zk f) a0;rw [zj] at I;rw [show (λa6=>f (oI c.2.length g.2.length (aK (b.map λa=>((0:Int),a))).length ((aK (b.map λa=>((0:Int),a))).length+(aK (e.map λa=>((0:Int),a))).length+(aK (d.map λa=>((1:Int),a))).length) a6))=f∘oI c.2.length g.2.length (aK (b.map λa=>((0:Int),a))).length ((aK (b.map λa=>((0:Int),a))).length+(aK (e.map λa=>((0:Int),a))).length+(aK (d.map λa=>((1:Int),a))).length) from rfl,I];rw [M] at w;simpa [zj,Function.comp_def,M,zh] using w
theorem bAd(w:Option Addr)(x:Nat)(a:List Lt)(f g:Int)(k:World)(z:bD k w a)(a1:iC k):Calls zl 70 #[.slice w a.length x,.int .i64 f,.int .i64 g] k λm b8=>lE (jF a f g) k m b8:=by
 have l:=aA (aDj w x a k z a1);have L:=aA z;clear z a1;cases i1:cG a with
 |false=>
  have i:aG (jF a f g [] false 5):=aA (z2 ⟨i1,rfl,rfl,rfl⟩);rw [i1] at l;clear i1;go_enter zo,zt;go_wp2_with (go_at_call 29;refine (aB l).mono ?_;rintro m r ⟨rfl,b⟩;have e:=aA b;clear b);go_returns;exact lE.none i.o e.o
 |true=>
  rw [i1] at l;have V:=aA i1;have o:=aA (λv=>aC8 w a.length x f v);have s:=aA (λv=>aC8 w a.length x g v);have j:aG ((¬∃d c,aC7 a f g d c)->jF a f g [] false 6):=aA λb3=>z0 ⟨i1,z2 ⟨b3,rfl,rfl,rfl⟩⟩
  clear i1;by_cases n:0<=f/\f<a.length
  ·rw [eI n] at o;by_cases p:0<=g/\g<a.length
   ·rw [eI p] at s;by_cases d0:f<g
    ·obtain ⟨d,rfl⟩ : ∃d:Nat,f=d:=⟨f.toNat,by omega⟩;have D:d<a.length:=by omega
     obtain ⟨c,rfl⟩ : ∃c:Nat,g=c:=⟨g.toNat,by omega⟩;have E:c<a.length:=by omega
     have c5:(d:Int)<(a.length:Int):=by omega
     have c7:(c:Int)<(a.length:Int):=by omega
     have c6:(0:Int)<=(d:Int):=by omega
     have c8:(0:Int)<=(c:Int):=by omega
     have b2:decide (c<=d)=false:=by simp;omega
     obtain ⟨a8,b4,c0,c1,rfl,t,_,_⟩:=L.o.cell d D;obtain ⟨c2,d1,c3,c4,a2,y,_,_⟩:=L.o.cell c E;simp at a2;obtain ⟨rfl,rfl⟩:=a2;by_cases q:a[d].1=a[c].1
     ·have P:=nL V.o;have a4:=aA (λ(v:World) (G:aC k v)=>aLd (some ⟨a8,b4,none⟩) x a d c v (L.o.below G (zw _)) P.term D E P.len);have i:aG (∀H J C I A,aC k I->xI I I.heap.size (aQ 0 a[d].2++aQ 0 a[c].2) 0 a[d].2.length (bJ 0 [(a,c)]) H J C A->lE (jF a d c) k (.returned (.tuple #[H,.bool J,.int .i64 C])) A):=aA λH J C I A G a0=>by
       obtain ⟨b5,z,b0,b1⟩:=(a0.lift G).out;exact ⟨H,b5,J,C,rfl,z0 ⟨V.o,z0 ⟨d,c,⟨D,E,rfl,rfl,by omega,q⟩,by simpa [D,E] using z⟩⟩,b0,b1,(a0.lift G).low⟩
      rw [q] at t;obtain ⟨W,u⟩ : ∃B,a[c].1=B:=⟨_,rfl⟩;rw [u] at t y;clear j n p P q u;go_enter zo,zt;go_upto_region 3 with (go_at_call 29;refine (aB l).mono ?_;rintro m r ⟨rfl,b⟩;have e:=aA b;have F:=b.size;clear b);have X:=aD e.o t;have Y:=aD e.o y;go_quiet (first|(go_at_call_of 30 (zr zv (d:Int));exact zz (aB o _))|(go_at_call_of 30 (zr zv (c:Int));exact zz (aB s _)));have Q:aC k (r.drewN nq):=aV e.o (aL (w1:=r.drewN nq) ⟨nq,rfl⟩);have a5:=aA (a4.o _ Q);have a7:=aA Q;clear t y X Y Q;go_wp2_with (first
       |(go_at_call 113;refine (aB a5).mono ?_)
       |go_in)
      rintro m A ⟨b7,b9,b6,rfl,Z⟩;have a6:=aA (i.o b7 b9 b6 _ A a7.o Z);clear Z;go_wp2;go_returns;exact a6.o
     ·have i:=aA (j.o (λ⟨M,N,R,S,T,U,_,a3⟩=>by
       obtain rfl:d=M:=by omega
       obtain rfl:c=N:=by omega
       exact q a3))
      obtain ⟨a9,O⟩ : ∃B,a[d].1=B:=⟨_,rfl⟩;obtain ⟨W,u⟩ : ∃B,a[c].1=B:=⟨_,rfl⟩;rw [O] at t;rw [u] at y;rw [O,u] at q;clear j n p O u;cases a9<;>cases W<;>first|exact absurd rfl q|clear q
      all_goals
       go_enter zo,zt;go_upto_region 3 with (go_at_call 29;refine (aB l).mono ?_;rintro m r ⟨rfl,b⟩;have e:=aA b;have F:=b.size;clear b);have X:=aD e.o t;have Y:=aD e.o y;go_quiet (first|(go_at_call_of 30 (zr zv (d:Int));exact zz (aB o _))|(go_at_call_of 30 (zr zv (c:Int));exact zz (aB s _)));go_wp2;go_returns;exact lE.none i.o (aV e.o (aL ⟨_,rfl⟩))
    ·have i:=aA (j.o (λ⟨M,N,R,S,T,U,a3,_⟩=>by omega));have b2:decide (g<=f)=true:=by simp;omega
     have c9:g<=f:=by omega
     clear j n p;go_enter zo,zt;go_upto_region 3 with (go_at_call 29;refine (aB l).mono ?_;rintro m r ⟨rfl,b⟩;have e:=aA b;have F:=b.size;clear b);go_quiet (first|(go_at_call_of 30 (zr zv f);exact zz (aB o _))|(go_at_call_of 30 (zr zv g);exact zz (aB s _)));go_wp2;go_returns;exact lE.none i.o (aV e.o (aL ⟨_,rfl⟩))
   ·rw [dE p] at s;have i:=aA (j.o (λ⟨M,N,R,S,T,U,_⟩=>p (by omega)));clear j n p;go_enter zo,zt;go_upto_region 3 with (go_at_call 29;refine (aB l).mono ?_;rintro m r ⟨rfl,b⟩;have e:=aA b;have F:=b.size;clear b);go_quiet (first|(go_at_call_of 30 (zr zv f);exact zz (aB o _))|(go_at_call_of 30 (zr zv g);exact zz (aB s _)));go_wp2;go_returns;exact lE.none i.o (aV e.o (aL ⟨_,rfl⟩))
  ·rw [dE n] at o;have i:=aA (j.o (λ⟨d,c,R,S,T,U,_⟩=>n (by omega)));clear j n;go_enter zo,zt;go_upto_region 3 with (go_at_call 29;refine (aB l).mono ?_;rintro m r ⟨rfl,b⟩;have e:=aA b;have F:=b.size;clear b);go_quiet ((go_at_call 30;exact zz (aB o _)));go_wp2;go_returns;exact lE.none i.o (aV e.o (aL ⟨_,rfl⟩))
theorem bAe(D E:Option Addr)(a4 a5:Nat)(b c:List Lt)(g:World)(p:bD g D b)(t:bD g E c):Calls zl 40 #[.slice D b.length a4,.slice E c.length a5,.func (Fn.func 41) #[] #[]] g λl b1=>l=.returned (.bool (decide (b=c)))/\aC g b1:=by
 by_cases n:b.length=c.length
 ·have b0:((b.length:Int) != (c.length:Int))=false:=by rw [n];simp
  have b8:=p.few;have z:=aA p;have A:=aA t;have B:=aA n;clear p t n;go_enter Tryz.func40,Tryz.ntmps40;go_wp2;go_loopw [17] (λu wr=>∃a:Nat,a<=b.length/\u=.int .i64 a/\b.take a=c.take a/\aC g wr) (λu _=>b.length-(intOf u).toNat);case atStart=>exact ⟨0,Nat.zero_le _,rfl,rfl,Below.refl _ _⟩
  case round=>
   obtain ⟨a,b9,rfl,o,d⟩:=hrel;by_cases L:a<b.length
   ·have M:a<c.length:=by have:=B.o;omega
    obtain ⟨b5,c2,a0,a1,rfl,F,G,R⟩:=z.o.cell a L;obtain ⟨b6,c3,a2,a3,rfl,H,I,S⟩:=A.o.cell a M;have i:=aA (λ(T:World) (Q:aC g T)=>aDv b[a].1 c[a].1 a0 a2 a1 a3 b[a].2 c[a].2 T (R.below Q (zw _)) (S.below Q (zw _)));have O:b.take (a+1)=b.take a++[b[a]]:=zs L;have P:c.take (a+1)=c.take a++[c[a]]:=zs M;have J:nS (b[a].1,b[a].2) (c[a].1,c[a].2)=decide (b[a]=c[a]):=by rw [aIt]
    rw [J] at i;have C:aG (b[a]≠c[a]->b≠c):=aA λs l=>s (by subst l;rfl)
    have W:=aA O;have X:=aA P;have Y:=aA o;generalize b[a]=x at *;generalize c[a]=y at *;have a6:=aD d F;have a7:=aD d G;have q:=λf=>Below.trans d ((Below.refl g.heap.size wr).alloc d.size f)
    have a8:=λf=>aD (q f) H
    have a9:=λf=>aD (q f) I
    have c0:(a:Int)<(b.length:Int):=by omega
    have c1:(a:Int)<(c.length:Int):=by omega
    have j:=aA (λf Z=>Below.trans (q f) ((Below.refl g.heap.size (wr.alloc f)).alloc (Nat.le_trans d.size (by simp)) Z));have b7:=d.size;clear F G H I R S d q O P o J;obtain ⟨b3,v⟩:=x;obtain ⟨b4,w⟩:=y;simp only at a6 a7 a8 a9 i;by_cases e:(b3,v)=(b4,w)
    ·rw [eI e] at i;have V:=aA e;clear e;generalize v.length=xn at *;generalize w.length=yn at *;go_wp2_with (first
      |(go_at_call 41;refine (aB i _ (j.o _ _)).mono ?_;rintro l b2 ⟨rfl,m⟩;have r:=aA ((j.o _ _).trans (m.mono (j.o _ _).size));clear m)
      |go_in)
     go_roundw;case rel=>exact ⟨a+1,by omega,by go_num,by rw [W.o,X.o,Y.o,V.o],r.o⟩
     case measure=>simp [intOf];omega
    ·rw [dE e] at i;have N:=C.o e;have k:aG (decide (b=c)=false):=aA (dE N);clear e N C;generalize v.length=xn at *;generalize w.length=yn at *;go_wp2_with (first
      |(go_at_call 41;refine (aB i _ (j.o _ _)).mono ?_;rintro l b2 ⟨rfl,m⟩;have r:=aA ((j.o _ _).trans (m.mono (j.o _ _).size));clear m)
      |go_in)
     go_ret;exact ⟨bM k.o.symm,r.o⟩
   ·obtain rfl:a=b.length:=by omega
    have e:b=c:=by rw [zc,B.o,zc] at o;exact o
    have k:aG (decide (b=c)=true):=aA (eI e);have U:=aA d;clear d z A o e;go_wp2;go_ret;exact ⟨bM k.o.symm,U.o⟩
 ·have b0:((b.length:Int) != (c.length:Int))=true:=by rw [bne_iff_ne];omega
  have k:aG (decide (b=c)=false):=aA (dE λs=>n (by rw [s]));clear n p t;go_enter Tryz.func40,Tryz.ntmps40;go_wp2;go_ret;exact ⟨bM k.o.symm,Below.refl _ _⟩
