import Derived.Test.YtbpiopdphigodaaGreatDoorBase0P
import Derived.Shelf.Abstract
open List renaming take_succ_eq_append_getElem→zy,take_of_length_le→zx
open Nat renaming le_refl→zz,zero_le→zu
open Prod renaming fst→zw
namespace Go.Proofs.YtbpiopdphigodaaGreatDoor
open _root_.Go.Proofs.Tryz renaming prog→zv
set_option maxHeartbeats 1000000
set_option maxRecDepth 100000
open Go.RowKit Go.Shelf
theorem nH(a:ByteArray)(e:Int)(b:World):Calls zv 36 #[.agg #[.string a,.int .i64 e]] b λc d=>c=.returned (.bool a.toList.isEmpty)/\aB b d:=by
 go_enter Tryz.func36,Tryz.ntmps36;go_wp2;go_ret;exact ⟨rfl,(Below.refl _ _).alloc (zz _) _⟩
theorem fY{w a:World}{c d:Value}{e:TypeId}(b:Below (w.alloc (.cells #[c,d] e)).heap.size (w.alloc (.cells #[c,d] e)) a):a.cell? ⟨w.heap.size,0,none⟩=some c/\a.cell? ⟨w.heap.size,1,none⟩=some d/\aB w a:=
 ⟨aD b (by simp),aD b (by simp),((Below.refl _ _).alloc (zz _) _).trans (b.mono (by simp))⟩
theorem aBs(i:Option Addr)(p:Nat)(a:List Lt)(e:World)(f:bP e i a)(s:a.length<=100000):Calls zv 62 #[.slice i a.length p] e λq v=>q=.returned (.int .i64 (aS a))/\aB e v:=by
 have A:aS a<=100000*5864062014805:=Nat.le_trans (aLu a λb m=>by obtain ⟨_,_,_,_,_,_,_,r⟩:=f.cell b m;exact r.few) (Nat.mul_le_mul_right _ s);go_enter Tryz.func62,Tryz.ntmps62;go_wp2;go_loopw [3,8] (λu g wr=>∃b:Nat,b<=a.length/\g=.int .i64 b/\u=.int .i64 (aS (a.take b))/\aB e wr) (λ_ g _=>a.length-(intOf g).toNat);case atStart=>exact ⟨0,zu _,rfl,rfl,Below.refl _ _⟩
 case round=>
  obtain ⟨b,m,rfl,rfl,c⟩:=hrel;have B:=tT a b;by_cases n:b<a.length
  ·obtain ⟨E,D,w,x,rfl,j,k,l⟩:=f.cell b n;have C:=l.few;have o:aI (aS (a.take (b+1))=aS (a.take b)+a[b].2.length):=by
    rw [zy n,pZ];exact rfl
   have y:=aD c j;have z:=aD c k;have d:=aA c;clear f l j k c;go_wp2;go_roundw;case rel=>exact ⟨b+1,by omega,by go_num,by rw [o.o];go_num,d.o.alloc d.o.size _⟩
   case measure=>simp [intOf];omega
  ·have d:=aA c;clear c;go_wp2;go_ret;have t:a.take b=a:=zx (by omega);rw [t];exact ⟨rfl,d.o⟩
theorem yN(c:Option Addr)(d:Nat)(a:List Lt)(b:World)(f:bP b c a)(i:a.length<=8):Calls zv 62 #[.slice c a.length d] b λe g=>e=.returned (.int .i64 (aS a))/\aB b g:=aBs c d a b f (by omega)
theorem uG(d:Option Addr)(f:Nat)(a:List Lt)(c:World)(b:bP c d a):Calls zv 33 #[.slice d a.length f] c λg k=>g=.returned (.bool (cZ a))/\aB c k:=by
 have o:=b.few;by_cases e:a.length<=8
 ·have l:=aA (yN d f a c b e);have n:=aA (show cZ a=decide ((aS a:Int)<=60) by simp [cZ,e];omega);clear b;go_enter Tryz.func33,Tryz.ntmps33;go_wp2_with (go_at_call 62;refine (aC l).mono ?_;rintro g k ⟨rfl,i⟩;have m:=aA i;clear i);go_ret;exact ⟨cX n.o.symm,m.o⟩
 ·have j:cZ a=false:=by simp [cZ,e]
  rw [j];clear j b;go_enter Tryz.func33,Tryz.ntmps33;go_wp2;go_ret;exact ⟨rfl,Below.refl _ _⟩
theorem aGb(p q:Option Addr)(w x:Nat)(b c:List (ByteArray×Int))(f:World)(k:cS f p b)(l:cS f q c):Calls zv 81 #[.slice p b.length w,.slice q c.length x] f λy C=>y=.returned (.bool (decide (b=c)))/\∃g,C=f.drewN g:=by
 have D:=k.few;have E:=l.few;by_cases e:b.length=c.length
 ·have B:((b.length:Int) != (c.length:Int))=false:=by rw [e];simp
  have o:aI (b.length=c.length):=e;clear e;go_enter Tryz.func81,Tryz.ntmps81;go_wp2;go_loopw [13] (λn wr=>∃a:Nat,a<=b.length/\n=.int .i64 a/\(∃g,wr=f.drewN g)/\b.take a=c.take a) (λn _=>b.length-(intOf n).toNat);case atStart=>exact ⟨0,zu _,rfl,⟨0,rfl⟩,rfl⟩
  case round=>
   obtain ⟨a,L,rfl,⟨g,rfl⟩,m⟩:=hrel;by_cases s:a<b.length
   ·obtain ⟨P,N,rfl,F,H⟩:=k.cell a s;have M:(a:Int)<(c.length:Int):=by have:=o.o;omega
    have t:a<c.length:=by omega
    obtain ⟨Q,O,rfl,G,I⟩:=l.cell a t;have r:=tP b[a] c[a];have J:=tO;have R:=tQ b[a].1 c[a].1 b[a].2 c[a].2;clear k l;by_cases d:b[a]=c[a]
    ·rw [fH d] at r;have i:aI (b[a]=c[a]):=d;clear d;go_wp2;go_quiet (fail);go_wp2;go_roundw;case rel=>exact ⟨a+1,by omega,by go_num,(by first|exact kG _ _ _|exact ⟨_,rfl⟩),by rw [zy s,zy t,m,i.o]⟩
     case measure=>simp [intOf];omega
    ·rw [gH d] at r;have i:aI (¬b[a]=c[a]):=d;clear d;go_wp2;go_quiet (fail);go_wp2;go_ret;refine ⟨?_,(by first|exact kG _ _ _|exact ⟨_,rfl⟩)⟩;have:¬b=c:=λj=>i.o (by subst j;rfl)
     simp [this]
   ·go_wp2;go_ret;refine ⟨?_,⟨_,rfl⟩⟩;have z:b.take a=b:=zx (by omega);have A:c.take a=c:=zx (by have:=o.o;omega);rw [z,A] at m;simp [m]
 ·have B:((b.length:Int) != (c.length:Int))=true:=by rw [bne_iff_ne];omega
  have u:¬b=c:=λj=>e (by rw [j])
  have v:aI (¬b=c):=u;clear u e;go_enter Tryz.func81,Tryz.ntmps81;go_wp2;go_ret;exact ⟨by simp [v.o],0,rfl⟩
theorem aBt(a e:Bool)(f g:Option Addr)(l m:Nat)(b c:List Nd)(d:World)(p:cS d f b)(q:cS d g c):Calls zv 48 #[.agg #[.bool a,.slice f b.length l],.agg #[.bool e,.slice g c.length m]] d λo u=>o=.returned (.bool (lP (a,b) (e,c)))/\aB d u:=by
 have j:aB d ((d.alloc (.cells #[.bool a,.slice f b.length l] 41)).alloc (.cells #[.bool e,.slice g c.length m] 41)):=((Below.refl _ _).alloc (zz _) _).alloc (by simp) _;have s:=aA (aGb f g l m b c _ (p.below j (zz _)) (q.below j (zz _)));have n:=aA j;clear j p q;by_cases i:a=e
 ·subst i;have k:=aA (show lP (a,b) (a,c)=decide (b=c) by simp [lP]);go_enter Tryz.func48,Tryz.ntmps48;go_wp2_with (go_at_call 81;refine (aC s).mono ?_;rintro o w ⟨rfl,r⟩;have t:=aA (n.o.trans ((aQ r).mono (by simp;omega)));clear r);go_ret;exact ⟨cX k.o.symm,t.o⟩
 ·have k:=aA (show lP (a,b) (e,c)=false by simp [lP,i]);have v:(a==e)=false:=by simp [i]
  clear i;go_enter Tryz.func48,Tryz.ntmps48;go_wp2;go_ret;exact ⟨cX k.o.symm,n.o⟩
theorem aQp(e k:Bool)(d g:Option Addr)(i l j:Nat)(c f:List Nd)(a:World)(n:cS a d c)(o:cS a g f)(t:a.cell? ⟨j,0,none⟩=some (.bool k))(u:a.cell? ⟨j,1,none⟩=some (.slice g f.length l)):Calls zv 89 #[.agg #[.bool e,.slice d c.length i],.pointer (some ⟨j,0,none⟩)] a λm v=>m=.returned (.bool (lP (e,c) (k,f)))/\aB a v:=by
 have b:aB a (a.alloc (.cells #[.bool e,.slice d c.length i] 41)):=(Below.refl _ _).alloc (zz _) _;have q:=aA (aBt e k d g i l c f _ (n.below b (zz _)) (o.below b (zz _)));have w:=aD b t;have x:=aD b u;have r:=aA b;clear b n o;go_enter Tryz.func89,Tryz.ntmps89;go_wp2_with (go_at_call 48;refine (aC q).mono ?_;rintro m y ⟨rfl,p⟩;have s:=aA (r.o.trans (p.mono (by simp)));clear p);go_ret;exact ⟨rfl,s.o⟩
theorem kI.below{w w1:World}{v:Value}{a:List Nd}(d:kI w v a){B:Nat}(k:Below B w w1)(g:w.heap.size<=B):kI w1 v a:=by obtain ⟨b,c,e,f⟩:=d;exact ⟨b,c,e,f.below k g⟩
theorem bAb(a:List (Lt×Value))(b:Lt):fI ((a.map zw).take 0) b=false:=rfl
theorem aGc(a:List (Lt×Value))(c:Lt)(b:Nat)(d:b<a.length):fI ((a.map zw).take (b+1)) c=(fI ((a.map zw).take b) c || lP a[b].1 c):=by rw [zy (by simpa using d),aLv,aEc];simp
theorem aGd(a:List (Lt×Value))(c:Lt)(d:Nat)(b:fI ((a.map zw).take d) c=true):fI (a.map zw) c=true:=by rw [xP] at b ⊢;exact List.mem_of_mem_take b
theorem aQq(z q:Option Addr)(R A l:Nat)(b:List (Lt×Value))(f:Bool)(e:List Nd)(d:World)(a1:b.length<=4398046511104)
  (E:∀a (a0:a<b.length),∃m,z=some ⟨m,0,none⟩/\d.cell? ⟨m,a*2,none⟩=some (.bool b[a].1.1)/\d.cell? ⟨m,a*2+1,none⟩=some b[a].2)
  (C:∀J∈b,kI d J.2 J.1.2) (B:cS d q e) (S:d.cell? ⟨l,0,none⟩=some (.bool f)) (T:d.cell? ⟨l,1,none⟩=some (.slice q e.length A)):Calls zv 111 #[.slice z b.length R,.func (Fn.func 89) #[] #[.pointer (some ⟨l,0,none⟩)]] d λr W=>∃L:Int,r=.returned (.int .i64 L)/\decide (0<=L)=fI (b.map zw) (f,e)/\aB d W:=by
 have Q:=aA E;have P:=aA C;have O:=aA B;clear E C B;go_enter Tryz.func111,Tryz.ntmps111;go_wp2;go_loopw [8] (λv wr=>∃a:Nat,a<=b.length/\v=.int .i64 a/\fI ((b.map zw).take a) (f,e)=false/\aB d wr) (λv _=>b.length-(intOf v).toNat);case atStart=>exact ⟨0,zu _,rfl,rfl,Below.refl _ _⟩
 case round=>
  obtain ⟨a,a2,rfl,H,c⟩:=hrel;have p:=aA H;clear H;by_cases G:a<b.length
  ·obtain ⟨m,rfl,s,k⟩:=Q.o a G;obtain ⟨U,V,I,u⟩:=P.o b[a] (List.getElem_mem _);rw [I] at k;have n:=aGc b (f,e) a G;rw [p.o,Bool.false_or] at n;have t:=aGd b (f,e) (a+1);rw [n] at t;generalize b[a].1=x at *;obtain ⟨M,N⟩:=x;simp only at s k u;have Y:=aD c s;have Z:=aD c k;have i:=aA (aQp M f U q V A l N e wr (u.below c (zz _)) (O.o.below c (zz _)) (aD c S) (aD c T));have w:=aA n;have y:=aA t;have j:=aA c;have D:=c.size;clear n t c I u s k;cases hl:lP (M,N) (f,e)
   ·rw [hl] at i w;clear hl;go_wp2_with (go_at_call 89;refine (aC i).mono ?_;rintro r X ⟨rfl,g⟩;have o:=aA (j.o.trans (g.mono D));clear g);go_roundw;case rel=>exact ⟨a+1,by omega,by go_num,w.o,o.o⟩
    case measure=>simp [intOf];omega
   ·rw [hl] at i y;clear hl;go_wp2_with (go_at_call 89;refine (aC i).mono ?_;rintro r X ⟨rfl,g⟩;have o:=aA (j.o.trans (g.mono D));clear g);go_ret;exact ⟨_,rfl,by rw [y.o (by first|rfl|trivial)];simp,o.o⟩
  ·have F:(b.map zw).take a=b.map zw:=zx (by simp;omega);rw [F] at p;have j:=aA c;clear F c;go_wp2;go_ret;exact ⟨_,rfl,by rw [p.o];rfl,j.o⟩
theorem aQr(f g:Option Addr)(l k d:Nat)(b:List (Lt×Value))(j:Bool)(e:List Nd)(a:World)(y:b.length<=4398046511104)
  (s:∀c (A:c<b.length),∃i,f=some ⟨i,0,none⟩/\a.cell? ⟨i,c*2,none⟩=some (.bool b[c].1.1)/\a.cell? ⟨i,c*2+1,none⟩=some b[c].2)
  (q:∀u∈b,kI a u.2 u.1.2) (p:cS a g e) (n:a.cell? ⟨d,0,none⟩=some (.bool j)) (o:a.cell? ⟨d,1,none⟩=some (.slice g e.length k)):Calls zv 90 #[.slice f b.length l,.func (Fn.func 89) #[] #[.pointer (some ⟨d,0,none⟩)]] a λm z=>m=.returned (.bool (fI (b.map zw) (j,e)))/\aB a z:=by
 have v:=aA (aQq f g l k d b j e a y s q p n o);clear s q p n o;go_enter Tryz.func90,Tryz.ntmps90;go_wp2_with (go_at_call 111;refine (aC v).mono ?_;rintro m C ⟨B,rfl,t,r⟩;have x:=aA t;have w:=aA r;clear t r);go_ret;exact ⟨cX x.o,w.o⟩
theorem aGe(a:Option Addr)(Z:Nat)(c:List Lt)(f:World)(w:bP f a c):Calls zv 61 #[.slice a c.length Z] f λv w'=>∃T P,v=.returned T/\P.map zw=bV c/\(∀k∈P,kI f k.2 k.1.2)/\w'.ownsRow f.heap.size 41 2 T P.length (bC P)/\aB f w':=by
 obtain ⟨a9,a3,a4,a5,a6⟩:=info_parts sK;have b7:=w.few;go_enter Tryz.func61,Tryz.ntmps61;go_wp2;go_loopw [3,9] (λb1 C wr=>∃(b:Nat) (P:List (Lt×Value)),b<=c.length/\C=.int .i64 b/\P.map zw=bV (c.take b)/\(∀k∈P,kI f k.2 k.1.2)/\wr.ownsRow f.heap.size 41 2 b1 P.length (bC P)/\aB f wr)
  (λ_ C _=>c.length-(intOf C).toNat)
 case atStart=>exact ⟨0,[],zu _,rfl,rfl,λk A=>by simp at A,World.ownsRow_nil _ _ _ _,Below.refl _ _⟩
 case round=>
  obtain ⟨b,P,b8,rfl,m,n,o,l⟩:=hrel;have b6:P.length<=b:=by
   have I:=(rF (c.take b)).1;have L:P.length=(bV (c.take b)).length:=by rw [<-m];simp
   have M:(c.take b).length<=b:=List.length_take_le _ _;omega
  by_cases Q:b<c.length
  ·obtain ⟨b5,b9,g,i,rfl,G,H,s⟩:=w.cell b Q;have a0:=aD l G;have a1:=aD l H;have B:=aLw c b Q;rw [<-m] at B;generalize c[b]=x at *;obtain ⟨e,d⟩:=x;simp only at a0 a1 s;obtain ⟨b2,b3,rfl,S⟩:=sJ o;have a7:=l.size;have t:aB f (wr.alloc (.cells #[.bool e,.slice g d.length i] 41)):=l.alloc a7 _;have y:aB wr (wr.alloc (.cells #[.bool e,.slice g d.length i] 41)):=(Below.refl _ _).alloc (zz _) _;have p:=aA (aQr b2 g b3 i wr.heap.size P e d (wr.alloc (.cells #[.bool e,.slice g d.length i] 41)) (by omega)
    (λb0 a8=>by obtain ⟨a2,I,L,M⟩:=S b0 a8;exact ⟨a2,I,aD y L,aD y M⟩)
    (λk A=>(n k A).below t (zz _)) (s.below t (zz _)) (by simp) (by simp))
   have r:=aA B;have D:=aA n;have W:=aA s;have E:=aA t;have X:=aA o;clear G H w B m n S l s t y;cases hm:fI (P.map zw) (e,d)
   ·have u:aI (bV (c.take (b+1))=P.map zw++[(e,d)]):=aA (by rw [r.o];simp [eE,hm]);rw [hm] at p;clear hm r;go_wp2_with (first
     |(go_at_call 90;refine (aC p).mono ?_;rintro v U ⟨rfl,j⟩;obtain ⟨c0,c6,b4⟩:=fY j;have z:=bF (o.alloc (.cells #[.bool e,.slice g d.length i] 41)) j (zz _);have q:=aA (aZ E.o j);have J:=q.o.size;clear j b4)
     |(at_builtin;refine wpList_append_own _ rfl _ _ 29 rfl f.heap.size 41 a9 (.agg #[.bool false,.slice none 0 0]) 2 32 Tryz.underlying29 a3 a4 a5 a6 rfl (by decide) _ _ _ rfl (z.alloc _) ⟨U.heap.size,0,none⟩ 1 1 [.bool e,.slice g d.length i] rfl rfl ?c1 ?c2 ?c3 ?c4 ?c5 ?_)
     |go_in)
    case c1=>exact kH _ _ _ _ _ (by simp)
    case c2=>first|exact sL _ _ _ _|exact ⟨rfl,rfl⟩
    case c3=>unfold maxLen;omega
    case c4=>omega
    case c5=>exact Nat.le_trans J (World.grownBy_alloc _ _ none).size
    intro c7 c8 R N _;have F:=aLz (x:=(e,d)) (z.alloc _) (q.o.alloc J _) R N;clear R N z;go_wp2;go_roundw;case rel=>exact ⟨b+1,P++[((e,d),.slice g d.length i)],by omega,by go_num,by rw [u.o];simp,aLy D.o ⟨g,i,rfl,W.o⟩,F.1,F.2⟩
    case measure=>simp [intOf];omega
   ·have u:aI (bV (c.take (b+1))=P.map zw):=aA (by rw [r.o];simp [eE,hm]);rw [hm] at p;clear hm r;go_wp2_with (first
     |(go_at_call 90;refine (aC p).mono ?_;rintro v U ⟨rfl,j⟩;have Y:=aA (bF (X.o.alloc (.cells #[.bool e,.slice g d.length i] 41)) j (zz _));have q:=aA (aZ E.o j);clear j)
     |go_in)
    go_roundw;case rel=>exact ⟨b+1,P,by omega,by go_num,u.o.symm,D.o,Y.o,q.o⟩
    case measure=>simp [intOf];omega
  ·have O:c.take b=c:=zx (by omega);rw [O] at m;have V:=aA (And.intro m (And.intro n (And.intro o l)));clear O m n o l;go_wp2;go_ret;exact ⟨_,P,rfl,V.o⟩
