import Derived.Test.YtmelidkanelpbaaGreatDoorBase0H
import Derived.Shelf.Abstract
open List renaming take_succ_eq_append_getElem→zy,take_of_length_le→zx
open Nat renaming le_refl→zz,zero_le→zu
open Prod renaming fst→zw
namespace Go.Proofs.YtmelidkanelpbaaGreatDoor
open _root_.Go.Proofs.Tryz renaming prog→zv
set_option maxHeartbeats 1000000
set_option maxRecDepth 100000
open Go.RowKit Go.Shelf
theorem pT(a:ByteArray)(e:Int)(b:World):Calls zv 67 #[.agg #[.string a,.int .i64 e]] b λc d=>c=.returned (.bool a.toList.isEmpty)/\aB b d:=by
 go_enter Tryz.func67,Tryz.ntmps67;go_wp2;go_ret;exact ⟨rfl,(Below.refl _ _).alloc (zz _) _⟩
theorem jC{w a:World}{c d:Value}{e:TypeId}(b:Below (w.alloc (.cells #[c,d] e)).heap.size (w.alloc (.cells #[c,d] e)) a):a.cell? ⟨w.heap.size,0,none⟩=some c/\a.cell? ⟨w.heap.size,1,none⟩=some d/\aB w a:=
 ⟨aC b (by simp),aC b (by simp),((Below.refl _ _).alloc (zz _) _).trans (b.mono (by simp))⟩
theorem aEb(i:Option Addr)(p:Nat)(a:List Lt)(e:World)(f:cH e i a)(s:a.length<=100000):Calls zv 44 #[.slice i a.length p] e λq v=>q=.returned (.int .i64 (aR a))/\aB e v:=by
 have A:aR a<=100000*5864062014805:=Nat.le_trans (aPj a λb m=>by obtain ⟨_,_,_,_,_,_,_,r⟩:=f.cell b m;exact r.few) (Nat.mul_le_mul_right _ s);go_enter Tryz.func44,Tryz.ntmps44;go_wp2;go_loopw [3,8] (λu g wr=>∃b:Nat,b<=a.length/\g=.int .i64 b/\u=.int .i64 (aR (a.take b))/\aB e wr) (λ_ g _=>a.length-(intOf g).toNat);case atStart=>exact ⟨0,zu _,rfl,rfl,Below.refl _ _⟩
 case round=>
  obtain ⟨b,m,rfl,rfl,c⟩:=hrel;have B:=xV a b;by_cases n:b<a.length
  ·obtain ⟨E,D,w,x,rfl,j,k,l⟩:=f.cell b n;have C:=l.few;have o:aM (aR (a.take (b+1))=aR (a.take b)+a[b].2.length):=by
    rw [zy n,rH];exact rfl
   have y:=aC c j;have z:=aC c k;have d:=aA c;clear f l j k c;go_wp2;go_roundw;case rel=>exact ⟨b+1,by omega,by go_num,by rw [o.o];go_num,d.o.alloc d.o.size _⟩
   case measure=>simp [intOf];omega
  ·have d:=aA c;clear c;go_wp2;go_ret;have t:a.take b=a:=zx (by omega);rw [t];exact ⟨rfl,d.o⟩
theorem aB2(c:Option Addr)(d:Nat)(a:List Lt)(b:World)(f:cH b c a)(i:a.length<=8):Calls zv 44 #[.slice c a.length d] b λe g=>e=.returned (.int .i64 (aR a))/\aB b g:=aEb c d a b f (by omega)
theorem wO(d:Option Addr)(f:Nat)(a:List Lt)(c:World)(b:cH c d a):Calls zv 35 #[.slice d a.length f] c λg k=>g=.returned (.bool (bL a))/\aB c k:=by
 have o:=b.few;by_cases e:a.length<=8
 ·have l:=aA (aB2 d f a c b e);have n:=aA (show bL a=decide ((aR a:Int)<=60) by simp [bL,e];omega);clear b;go_enter Tryz.func35,Tryz.ntmps35;go_wp2_with (go_at_call 44;refine (aD l).mono ?_;rintro g k ⟨rfl,i⟩;have m:=aA i;clear i);go_ret;exact ⟨dL n.o.symm,m.o⟩
 ·have j:bL a=false:=by simp [bL,e]
  rw [j];clear j b;go_enter Tryz.func35,Tryz.ntmps35;go_wp2;go_ret;exact ⟨rfl,Below.refl _ _⟩
theorem aKw(p q:Option Addr)(w x:Nat)(b c:List (ByteArray×Int))(f:World)(k:dW f p b)(l:dW f q c):Calls zv 55 #[.slice p b.length w,.slice q c.length x] f λy C=>y=.returned (.bool (decide (b=c)))/\∃g,C=f.drewN g:=by
 have D:=k.few;have E:=l.few;by_cases e:b.length=c.length
 ·have B:((b.length:Int) != (c.length:Int))=false:=by rw [e];simp
  have o:aM (b.length=c.length):=e;clear e;go_enter Tryz.func55,Tryz.ntmps55;go_wp2;go_loopw [13] (λn wr=>∃a:Nat,a<=b.length/\n=.int .i64 a/\(∃g,wr=f.drewN g)/\b.take a=c.take a) (λn _=>b.length-(intOf n).toNat);case atStart=>exact ⟨0,zu _,rfl,⟨0,rfl⟩,rfl⟩
  case round=>
   obtain ⟨a,L,rfl,⟨g,rfl⟩,m⟩:=hrel;by_cases s:a<b.length
   ·obtain ⟨P,N,rfl,F,H⟩:=k.cell a s;have M:(a:Int)<(c.length:Int):=by have:=o.o;omega
    have t:a<c.length:=by omega
    obtain ⟨Q,O,rfl,G,I⟩:=l.cell a t;have r:=xQ b[a] c[a];have J:=xP;have R:=xR b[a].1 c[a].1 b[a].2 c[a].2;clear k l;by_cases d:b[a]=c[a]
    ·rw [fC d] at r;have i:aM (b[a]=c[a]):=d;clear d;go_wp2;go_quiet (fail);go_wp2;go_roundw;case rel=>exact ⟨a+1,by omega,by go_num,(by first|exact mG _ _ _|exact ⟨_,rfl⟩),by rw [zy s,zy t,m,i.o]⟩
     case measure=>simp [intOf];omega
    ·rw [gB d] at r;have i:aM (¬b[a]=c[a]):=d;clear d;go_wp2;go_quiet (fail);go_wp2;go_ret;refine ⟨?_,(by first|exact mG _ _ _|exact ⟨_,rfl⟩)⟩;have:¬b=c:=λj=>i.o (by subst j;rfl)
     simp [this]
   ·go_wp2;go_ret;refine ⟨?_,⟨_,rfl⟩⟩;have z:b.take a=b:=zx (by omega);have A:c.take a=c:=zx (by have:=o.o;omega);rw [z,A] at m;simp [m]
 ·have B:((b.length:Int) != (c.length:Int))=true:=by rw [bne_iff_ne];omega
  have u:¬b=c:=λj=>e (by rw [j])
  have v:aM (¬b=c):=u;clear u e;go_enter Tryz.func55,Tryz.ntmps55;go_wp2;go_ret;exact ⟨by simp [v.o],0,rfl⟩
theorem aEc(a e:Bool)(f g:Option Addr)(l m:Nat)(b c:List Nd)(d:World)(p:dW d f b)(q:dW d g c):Calls zv 37 #[.agg #[.bool a,.slice f b.length l],.agg #[.bool e,.slice g c.length m]] d λo u=>o=.returned (.bool (mH (a,b) (e,c)))/\aB d u:=by
 have j:aB d ((d.alloc (.cells #[.bool a,.slice f b.length l] 86)).alloc (.cells #[.bool e,.slice g c.length m] 86)):=((Below.refl _ _).alloc (zz _) _).alloc (by simp) _;have s:=aA (aKw f g l m b c _ (p.below j (zz _)) (q.below j (zz _)));have n:=aA j;clear j p q;by_cases i:a=e
 ·subst i;have k:=aA (show mH (a,b) (a,c)=decide (b=c) by simp [mH]);go_enter Tryz.func37,Tryz.ntmps37;go_wp2_with (go_at_call 55;refine (aD s).mono ?_;rintro o w ⟨rfl,r⟩;have t:=aA (n.o.trans ((aU r).mono (by simp;omega)));clear r);go_ret;exact ⟨dL k.o.symm,t.o⟩
 ·have k:=aA (show mH (a,b) (e,c)=false by simp [mH,i]);have v:(a==e)=false:=by simp [i]
  clear i;go_enter Tryz.func37,Tryz.ntmps37;go_wp2;go_ret;exact ⟨dL k.o.symm,n.o⟩
theorem aXj(e k:Bool)(d g:Option Addr)(i l j:Nat)(c f:List Nd)(a:World)(n:dW a d c)(o:dW a g f)(t:a.cell? ⟨j,0,none⟩=some (.bool k))(u:a.cell? ⟨j,1,none⟩=some (.slice g f.length l)):Calls zv 93 #[.agg #[.bool e,.slice d c.length i],.pointer (some ⟨j,0,none⟩)] a λm v=>m=.returned (.bool (mH (e,c) (k,f)))/\aB a v:=by
 have b:aB a (a.alloc (.cells #[.bool e,.slice d c.length i] 86)):=(Below.refl _ _).alloc (zz _) _;have q:=aA (aEc e k d g i l c f _ (n.below b (zz _)) (o.below b (zz _)));have w:=aC b t;have x:=aC b u;have r:=aA b;clear b n o;go_enter Tryz.func93,Tryz.ntmps93;go_wp2_with (go_at_call 37;refine (aD q).mono ?_;rintro m y ⟨rfl,p⟩;have s:=aA (r.o.trans (p.mono (by simp)));clear p);go_ret;exact ⟨rfl,s.o⟩
theorem lA.below{w w1:World}{v:Value}{a:List Nd}(d:lA w v a){B:Nat}(k:Below B w w1)(g:w.heap.size<=B):lA w1 v a:=by obtain ⟨b,c,e,f⟩:=d;exact ⟨b,c,e,f.below k g⟩
theorem bF8(a:List (Lt×Value))(b:Lt):fO ((a.map zw).take 0) b=false:=rfl
theorem aKx(a:List (Lt×Value))(c:Lt)(b:Nat)(d:b<a.length):fO ((a.map zw).take (b+1)) c=(fO ((a.map zw).take b) c || mH a[b].1 c):=by rw [zy (by simpa using d),aPk,aGs];simp
theorem aKy(a:List (Lt×Value))(c:Lt)(d:Nat)(b:fO ((a.map zw).take d) c=true):fO (a.map zw) c=true:=by rw [vN] at b ⊢;exact List.mem_of_mem_take b
theorem aXk(z q:Option Addr)(R A l:Nat)(b:List (Lt×Value))(f:Bool)(e:List Nd)(d:World)(a1:b.length<=4398046511104)
  (E:∀a (a0:a<b.length),∃m,z=some ⟨m,0,none⟩/\d.cell? ⟨m,a*2,none⟩=some (.bool b[a].1.1)/\d.cell? ⟨m,a*2+1,none⟩=some b[a].2)
  (C:∀J∈b,lA d J.2 J.1.2) (B:dW d q e) (S:d.cell? ⟨l,0,none⟩=some (.bool f)) (T:d.cell? ⟨l,1,none⟩=some (.slice q e.length A)):Calls zv 94 #[.slice z b.length R,.func (Fn.func 93) #[] #[.pointer (some ⟨l,0,none⟩)]] d λr W=>∃L:Int,r=.returned (.int .i64 L)/\decide (0<=L)=fO (b.map zw) (f,e)/\aB d W:=by
 have Q:=aA E;have P:=aA C;have O:=aA B;clear E C B;go_enter Tryz.func94,Tryz.ntmps94;go_wp2;go_loopw [8] (λv wr=>∃a:Nat,a<=b.length/\v=.int .i64 a/\fO ((b.map zw).take a) (f,e)=false/\aB d wr) (λv _=>b.length-(intOf v).toNat);case atStart=>exact ⟨0,zu _,rfl,rfl,Below.refl _ _⟩
 case round=>
  obtain ⟨a,a2,rfl,H,c⟩:=hrel;have p:=aA H;clear H;by_cases G:a<b.length
  ·obtain ⟨m,rfl,s,k⟩:=Q.o a G;obtain ⟨U,V,I,u⟩:=P.o b[a] (List.getElem_mem _);rw [I] at k;have n:=aKx b (f,e) a G;rw [p.o,Bool.false_or] at n;have t:=aKy b (f,e) (a+1);rw [n] at t;generalize b[a].1=x at *;obtain ⟨M,N⟩:=x;simp only at s k u;have Y:=aC c s;have Z:=aC c k;have i:=aA (aXj M f U q V A l N e wr (u.below c (zz _)) (O.o.below c (zz _)) (aC c S) (aC c T));have w:=aA n;have y:=aA t;have j:=aA c;have D:=c.size;clear n t c I u s k;cases hl:mH (M,N) (f,e)
   ·rw [hl] at i w;clear hl;go_wp2_with (go_at_call 93;refine (aD i).mono ?_;rintro r X ⟨rfl,g⟩;have o:=aA (j.o.trans (g.mono D));clear g);go_roundw;case rel=>exact ⟨a+1,by omega,by go_num,w.o,o.o⟩
    case measure=>simp [intOf];omega
   ·rw [hl] at i y;clear hl;go_wp2_with (go_at_call 93;refine (aD i).mono ?_;rintro r X ⟨rfl,g⟩;have o:=aA (j.o.trans (g.mono D));clear g);go_ret;exact ⟨_,rfl,by rw [y.o (by first|rfl|trivial)];simp,o.o⟩
  ·have F:(b.map zw).take a=b.map zw:=zx (by simp;omega);rw [F] at p;have j:=aA c;clear F c;go_wp2;go_ret;exact ⟨_,rfl,by rw [p.o];rfl,j.o⟩
theorem aXl(f g:Option Addr)(l k d:Nat)(b:List (Lt×Value))(j:Bool)(e:List Nd)(a:World)(y:b.length<=4398046511104)
  (s:∀c (A:c<b.length),∃i,f=some ⟨i,0,none⟩/\a.cell? ⟨i,c*2,none⟩=some (.bool b[c].1.1)/\a.cell? ⟨i,c*2+1,none⟩=some b[c].2)
  (q:∀u∈b,lA a u.2 u.1.2) (p:dW a g e) (n:a.cell? ⟨d,0,none⟩=some (.bool j)) (o:a.cell? ⟨d,1,none⟩=some (.slice g e.length k)):Calls zv 70 #[.slice f b.length l,.func (Fn.func 93) #[] #[.pointer (some ⟨d,0,none⟩)]] a λm z=>m=.returned (.bool (fO (b.map zw) (j,e)))/\aB a z:=by
 have v:=aA (aXk f g l k d b j e a y s q p n o);clear s q p n o;go_enter Tryz.func70,Tryz.ntmps70;go_wp2_with (go_at_call 94;refine (aD v).mono ?_;rintro m C ⟨B,rfl,t,r⟩;have x:=aA t;have w:=aA r;clear t r);go_ret;exact ⟨dL x.o,w.o⟩
theorem aKz(a:Option Addr)(Z:Nat)(c:List Lt)(f:World)(w:cH f a c):Calls zv 69 #[.slice a c.length Z] f λv w'=>∃T P,v=.returned T/\P.map zw=bT c/\(∀k∈P,lA f k.2 k.1.2)/\w'.ownsRow f.heap.size 86 2 T P.length (bF P)/\aB f w':=by
 obtain ⟨a9,a3,a4,a5,a6⟩:=info_parts tZ;have b7:=w.few;go_enter Tryz.func69,Tryz.ntmps69;go_wp2;go_loopw [3,9] (λb1 C wr=>∃(b:Nat) (P:List (Lt×Value)),b<=c.length/\C=.int .i64 b/\P.map zw=bT (c.take b)/\(∀k∈P,lA f k.2 k.1.2)/\wr.ownsRow f.heap.size 86 2 b1 P.length (bF P)/\aB f wr)
  (λ_ C _=>c.length-(intOf C).toNat)
 case atStart=>exact ⟨0,[],zu _,rfl,rfl,λk A=>by simp at A,World.ownsRow_nil _ _ _ _,Below.refl _ _⟩
 case round=>
  obtain ⟨b,P,b8,rfl,m,n,o,l⟩:=hrel;have b6:P.length<=b:=by
   have I:=(jW (c.take b)).1;have L:P.length=(bT (c.take b)).length:=by rw [<-m];simp
   have M:(c.take b).length<=b:=List.length_take_le _ _;omega
  by_cases Q:b<c.length
  ·obtain ⟨b5,b9,g,i,rfl,G,H,s⟩:=w.cell b Q;have a0:=aC l G;have a1:=aC l H;have B:=aPl c b Q;rw [<-m] at B;generalize c[b]=x at *;obtain ⟨e,d⟩:=x;simp only at a0 a1 s;obtain ⟨b2,b3,rfl,S⟩:=tY o;have a7:=l.size;have t:aB f (wr.alloc (.cells #[.bool e,.slice g d.length i] 86)):=l.alloc a7 _;have y:aB wr (wr.alloc (.cells #[.bool e,.slice g d.length i] 86)):=(Below.refl _ _).alloc (zz _) _;have p:=aA (aXl b2 g b3 i wr.heap.size P e d (wr.alloc (.cells #[.bool e,.slice g d.length i] 86)) (by omega)
    (λb0 a8=>by obtain ⟨a2,I,L,M⟩:=S b0 a8;exact ⟨a2,I,aC y L,aC y M⟩)
    (λk A=>(n k A).below t (zz _)) (s.below t (zz _)) (by simp) (by simp))
   have r:=aA B;have D:=aA n;have W:=aA s;have E:=aA t;have X:=aA o;clear G H w B m n S l s t y;cases hm:fO (P.map zw) (e,d)
   ·have u:aM (bT (c.take (b+1))=P.map zw++[(e,d)]):=aA (by rw [r.o];simp [eG,hm]);rw [hm] at p;clear hm r;go_wp2_with (first
     |(go_at_call 70;refine (aD p).mono ?_;rintro v U ⟨rfl,j⟩;obtain ⟨c0,c6,b4⟩:=jC j;have z:=bG (o.alloc (.cells #[.bool e,.slice g d.length i] 86)) j (zz _);have q:=aA (bK E.o j);have J:=q.o.size;clear j b4)
     |(at_builtin;refine wpList_append_own _ rfl _ _ 51 rfl f.heap.size 86 a9 (.agg #[.bool false,.slice none 0 0]) 2 32 Tryz.underlying51 a3 a4 a5 a6 rfl (by decide) _ _ _ rfl (z.alloc _) ⟨U.heap.size,0,none⟩ 1 1 [.bool e,.slice g d.length i] rfl rfl ?c1 ?c2 ?c3 ?c4 ?c5 ?_)
     |go_in)
    case c1=>exact kZ _ _ _ _ _ (by simp)
    case c2=>first|exact uA _ _ _ _|exact ⟨rfl,rfl⟩
    case c3=>unfold maxLen;omega
    case c4=>omega
    case c5=>exact Nat.le_trans J (World.grownBy_alloc _ _ none).size
    intro c7 c8 R N _;have F:=aPo (x:=(e,d)) (z.alloc _) (q.o.alloc J _) R N;clear R N z;go_wp2;go_roundw;case rel=>exact ⟨b+1,P++[((e,d),.slice g d.length i)],by omega,by go_num,by rw [u.o];simp,aPn D.o ⟨g,i,rfl,W.o⟩,F.1,F.2⟩
    case measure=>simp [intOf];omega
   ·have u:aM (bT (c.take (b+1))=P.map zw):=aA (by rw [r.o];simp [eG,hm]);rw [hm] at p;clear hm r;go_wp2_with (first
     |(go_at_call 70;refine (aD p).mono ?_;rintro v U ⟨rfl,j⟩;have Y:=aA (bG (X.o.alloc (.cells #[.bool e,.slice g d.length i] 86)) j (zz _));have q:=aA (bK E.o j);clear j)
     |go_in)
    go_roundw;case rel=>exact ⟨b+1,P,by omega,by go_num,u.o.symm,D.o,Y.o,q.o⟩
    case measure=>simp [intOf];omega
  ·have O:c.take b=c:=zx (by omega);rw [O] at m;have V:=aA (And.intro m (And.intro n (And.intro o l)));clear O m n o l;go_wp2;go_ret;exact ⟨_,P,rfl,V.o⟩
