import Derived.Test.YtmelidkanelpbaaGreatDoorGNewT
import Derived.Test.YtmelidkanelpbaaGreatDoorXSr7T
import Derived.Test.YtmelidkanelpbaaGreatDoorCConcatT
open Bool renaming and_eq_true→zx,false_eq_true→zi
open List renaming all_eq_true→zz,getElem_mem→zy,take_succ_eq_append_getElem→zw,length_take→zu,getElem?_eq_getElem→zt,take_of_length_le→zs,getElem_map→zr,mem_map→zq,any_eq_true→zm,map_append→zl,mem_of_mem_take→zk,filterMap_cons→zj,map_map→zg,flatMap_cons→zf,take_length→ze,map_id→zd
open Nat renaming le_refl→zo
open Prod renaming snd→zv
namespace Go.Proofs.YtmelidkanelpbaaGreatDoor
open _root_.Go.Proofs.Tryz renaming prog→zp,underlying22→zh
open World renaming cell?→zn
set_option maxHeartbeats 4000000
set_option maxRecDepth 100000
variable{cs:List (List Lt)}{T:List (aK×Value)}{L:List Cd}{c d:List Lt}{ks:List Nat}{n:Nat}{v:Value}{w:World}
section
open Go.RowKit
theorem aE6(c:Int)(n:Nat)(i:nG c)(r:1<=n)(s:n<=1000)(w:World):Calls zp 8 #[.int .i64 c,.int .i64 n] w λg l=>(∃a:Nat,g=.returned (.int .i64 a)/\a=dO c n/\a<n)/\l=w:=by
 obtain ⟨p,q⟩:=i;have t:(n:Int)≠0:=by omega
 have u:((n:Int)==0)=false:=by simp;omega
 have e:=zW c (show 0<n by omega);have f:∀d:Int,0<=d->Int.tmod d n=((Int.tmod d n).toNat:Int):=λd j=>by
  have m:=Int.tmod_nonneg (n:Int) j;omega
 by_cases b:c<0
 ·have k:Int.tmod (-(c+1)) n=(dO c n:Int):=by
   rw [f _ (by omega)];unfold dO;rw [aI b]
  generalize dO c n=a at *;go_enter Tryz.func8,Tryz.ntmps8;go_wp2;go_ret;exact ⟨⟨a,rfl,rfl,e⟩,rfl⟩
 ·have o:decide (c<0)=false:=by simpa using b
  have k:Int.tmod c n=(dO c n:Int):=by rw [f _ (by omega)];unfold dO;rw [aH b]
  generalize dO c n=a at *;go_enter Tryz.func8,Tryz.ntmps8;go_wp2;go_ret;exact ⟨⟨a,rfl,rfl,e⟩,rfl⟩
theorem aX7(c:Int)(g:nG c)(w:World):Calls zp 15 #[.int .i64 c] w λf p=>(∃b:ByteArray,f=.returned (.string b)/\b=mZ c/\b.size=1)/\aB w p:=by
 have k:=aA (λe=>aE6 c 4 g (by omega) (by omega) e);have l:=aA (λo=>(Below.refl w.heap.size w).alloc (zo _) o);clear g;go_enter Tryz.func15,Tryz.ntmps15;go_wp2_with (first
  |(go_at_call 8;refine (aD k _).mono ?_;rintro f e ⟨⟨a,rfl,i,q⟩,j⟩;rw [j];clear j e;have m:=aA i;clear i;obtain rfl|rfl|rfl|rfl:a=0\/a=1\/a=2\/a=3:=by omega)
  |go_in)
 all_goals
  go_ret;exact ⟨⟨_,rfl,(by unfold mZ;rw [<-m.o];rfl),rfl⟩,l.o _⟩
structure wJ(w:World)(a:Option Addr)(X:List (Value×List Rl)):Prop where
 cell:∀k (h:k<X.length),∃g,a=some ⟨g,0,none⟩/\w.cell? ⟨g,k,none⟩=some X[k].1
 raw:∀k (h:k<X.length),∃ra rc,X[k].1=.slice ra X[k].2.length rc/\lQ w ra X[k].2
theorem wJ.below{w':World}{e:Option Addr}{X:List (Value×List Rl)}(f:wJ w e X)(i:aB w w'):wJ w' e X:=
 ⟨λk b=>by
  obtain ⟨g,a,j⟩:=f.cell k b;exact ⟨g,a,aC i j⟩,λk b=>by
  obtain ⟨m,o,a,l⟩:=f.raw k b;exact ⟨m,o,a,l.below i⟩⟩
theorem aX8(b:ByteArray)(c:List Rl)(a:Nat)(f:a<c.length):b++gS true (c.take (a+1))=b++gS true (c.take a)++(if 0<a then ⟨#[32,124,32]⟩ else ⟨#[]⟩)++qH c[a].1++qG c[a]:=by
 rw [zw f,aGu];have:tW (true && (c.take a).isEmpty)=if 0<a then ⟨#[32,124,32]⟩ else ⟨#[]⟩:=by
  by_cases e:0<a
  ·rw [aI e];have:(c.take a).isEmpty=false:=by
    cases he:(c.take a).isEmpty with
    |false=>rfl
    |true=>
     rw [List.isEmpty_iff] at he;have:=congrArg List.length he;rw [zu,List.length_nil] at this;omega
   rw [this];rfl
  ·rw [aH e];obtain rfl:a=0:=by omega
   rfl
 rw [this];simp [tV,ByteArray.append_assoc]
theorem aX9(b:List (List Rl))(a:Nat)(e:a<b.length):gL (b.take (a+1))=gL (b.take a)++qI b[a]:=by rw [zw e,aGv]
def fT(n:Nat):ByteArray:=if n=0 then ⟨#[36,102,97,108,115,101]⟩ else ⟨#[]⟩
theorem aXa(c:List Rl):qI c=fT c.length++gS true c++⟨#[46,32]⟩:=by unfold qI fT;cases c<;>rfl
theorem aXb(b8:Option Addr)(f4:Nat)(e:List (Value×List Rl))(w:World)(c9:wJ w b8 e)(h6:e.length<=40)(c7:∀F∈e,F.2.length<=4):Calls zp 10 #[.slice b8 e.length f4] w λk P=>k=.returned (.string (gL (e.map zv)))/\aB w P:=by
 have b7:=aA c9;have b1:=aA c7;have a9:=aA (λ(c:Int) (m:nG c) b=>aE6 c 2 m (by omega) (by omega) b);have R:=aA (λ(c:Int) (m:nG c) b=>aX7 c m b);clear c9 c7;go_enter Tryz.func10,Tryz.ntmps10;go_wp2;go_loopw [3,4] (λo a3 wr=>∃(g:Nat),o=.string (gL ((e.map zv).take g))/\a3=.int .i64 g/\g<=e.length/\aB w wr) (λ_ a3 _=>e.length-(intOf a3).toNat);case atStart=>exact ⟨0,rfl,rfl,by omega,Below.refl _ _⟩
 case round=>
  obtain ⟨g,rfl,rfl,h3,i⟩:=hrel;by_cases J:g<e.length
  ·obtain ⟨g9,rfl,m⟩:=b7.o.cell g J;obtain ⟨i5,i6,d7,d3⟩:=b7.o.raw g J;have h8:=b1.o _ (zy J);have h4:(g:Int)<(e.length:Int):=by omega
   rw [d7] at m;have A:=aA (aX9 (e.map zv) g (by simpa using J));rw [zr] at A;have c8:(gL ((e.map zv).take g)).size<=2080:=by
    have:=zY ((e.map zv).take g) (λc m=>by
     obtain ⟨F,D,rfl⟩:=zq.1 (zk m);exact b1.o F D)
    have h0:((e.map zv).take g).length<=40:=by rw [zu];omega
    omega
   obtain ⟨Z,b3⟩ : ∃Z,aM (gL ((e.map zv).take (g+1))=Z):=⟨_,aA rfl⟩;rw [b3.o] at A;generalize gL ((e.map zv).take g)=S at A c8 ⊢;generalize e[g].2=l at *;have g8:=aC i m;have b5:=aA d3;have U:=aA i;clear i d7 d3;go_upto_if 18 with (fail);go_cut [3] (λo b=>o=.string (S++fT l.length)/\b=wr);case first=>
    by_cases a0:l.length=0
    ·have f5:((l.length:Int)==0)=true:=by simp [a0]
     go_wp2;go_meet;case rel=>exact ⟨by unfold fT;rw [aI a0],rfl⟩
    ·have f5:((l.length:Int)==0)=false:=zN (by omega);go_wp2;go_meet;case rel=>exact ⟨by unfold fT;rw [aH a0,tU],rfl⟩
   case rest=>
    obtain ⟨rfl,rfl⟩:=hcut;have f6:(S++fT l.length).size<=2086:=by
     have:(fT l.length).size<=6:=by unfold fT;split<;>decide
     rw [ByteArray.size_append];omega
    have Y:aM (Z=(S++fT l.length)++gS true l++⟨#[46,32]⟩):=aA (by rw [A.o,aXa];simp [ByteArray.append_assoc]);generalize S++fT l.length=S1 at f6 Y ⊢;clear A c8;go_wp2;go_loopw [3,5] (λo a4 wr=>∃(a:Nat),o=.string (S1++gS true (l.take a))/\a4=.int .i64 a/\a<=l.length/\aB w wr) (λ_ a4 _=>l.length-(intOf a4).toNat);case atStart=>exact ⟨0,by rw [List.take_zero];exact congrArg Value.string (tU S1).symm,rfl,Nat.zero_le _,U.o⟩
    case round=>
     obtain ⟨a,rfl,rfl,h1,i⟩:=hrel;have f3:=aC i m;by_cases a1:a<l.length
     ·obtain ⟨g7,i4,rfl,b9,c0,c1,c2⟩:=b5.o.cell a a1;obtain ⟨a5,a6,a7⟩:=b5.o.rng a a1;have c3:=aC i b9;have c4:=aC i c0;have c5:=aC i c1;have c6:=aC i c2;have h2:(a:Int)<(l.length:Int):=by omega
      have g0:=i.size;have V:=aA i;have x:=aA (aX8 S1 l a a1);have M:(S1++gS true (l.take a)).size<=2200:=by have:=zX (l.take a) true;rw [zu] at this;rw [ByteArray.size_append];omega
      obtain ⟨e3,X⟩ : ∃e3,aM (e3=S1++gS true (l.take (a+1))):=⟨_,aA rfl⟩;rw [<-X.o] at x;generalize S1++gS true (l.take a)=t at x M ⊢;generalize l[a]=F at *;obtain ⟨r,Q,y,z⟩:=F;simp only at c3 c4 c5 c6 a5 a6 a7;have e5:=aA (λb=>aD a9 Q a5 b);have b0:=aA (λb=>aD R y a6 b);have e6:=aA (λb=>aD R z a7 b);clear b9 c0 c1 c2 i a5 a6 a7 a9 R;go_upto_region 11 with (fail);obtain ⟨j,e0,d0,E⟩ : ∃j,wr.alloc (.cells #[.bool r,.int .i64 Q,.int .i64 y,.int .i64 z] 38)=j/\aB wr j/\j.heap[wr.heap.size]?=some (.cells #[.bool r,.int .i64 Q,.int .i64 y,.int .i64 z] 38 (0,0)):=⟨_,rfl,(Below.refl _ wr).alloc (zo _) _,(by show (wr.heap.push _)[wr.heap.size]?=_;simp)⟩;simp only [e0];have g1:j.cell? ⟨wr.heap.size,0,none⟩=some (.bool r):=by simp [zn,E]
      have g2:j.cell? ⟨wr.heap.size,1,none⟩=some (.int .i64 Q):=by simp [zn,E]
      have g3:j.cell? ⟨wr.heap.size,2,none⟩=some (.int .i64 y):=by simp [zn,E]
      have g4:j.cell? ⟨wr.heap.size,3,none⟩=some (.int .i64 z):=by simp [zn,E]
      have b2:=aA (V.o.trans (d0.mono g0));clear e0 E d0 c3 c4 c5 c6 f3;go_upto_if 38 with (fail);go_cut [3] (λo b=>o=.string (t++(if 0<a then ⟨#[32,124,32]⟩ else ⟨#[]⟩))/\b=j);case first=>
       by_cases I:0<a
       ·have f7:(0:Int)<(a:Int):=by omega
        have f8:decide (0<a)=true:=eZ I;go_wp2;go_meet;case rel=>exact ⟨by rw [aI I],rfl⟩
       ·have f7:decide ((0:Int)<(a:Int))=false:=by rw [decide_eq_false_iff_not];omega
        have f8:decide (0<a)=false:=fZ I;go_wp2;go_meet;case rel=>exact ⟨by rw [aH I,tU],rfl⟩
      case rest=>
       obtain ⟨rfl,C⟩:=hcut;rw [C];clear C;have d4:(t++(if 0<a then ⟨#[32,124,32]⟩ else ⟨#[]⟩)).size<=2210:=by
        have:(if 0<a then (⟨#[32,124,32]⟩ : ByteArray) else ⟨#[]⟩).size<=3:=by split<;>decide
        rw [ByteArray.size_append];omega
       generalize t++(if 0<a then ⟨#[32,124,32]⟩ else ⟨#[]⟩)=N at x d4 ⊢;go_upto_if 42 with (fail);go_cut [3] (λo b=>o=.string (N++qH r)/\b=j);case first=>
        cases r
        ·go_wp2;go_meet;case rel=>exact ⟨by rw [show qH false=⟨#[]⟩ from rfl,tU],rfl⟩
        ·go_wp2;go_meet;case rel=>exact ⟨rfl,rfl⟩
       case rest=>
        obtain ⟨rfl,C⟩:=hcut;rw [C];clear C;have a2:(N++qH r).size<=2220:=by
         have:(qH r).size<=1:=by unfold qH;split<;>decide
         rw [ByteArray.size_append];omega
        generalize N++qH r=t1 at x a2 ⊢;clear M d4;go_wp2_with (first
         |(go_at_call 8;refine (aD e5 _).mono ?_;rintro k b ⟨⟨e2,rfl,d2,h5⟩,e1⟩;rw [e1];clear e1 b;have b4:=aA d2;clear d2;obtain rfl|rfl:e2=0\/e2=1:=by omega)
         |(go_at_call 15;refine (aD b0 _).mono ?_;rintro k q ⟨⟨p,rfl,d5,h7⟩,s⟩;have f0:=aA d5;have W:=aA (bE b2.o s);clear s d5)
         |go_in)
        ·go_roundw;case rel=>exact ⟨a+1,(by rw [<-X.o,x.o];unfold qG;rw [aI b4.o.symm,f0.o];simp [ByteArray.append_assoc]),by go_num,by omega,W.o⟩
         case measure=>simp [intOf];omega
        ·have e7:=aA (λ(b:World) (D:∃u,b=j.drewN u)=>(b0.o b).mono (R':=λk q=>(∃p:ByteArray,k=.returned (.string p)/\p=mZ y/\p.size=1)/\aB j q) (λk q B=>by obtain ⟨u,rfl⟩:=D;exact ⟨B.1,(aS ⟨u,rfl⟩).trans B.2⟩));have e8:=aA (λ(q b:World) (D:∃u,b=q.drewN u)=>(e6.o b).mono (R':=λk a8=>(∃p:ByteArray,k=.returned (.string p)/\p=mZ z/\p.size=1)/\aB q a8) (λk a8 B=>by obtain ⟨u,rfl⟩:=D;exact ⟨B.1,(aS ⟨u,rfl⟩).trans B.2⟩));have h9:¬(9223372036854775807<t1.size+2):=by omega
         have G:=aA a2;clear g1 g2 a2;go_region_held3 (λP=>P.cell? ⟨wr.heap.size,2,none⟩=some (.int .i64 y)/\P.cell? ⟨wr.heap.size,3,none⟩=some (.int .i64 z)) (first|trivial|go_keep)
          (first
           |(go_at_call 15;refine (aD e8 q _ (by first|exact ⟨0,rfl⟩|exact ⟨1,rfl⟩|exact ⟨_,rfl⟩)).mono ?_;rintro k a8 ⟨⟨e4,rfl,d9,f9⟩,H⟩;have f2:=aA d9;have N:=aC H g5;have i7:=aC H g6;have e9:=aA (bE W.o H);have i0:¬(9223372036854775807<t1.size+2+O.size+2+e4.size):=(by have:=G.o;have:=b6.o;omega);have i1:¬(9223372036854775807<t1.size+2+O.size+2+e4.size+1):=(by have:=G.o;have:=b6.o;omega);clear H f9 d9)
           |(go_at_call 15;refine (aD e7 _ (by first|exact ⟨0,rfl⟩|exact ⟨1,rfl⟩|exact ⟨_,rfl⟩)).mono ?_;rintro k q ⟨⟨O,rfl,d8,d6⟩,s⟩;have f1:=aA d8;have g5:=aC s g3;have g6:=aC s g4;have W:=aA (bE b2.o s);have i2:¬(9223372036854775807<t1.size+2+O.size):=(by have:=G.o;omega);have i3:¬(9223372036854775807<t1.size+2+O.size+2):=(by have:=G.o;omega);have b6:=aA d6;clear s d6 d8)
           |go_in)
         go_wp2;go_roundw;case rel=>exact ⟨a+1,(by rw [<-X.o,x.o];unfold qG;rw [aH (by rw [<-b4.o];omega),f1.o,f2.o];simp [ByteArray.append_assoc]),by go_num,by omega,e9.o⟩
         case measure=>simp [intOf];omega
     ·obtain rfl:a=l.length:=by omega
      have V:=aA i;rw [ze];have M:(S1++gS true l).size<=2200:=by have:=zX l true;rw [ByteArray.size_append];omega
      generalize S1++gS true l=t at Y M ⊢;clear i;go_wp2;go_roundw;case rel=>exact ⟨g+1,(by rw [b3.o,Y.o]),by go_num,by omega,V.o⟩
      case measure=>simp [intOf];omega
  ·obtain rfl:g=e.length:=by omega
   have d1:(e.map zv).take e.length=e.map zv:=by rw [<-List.length_map (f:=zv),ze]
   rw [d1];have U:=aA i;clear i d1;go_wp2;go_ret;exact ⟨rfl,U.o⟩
abbrev Kr:=Option Addr×Nat×List Rl
def nN(a:Kr):Value:=.slice a.1 a.2.2.length a.2.1
structure wK(w:World)(a:Option Addr)(X:List Kr):Prop where
 cell:∀k (h:k<X.length),∃b o,a=some ⟨b,o,none⟩/\w.cell? ⟨b,o+k,none⟩=some (nN X[k])
 raw:∀x∈X,lQ w x.1 x.2.2/\x.2.2.length<=x.2.1
theorem wK.below{w':World}{b:Option Addr}{X:List Kr}(a:wK w b X)(e:aB w w'):wK w' b X:=
 ⟨λk l=>by
  obtain ⟨g,m,i,j⟩:=a.cell k l;exact ⟨g,m,i,aC e j⟩,λx f=>⟨(a.raw x f).1.below e,(a.raw x f).2⟩⟩
structure uK(B:Nat)(w:World)(v:Value)(Y:List Kr):Prop where
 row:w.ownsRow B 25 1 v Y.length (Y.map nN)
 raw:∀x∈Y,lQ w x.1 x.2.2
theorem uK.cell{B:Nat}{Y:List Kr}(f:uK B w v Y):∃a i,v=.slice a Y.length i/\wJ w a (Y.map λy=>(nN y,y.2.2))/\∀k (b:k<Y.length),∃g,a=some ⟨g,0,none⟩/\w.cell? ⟨g,k,none⟩=some (nN Y[k]):=by
 obtain ⟨a,i,rfl⟩:=aZ f.row;have l:∀k (b:k<Y.length),∃g,a=some ⟨g,0,none⟩/\w.cell? ⟨g,k,none⟩=some (nN Y[k]):=λk b=>by
  obtain ⟨_,⟨_,e⟩|⟨g,p,q,e,_⟩⟩:=f.row
  ·omega
  ·simp at e;have m:=f.row;rw [e.1] at m;exact ⟨g,e.1,by rw [m.cellAt k (by simpa using b)];simp [b]⟩
 refine ⟨a,i,rfl,⟨λk b=>?_,λk b=>?_⟩,l⟩
 ·have j:k<Y.length:=by simpa using b
  obtain ⟨g,e,o⟩:=l k j;exact ⟨g,e,by rw [zr];exact o⟩
 ·have j:k<Y.length:=by simpa using b
  rw [zr];exact ⟨_,_,rfl,f.raw _ (zy j)⟩
theorem aKg:(zp.info? 25).map (λa=>(a.zero,a.size,a.bytes))=some (some (.slice none 0 0),1,24):=by kernel_rfl
theorem aKh{a:Nat}{f:TypeId}{k:Nat}{j:List Value}(g:w.ownsRow a f k v n j){e:Nat}(b:v.ownBlock=some e):a<=e:=by
 obtain ⟨_,⟨rfl,_⟩|⟨o,l,m,rfl,i,_⟩⟩:=g
 ·cases b
 ·cases b;exact i
def jC(a:Kr):Kr:=(a.1,a.2.1,a.2.2.take 4)
theorem aXc{a:Kr}(b:lQ w a.1 a.2.2):lQ w (jC a).1 (jC a).2.2:=b.take 4
theorem aXd(G:Option Addr)(a3:Nat)(b:List Kr)(e:Nat)(d0:e<=1000)(w:World)(J:wK w G b):Calls zp 7 #[.slice G b.length a3,.int .i64 e] w λq W=>∃v,q=.returned v/\uK w.heap.size W v ((b.take e).map jC)/\aB w W:=by
 have t:=aA J;obtain ⟨b5,hK,a8,a9,b0⟩:=info_parts aKg;clear J;go_enter Tryz.func7,Tryz.ntmps7;go_wp2;go_loopw [5,6] (λb6 y wr=>∃a:Nat,y=.int .i64 a/\a<=b.length/\a<=e/\uK w.heap.size wr b6 ((b.take a).map jC)/\aB w wr) (λ_ y _=>b.length-(intOf y).toNat);case atStart=>exact ⟨0,rfl,by omega,by omega,⟨World.ownsRow_nil _ _ _ _,λj m=>by simp at m⟩,Below.refl _ _⟩
 case round=>
  obtain ⟨a,rfl,c7,c8,l,k⟩:=hrel;by_cases b2:a<b.length/\a<e
  ·obtain ⟨r,c4⟩:=b2;obtain ⟨c1,d2,rfl,O⟩:=t.o.cell a r;obtain ⟨x,b1⟩:=t.o.raw _ (zy r);have H:(a:Int)<(b.length:Int):=by omega
   have a5:(a:Int)<(e:Int):=by omega
   have D:aM ((b.take (a+1)).map jC=(b.take a).map jC++[jC b[a]]):=aA (by rw [zw r,zl];rfl);have a2:aM (∀j∈(b.take a).map jC++[jC b[a]],lQ w j.1 j.2.2):=aA (by
    rw [<-D.o];intro j m;obtain ⟨b9,b4,rfl⟩:=zq.1 m;exact aXc (t.o.raw b9 (zk b4)).1)
   have c9:((b.take a).map jC).length<=1000:=by rw [List.length_map,zu];omega
   generalize b[a]=j at *;generalize (b.take a).map jC=Y at *;have u:=aC k O;have s:=x.below k;have N:=k.size;have o:=aA k;have c0:=aA s;have p:=aA l;obtain ⟨i,f,g⟩:=j;unfold nN at u;simp only at u b1 x s;obtain ⟨X,Z,rfl⟩:=aZ l.row;clear k l O x;go_upto_if 25 with (fail);go_cut [7] (λa4 b8=>a4=.slice i (g.take 4).length f/\b8=wr);case first=>
    by_cases I:4<g.length
    ·have a7:(4:Int)<(g.length:Int):=by omega
     have a6:decide (4<g.length)=true:=eZ I;have c6:4<=f:=by omega
     obtain ⟨c2,q,rfl,_⟩:=s.cell 0 (by omega);go_wp2;go_meet;case rel=>exact ⟨by rw [zu,Nat.min_eq_left (by omega)],rfl⟩
    ·have a7:decide ((4:Int)<(g.length:Int))=false:=by rw [decide_eq_false_iff_not];omega
     have a6:decide (4<g.length)=false:=fZ I;go_wp2;go_meet;case rel=>exact ⟨by rw [zs (by omega)],rfl⟩
   case rest=>
    obtain ⟨rfl,U⟩:=hcut;rw [U];clear U s u;have a1:aM (nN (jC (i,f,g))=.slice i (g.take 4).length f):=aA rfl;generalize (g.take 4).length=xn at *;have E:=aA (bJ p.o.row ((Below.refl _ wr).alloc (zo _) (.cells #[.slice i xn f] 25)) (zo _));have b3:∀V∈[Value.slice i xn f],V.oneCell'=true:=by intro V S;simp at S;subst S;rfl
    have A:=aA ((Below.refl _ wr).alloc (zo _) (.cells #[.slice i xn f] 25));go_wp2_with (first
     |(at_builtin;refine wpList_append_own _ rfl (.tmp 28) (.tmp 30) 22 rfl w.heap.size 25 b5 (.slice none 0 0) 1 24 zh hK a8 a9 b0 rfl (by decide) _ _ _ rfl E.o ⟨wr.heap.size,0,none⟩ 1 1 [.slice i xn f] rfl rfl (sG wr _ _ _ rfl) b3 (by unfold maxLen;omega) (by omega) (by simp;omega) ?_;intro b7 z R Q _;have F:=aA R;have C:=aA Q;clear R Q)
     |go_in)
    have P:(wr.alloc (.cells #[.slice i xn f] 25)).grownBy z (Value.slice X Y.length Z).ownBlock:=C.o;have M:aB w z:=Below.grown (o.o.trans (A.o.mono N)) P (Nat.le_trans N A.o.size) (λd1 q=>aKh E.o q);have a0:aM (uK w.heap.size z b7 (Y++[jC (i,f,g)])):=aA ⟨by have:=F.o;rw [<-a1.o] at this;simpa using this,λj m=>(a2.o j m).below M⟩;clear P F C;go_roundw;case rel=>exact ⟨a+1,by go_num,by omega,by omega,by rw [D.o];exact a0.o,M⟩
    case measure=>simp [intOf];omega
  ·have p:=aA l;have o:=aA k;obtain ⟨X,Z,rfl⟩:=aZ l.row;have B:aM ((b.take a).map jC=(b.take e).map jC):=aA (by
    congr 1
    rcases Nat.lt_or_ge a b.length with h|h
    ·rw [show a=e by omega]
    ·rw [zs h,zs (by omega)])
   clear l k;by_cases r:a<b.length
   ·have H:(a:Int)<(b.length:Int):=by omega
    have a5:decide ((a:Int)<(e:Int))=false:=by rw [decide_eq_false_iff_not];omega
    have c5:decide (a<e)=false:=by rw [decide_eq_false_iff_not];omega
    generalize ((b.take a).map jC).length=yn at *;go_wp2;go_ret;exact ⟨_,rfl,by rw [<-B.o];exact p.o,o.o⟩
   ·have H:decide ((a:Int)<(b.length:Int))=false:=by rw [decide_eq_false_iff_not];omega
    have c3:decide (a<b.length)=false:=by rw [decide_eq_false_iff_not];omega
    generalize ((b.take a).map jC).length=yn at *;go_wp2;go_ret;exact ⟨_,rfl,by rw [<-B.o];exact p.o,o.o⟩
end
section
open Go.RowKit Go.Shelf Go.WideMaps
theorem bH.push{x:aK×Int}{g:List (aK×Int)}{L':List Cd}{f:Nat}{b e:Bool}(a:bH (x::g) L n b L' f e)(k:x.2=0)(l:bP x.1.c=true)(m:eO x.1.c=false):∃i j,bH g (iE L.length (L++[eC x.1 i j n]) L.length) (n+1) b L' f e:=by unfold bH at a;rw [aH (by simp [k,l]),aH (by simp [m])] at a;exact a
theorem aXe:sC pN:=⟨by kernel_rfl,by kernel_rfl⟩
def mQ(c:List Lt):Bool:=c.all λa=>match a.2 with|[n]=>!aL n && aX n==0|_=>false
theorem yJ(e:mQ c=true){a:Lt}(f:a∈c):∃n,a.2=[n]/\sC n:=by
 have:=zz.1 e a f;split at this
 ·rename_i n b;simp at this;exact ⟨n,b,this.1,this.2⟩
 ·cases this
def yK(c d:List Lt):Bool:=decide (c.length<=d.length) && c.all λa=>d.any λb=>decide (b=a)
theorem aKi{a:Lt}:(d.any λb=>decide (b=a))=true↔a∈d:=by
 rw [zm];constructor
 ·rintro ⟨b,g,e⟩;have:=of_decide_eq_true e;subst this;exact g
 ·intro f;exact ⟨a,f,eZ rfl⟩
theorem aE7(i:mQ c=true):bD c d=yK c d:=by
 refine (aO3 ?_).symm;unfold yK;rw [zx,decide_eq_true_eq,zz];refine and_congr Iff.rfl ⟨λf=>?_,λ⟨k,_,_,f⟩ e b=>?_⟩
 ·refine ⟨λ_=>[(⟨#[]⟩,0)],λ_=>by kernel_rfl,λm l j=>by simp [look] at j,λe b=>?_⟩;obtain ⟨n,a,g⟩:=yJ i b;have:=aKi.1 (f e b);rw [a,nH];simp only [g.1,zi,if_false];rw [show ([n]++subst _ []:List Nd)=e.2 by rw [a];rfl];exact this
 ·obtain ⟨n,a,g⟩:=yJ i b;have:=f e b;rw [a,nH] at this;simp only [g.1,zi,if_false] at this;rw [show ([n]++subst k []:List Nd)=e.2 by rw [a];rfl] at this;exact aKi.2 this
theorem aKj{a:Nat×Nat}(b:a∈fI c d):a.1<c.length/\a.2<d.length/\iW c a.1=iW d a.2:=by obtain ⟨q,r⟩:=a;obtain ⟨k,m,j⟩:=List.getElem_of_mem b;have e:=aFi (k:=k) (by rw [zt m,j]);unfold fI lL at b;obtain ⟨o,_,f⟩:=List.mem_flatMap.1 b;unfold kT at f;obtain ⟨p,l,g⟩:=zq.1 f;have i:=(List.mem_filter.1 l).2;simp at g i;obtain ⟨rfl,rfl⟩:=g;exact ⟨e.1,e.2,i⟩
theorem aKk(k:mQ c=true)(l:mQ d=true){b e:Nat}(i:b<c.length)(j:e<d.length)(a:iW c b=iW d e):∃n,c[b].2=[n]/\d[e].2=[n]/\sC n:=by obtain ⟨n,f,m⟩:=yJ k (zy i);obtain ⟨o,g,_⟩:=yJ l (zy j);unfold iW at a;rw [zt i,zt j] at a;simp [f,g] at a;subst a;exact ⟨n,f,g,m⟩
theorem aE8(f:mQ c=true)(k:Int)(j:Nat):∀e∈(c.eraseIdx j).map (λa=>(k,a)),∃b,e.2.2=[b]/\sC b:=by intro e i;obtain ⟨a,g,rfl⟩:=zq.1 i;exact yJ f (List.mem_of_mem_eraseIdx g)
def aE9(c:List Lt)(b:Nat)(d:List Lt)(e:Nat)(a:Nat×Nat):Option (aK×Int):=if gH c a.1≠gH d a.2 then some (⟨2,b,e,a.1,a.2,aV (c.eraseIdx a.1++d.eraseIdx a.2)⟩,0) else none
def aEa(c:List Lt)(b:Nat)(a:Nat×Nat):Option (aK×Int):=if a.1<a.2/\gH c a.1=gH c a.2 then some (⟨3,b,0,a.1,a.2,aV (c.eraseIdx a.2)⟩,0) else none
def aKl(c d:List Lt):Bool:=(fI c d).all λa=>decide (aR (aV (c.eraseIdx a.1++d.eraseIdx a.2))<=500)
def aKm(c:List Lt):Bool:=(fI c c).all λa=>decide (aR (aV (c.eraseIdx a.2))<=500)
theorem aEb{f j:Type}{b e:f->Option j}:∀(a:List f),(∀x∈a,b x=e x)->a.filterMap b=a.filterMap e
 |[],_=>rfl
 |x::a,h=>by rw [zj,zj,h x (by simp),aEb a λi g=>h i (by simp [g])]
theorem aXf(e f:Nat)(g:mQ c=true)(i:mQ d=true)(y:aKl c d=true):gI c e d f=(fI c d).filterMap (aE9 c e d f):=by
 unfold gI;refine aEb _ λa m=>?_
 obtain ⟨j,k,u⟩:=aKj m;obtain ⟨n,p,q,x⟩:=aKk g i j k u;have t:=of_decide_eq_true (zz.1 y a m);have hr:bB 0 [(c,a.1),(d,a.2)]=(c.eraseIdx a.1).map (λb=>((0:Int),b))++(d.eraseIdx a.2).map (λb=>((1:Int),b)):=by simp [bB]
 have l:(bB 0 [(c,a.1),(d,a.2)]).map zv=c.eraseIdx a.1++d.eraseIdx a.2:=by
  rw [hr,zl,zg,zg];congr 1
  ·exact zd _
  ·exact zd _
 have r:eG (aN 0 c[a.1].2++aN 1 d[a.2].2) 0 c[a.1].2.length (bB 0 [(c,a.1),(d,a.2)]) (aV (c.eraseIdx a.1++d.eraseIdx a.2)) true 0:=by
  have:=aBz x 0 1 (bB 0 [(c,a.1),(d,a.2)]) (by
   rw [hr];intro o hr;rcases List.mem_append.1 hr with hr|hr
   ·exact aE8 g 0 _ o hr
   ·exact aE8 i 1 _ o hr) (by rw [l];exact t)
  rw [l] at this;rw [p,q];exact this
 have s:=aN7 j k r;unfold mV aE9;rw [s];simp
theorem aXg(e:Nat)(b:mQ c=true)(t:aKm c=true):mA c e=(fI c c).filterMap (aEa c e):=by
 unfold mA;refine aEb _ λa j=>?_
 obtain ⟨f,g,r⟩:=aKj j;obtain ⟨n,l,m,s⟩:=aKk b b f g r;have q:=of_decide_eq_true (zz.1 t a j);have k:bB 0 [(c,a.2)]=(c.eraseIdx a.2).map (λu=>((0:Int),u)):=by simp [bB]
 have i:(bB 0 [(c,a.2)]).map zv=c.eraseIdx a.2:=by rw [k,zg];exact zd _
 have o:eG (aN 0 c[a.1].2++aN 0 c[a.2].2) 0 c[a.1].2.length (bB 0 [(c,a.2)]) (aV (c.eraseIdx a.2)) true 0:=by have:=aBz s 0 0 (bB 0 [(c,a.2)]) (by rw [k];exact aE8 b 0 _) (by rw [i];exact q);rw [i] at this;rw [l,m];exact this
 have p:=aN6 f g o;unfold lZ aEa;rw [p];simp
def aEc(cs:List (List Lt))(a:Nat)(e:List Nat):List (aK×Int):=(fI (cs.getD a []) (cs.getD a [])).filterMap (aEa (cs.getD a []) a)++e.flatMap λb=>(fI (cs.getD a []) (cs.getD b [])).filterMap (aE9 (cs.getD a []) a (cs.getD b []) b)
def okF(cs:List (List Lt))(a:Nat)(e:List Nat):Bool:=mQ (cs.getD a []) && aKm (cs.getD a []) && e.all λb=>mQ (cs.getD b []) && aKl (cs.getD a []) (cs.getD b [])
theorem aKn{f j:Type}{b e:f->List j}:∀(a:List f),(∀x∈a,b x=e x)->a.flatMap b=a.flatMap e
 |[],_=>rfl
 |x::a,h=>by rw [zf,zf,h x (by simp),aKn a λi g=>h i (by simp [g])]
theorem aXh{a:Nat}{g:List Nat}(j:∀k,aF T k=cs.getD k [])(e:okF cs a g=true):dU T a g=aEc cs a g:=by
 unfold okF at e;rw [zx,zx,zz] at e;obtain ⟨⟨i,l⟩,m⟩:=e;unfold dU aEc;rw [j a,aXg a i l];congr 1
 refine aKn _ λb o=>?_
 have f:=m b o;rw [zx] at f;rw [j b,aXf a b i f.1 f.2]
def aEe(cs:List (List Lt))(ks:List Nat)(c:List Lt):List Nat:=(ks.filter λa=>!yK c (cs.getD a []))++[cs.length]
theorem aXi(e:∀a,aF T a=cs.getD a [])(f:T.length=cs.length)(b:mQ c=true):bZ T ks c=aEe cs ks c:=by
 unfold bZ aEe;rw [f];congr 2
 funext a
 rw [e,aE7 b]
theorem aKo(g:∀a,aF T a=cs.getD a [])(e:ks.all (λa=>mQ (cs.getD a []))=true):(λc=>ks.any λa=>bD (aF T a) c)=λc=>ks.any λa=>yK (cs.getD a []) c:=by
 funext c
 rw [Bool.eq_iff_iff,zm,zm];constructor
 ·rintro ⟨a,b,f⟩;refine ⟨a,b,?_⟩;rwa [g,aE7 (zz.1 e a b)] at f
 ·rintro ⟨a,b,f⟩;refine ⟨a,b,?_⟩;rwa [g,aE7 (zz.1 e a b)]
theorem yL(T:List (aK×Value))(a:Nat):aF T a=(T.map λb=>b.1.c).getD a []:=by unfold aF;rw [List.getD_eq_getElem?_getD,List.getElem?_map]
theorem cL.takeF{k:Nat}{m:Nat->List (aK×Value)->List Nat->Bool->Prop}{L':List Cd}{ks':List Nat}{o:Bool}{x:Cd}{F:List (aK×Int)}(cs:List (List Lt))(a:aK)(M:tI x a.r a.a a.b a.i a.j/\x.c=a.c)(i:(T.map λR=>R.1.c)=cs)(C:(∀x∈L,aY x.c=true))(G:ks.all (λb=>aY (cs.getD b []) && mQ (cs.getD b []))=true)(N:aY a.c=true)(O:mQ a.c=true)
  (t:eH (λc=>ks.any λb=>yK (cs.getD b []) c) L.length L=some (x,L')) (B:a.c≠[]) (H:T.length≠k) (e:aEe cs ks a.c=ks') (J:okF (cs++[a.c]) cs.length ks'=true) (u:aEc (cs++[a.c]) cs.length ks'=F)
  (y:F.all (λf=>decide (f.2=0) && aY f.1.c)=true) (A:∀f∈F,jE f.1.c) (z:L'.length+F.length<=1000000) (I:n+F.length<=1000000)
  (Q:∀l s p,bH F L' n o l s p->cL k m l s (T++[(a,.slice x.ad x.ln x.cp)]) ks' p):cL k m L n T ks o:=by
 have g:∀b,aF T b=cs.getD b []:=λb=>by rw [yL,i]
 have q:T.length=cs.length:=by rw [<-i];simp
 have j:=zz.1 G;have E:bZ T ks a.c=ks':=by rw [aXi g q O,e]
 have D:dU (T++[(a,.slice x.ad x.ln x.cp)]) T.length ks'=F:=by rw [q,aXh (cs:=cs++[a.c]) (λb=>by rw [yL,zl,i];rfl) J,u]
 refine cL.take a M (λx P b e=>?_) (by rw [aKo g (zz.2 λb e=>(zx _ _▸j b e).2)];exact t) B H (λb e=>?_) ?_ ?_ ?_ ?_
 ·rw [g];exact xO (zx _ _▸j b e).1 (C x P)
 ·rw [g];exact xO N (zx _ _▸j b e).1
 all_goals rw [E,D]
 ·intro f r;have:=zz.1 y f r;rw [zx] at this;exact ⟨A f r,λ_ _=>this.2⟩
 ·exact z
 ·exact I
 ·exact Q
theorem aKp{f:List Pl}(g:∀j∈f,j.2.1=true/\j.2.2.1=0):∀e a,¬oN f e a:=by
 intro e a;unfold oN aAw;have b:=g f[e] (zy a);rintro (h2|⟨k,hk,_,h3⟩)
 ·rw [b.2] at h2;omega
 ·have i:=g _ (zy (Nat.lt_trans hk a));rcases h3 with h3|h3
  ·exact h3 (i.1.trans b.1.symm)
  ·exact h3 (i.2.trans b.2.symm)
theorem aKq{cs:List (Nat×List Lt)}(g:cs.length<=40)(e:cs.all (λf=>bP (aV f.2))=true):∀b a,¬qQ cs b a:=by
 intro b a;unfold qQ;rintro (h1|h1)
 ·omega
 ·have:=zz.1 e _ (zy a);rw [h1] at this;cases this
def qN:Nd:=(⟨#[113]⟩,0)
def cQ:List Lt:=[(false,[qN])]
def oP:List Lt:=[(true,[qN])]
def kP:List Lt:=[(true,[pN]),(false,[qN])]
abbrev aAy:ByteArray:=⟨#[112,46,32,126,112,32,124,32,113,46,32,126,113,46]⟩
abbrev aEf:ByteArray:=⟨#[112,46,32,126,112,32,124,32,113,46]⟩
theorem aXj:uJ aAy=.ok (⟨10,[],[(⟨#[112]⟩,true,0,0),(⟨#[112]⟩,true,0,4),(⟨#[113]⟩,true,0,8),(⟨#[113]⟩,true,0,12)]⟩,[(0,[(false,[pN])]),(3,[(true,[pN]),(false,[qN])]),(11,[(true,[qN])])]):=by kernel_rfl
theorem aXk:uJ aEf=.ok (⟨7,[],[(⟨#[112]⟩,true,0,0),(⟨#[112]⟩,true,0,4),(⟨#[113]⟩,true,0,8)]⟩,[(0,[(false,[pN])]),(3,[(true,[pN]),(false,[qN])])]):=by kernel_rfl
theorem aAz{e:List (List Lt)}{a b:Int}(f:nO aAy e a b):e=[cP,kP,oP]/\a=0/\b=0:=by have:=aO7 f (by decide) aXj (aKp (by simp)) (aKq (by decide) (by kernel_rfl));rw [show [cP,kP,oP]=[(0,[(false,[pN])]),(3,[(true,[pN]),(false,[qN])]),(11,[(true,[qN])])].map (λp:Nat×List Lt=>aV p.2) by kernel_rfl];exact this
theorem aKr{e:List (List Lt)}{a b:Int}(f:nO aEf e a b):e=[cP,kP]/\a=0/\b=0:=by have:=aO7 f (by decide) aXk (aKp (by simp)) (aKq (by decide) (by kernel_rfl));rw [show [cP,kP]=[(0,[(false,[pN])]),(3,[(true,[pN]),(false,[qN])])].map (λp:Nat×List Lt=>aV p.2) by kernel_rfl];exact this
def lD:aK:=⟨1,0,0,0,0,cP⟩
def jP:aK:=⟨1,1,0,0,0,kP⟩
def oQ:aK:=⟨1,2,0,0,0,oP⟩
def pP:aK:=⟨2,2,0,0,0,cQ⟩
def yM:aK:=⟨2,2,1,1,0,cNp⟩
def pQ:aK:=⟨2,3,1,0,0,[]⟩
def yN:aK:=⟨2,1,0,0,0,cQ⟩
theorem aXl(e:aY c=true):jE c:=by have n:=lA e;refine ⟨by have:=n.len;omega,λb a=>⟨by have:=(n.term b a).2;omega,λg f=>?_⟩⟩;have:=aDy (aDz _ _ (n.term b a).1 _ (zy f));omega
theorem aEg{F:List (aK×Int)}(b:F.all (λa=>decide (a.2=0) && aY a.1.c)=true):∀a∈F,jE a.1.c:=λa e=>by
 have:=zz.1 b a e;rw [zx] at this;exact aXl this.2
def yO(b:Nat)(T:List (aK×Value))(_:List Nat)(a:Bool):Prop:=b=1/\T.map Prod.fst=[lD,oQ,jP,pP,pQ]/\a=false
def aB0(b:Nat)(_:List (aK×Value))(_:List Nat)(a:Bool):Prop:=b=2/\a=false
theorem aXm(a:bH (gK [cP,kP,oP]) [] 0 false L n false):cL 100 yO L n [] [] false:=by
 have A:gK [cP,kP,oP]=[(lD,0),(jP,0),(oQ,0)]:=rfl;rw [A] at a;obtain ⟨q,t,a⟩:=a.push rfl (by kernel_rfl) (by kernel_rfl);obtain ⟨e,g,a⟩:=a.push rfl (by kernel_rfl) (by kernel_rfl);obtain ⟨l,o,a⟩:=a.push rfl (by kernel_rfl) (by kernel_rfl);obtain ⟨rfl,rfl,_⟩:=a;refine (show ∀L n,L=[eC lD q t 0,eC jP e g 1,eC oQ l o 2]->n=3->cL 100 yO L n [] [] false from ?_) _ _ (by kernel_rfl) rfl;rintro L n rfl rfl;refine cL.takeF [] lD (x:=eC lD q t 0) (L':=[eC oQ l o 2,eC jP e g 1]) (ks':=[0]) (F:=[]) ⟨⟨rfl,rfl,rfl,rfl,rfl⟩,rfl⟩ rfl ?_ rfl (by kernel_rfl) (by kernel_rfl) (by kernel_rfl) (by simp [lD,cP]) (by decide) (by kernel_rfl) (by kernel_rfl) (by kernel_rfl) rfl (by simp) (by simp) (by simp) ?_
 ·intro x b;simp at b;rcases b with rfl|rfl|rfl<;>kernel_rfl
 rintro j p m ⟨rfl,rfl,rfl⟩;refine cL.takeF [cP] oQ (x:=eC oQ l o 2) (L':=[eC jP e g 1]) (ks':=[0,1]) (F:=[]) ⟨⟨rfl,rfl,rfl,rfl,rfl⟩,rfl⟩ rfl ?_ (by kernel_rfl) (by kernel_rfl) (by kernel_rfl) (by kernel_rfl) (by simp [oQ,oP]) (by simp) (by kernel_rfl) (by kernel_rfl) (by kernel_rfl) rfl (by simp) (by simp) (by simp) ?_
 ·intro x b;simp at b;rcases b with rfl|rfl<;>kernel_rfl
 rintro j p m ⟨rfl,rfl,rfl⟩;refine cL.takeF [cP,oP] jP (x:=eC jP e g 1) (L':=[]) (ks':=[0,1,2]) (F:=[(pP,0),(yM,0)]) ⟨⟨rfl,rfl,rfl,rfl,rfl⟩,rfl⟩ rfl ?_ (by kernel_rfl) (by kernel_rfl) (by kernel_rfl) (by kernel_rfl) (by simp [jP,kP]) (by simp) (by kernel_rfl) (by kernel_rfl) (by kernel_rfl) (by kernel_rfl) (aEg (by kernel_rfl)) (by simp) (by simp) ?_
 ·intro x b;simp at b;subst b;kernel_rfl
 intro j p m a;obtain ⟨r,u,a⟩:=a.push rfl (by kernel_rfl) (by kernel_rfl);obtain ⟨f,i,a⟩:=a.push rfl (by kernel_rfl) (by kernel_rfl);obtain ⟨rfl,rfl,rfl⟩:=a;refine (show ∀L n,L=[eC pP r u 3,eC yM f i 4]->n=5->cL 100 yO L n _ _ _ from ?_) _ _ (by kernel_rfl) rfl;rintro L n rfl rfl;refine cL.takeF [cP,oP,kP] pP (x:=eC pP r u 3) (L':=[eC yM f i 4]) (ks':=[0,1,3]) (F:=[(pQ,0)]) ⟨⟨rfl,rfl,rfl,rfl,rfl⟩,rfl⟩ rfl ?_ (by kernel_rfl) (by kernel_rfl) (by kernel_rfl) (by kernel_rfl) (by simp [pP,cQ]) (by simp) (by kernel_rfl) (by kernel_rfl) (by kernel_rfl) (by kernel_rfl) (aEg (by kernel_rfl)) (by simp) (by simp) ?_
 ·intro x b;simp at b;rcases b with rfl|rfl<;>kernel_rfl
 intro j p m a;obtain ⟨s,y,a⟩:=a.push rfl (by kernel_rfl) (by kernel_rfl);obtain ⟨rfl,rfl,rfl⟩:=a;refine (show ∀L n,L=[eC pQ s y 5,eC yM f i 4]->n=6->cL 100 yO L n _ _ _ from ?_) _ _ (by kernel_rfl) rfl;rintro L n rfl rfl;refine cL.unsat pQ (x:=eC pQ s y 5) (L':=[eC yM f i 4]) ⟨⟨rfl,rfl,rfl,rfl,rfl⟩,rfl⟩ (λx b k z=>?_) ?_ rfl ⟨rfl,rfl,rfl⟩
 ·rw [yL];simp at b z;rcases b with rfl|rfl<;>rcases z with rfl|rfl|rfl<;>exact xO (by kernel_rfl) (by kernel_rfl)
 ·rw [aKo (cs:=[cP,oP,kP,cQ]) (λk=>by rw [yL];rfl) (by kernel_rfl)];kernel_rfl
theorem aXn(a:bH (gK [cP,kP]) [] 0 false L n false):cL 100 aB0 L n [] [] false:=by
 have p:gK [cP,kP]=[(lD,0),(jP,0)]:=rfl;rw [p] at a;obtain ⟨i,l,a⟩:=a.push rfl (by kernel_rfl) (by kernel_rfl);obtain ⟨e,f,a⟩:=a.push rfl (by kernel_rfl) (by kernel_rfl);obtain ⟨rfl,rfl,_⟩:=a;refine (show ∀L n,L=[eC lD i l 0,eC jP e f 1]->n=2->cL 100 aB0 L n [] [] false from ?_) _ _ (by kernel_rfl) rfl;rintro L n rfl rfl;refine cL.takeF [] lD (x:=eC lD i l 0) (L':=[eC jP e f 1]) (ks':=[0]) (F:=[]) ⟨⟨rfl,rfl,rfl,rfl,rfl⟩,rfl⟩ rfl ?_ rfl (by kernel_rfl) (by kernel_rfl) (by kernel_rfl) (by simp [lD,cP]) (by decide) (by kernel_rfl) (by kernel_rfl) (by kernel_rfl) rfl (by simp) (by simp) (by simp) ?_
 ·intro x b;simp at b;rcases b with rfl|rfl<;>kernel_rfl
 rintro g o k ⟨rfl,rfl,rfl⟩;refine cL.takeF [cP] jP (x:=eC jP e f 1) (L':=[]) (ks':=[0,1]) (F:=[(yN,0)]) ⟨⟨rfl,rfl,rfl,rfl,rfl⟩,rfl⟩ rfl ?_ (by kernel_rfl) (by kernel_rfl) (by kernel_rfl) (by kernel_rfl) (by simp [jP,kP]) (by simp) (by kernel_rfl) (by kernel_rfl) (by kernel_rfl) (by kernel_rfl) (aEg (by kernel_rfl)) (by simp) (by simp) ?_
 ·intro x b;simp at b;subst b;kernel_rfl
 intro g o k a;obtain ⟨j,m,a⟩:=a.push rfl (by kernel_rfl) (by kernel_rfl);obtain ⟨rfl,rfl,rfl⟩:=a;refine (show ∀L n,L=[eC yN j m 2]->n=3->cL 100 aB0 L n _ _ _ from ?_) _ _ (by kernel_rfl) rfl;rintro L n rfl rfl;refine cL.takeF [cP,kP] yN (x:=eC yN j m 2) (L':=[]) (ks':=[0,2]) (F:=[]) ⟨⟨rfl,rfl,rfl,rfl,rfl⟩,rfl⟩ rfl ?_ (by kernel_rfl) (by kernel_rfl) (by kernel_rfl) (by kernel_rfl) (by simp [yN,cQ]) (by simp) (by kernel_rfl) (by kernel_rfl) (by kernel_rfl) rfl (by simp) (by simp) (by simp) ?_
 ·intro x b;simp at b;subst b;kernel_rfl
 rintro g o k ⟨rfl,rfl,rfl⟩;exact cL.sat (λx b=>by simp at b) rfl ⟨rfl,rfl⟩
end
section
open Go.RowKit Go.ChangeShapes Go.WideShapes
theorem aXo{a:Addr}(e:w.cell? (a.add (0*1))=some v):∃b f,a=⟨b,f,none⟩:=by
 obtain ⟨b,f,g⟩:=a;cases g with
 |none=>exact ⟨b,f,rfl⟩
 |some s=>
  simp only [Addr.add,zn] at e;split at e<;>simp at e
theorem aXp{o:Type}{C:TypeId×Value->o}{E:Nat}{cs:List Value}{m:DataW o×List MemPlace}(i:DataW.trod C zp w 0 (λ_=>true) true E 22 cs=some m):∃b p g,cs=[.slice b (List.length p) g]/\wK w b p:=by
 rcases Deep.open_slice zh i with ⟨rfl,rfl⟩|⟨b,l,g,t,n,R,S,rfl,V,W,Y,N,rfl,e⟩
 ·exact ⟨none,[],0,rfl,⟨λk i=>absurd i (by simp),λm e=>by simp at e⟩⟩
 ·have M:t=g:=by simpa using N
  subst M;have A:zp.cellsOf 25=1:=by kernel_rfl
  have B:∀a,a<l->∃f:Kr,w.cell? (b.add (a*1))=some (nN f)/\lQ w f.1 f.2.2/\f.2.2.length<=f.2.1:=by intro a s;obtain ⟨U,r,F⟩:=e a (by omega);rw [A] at r;obtain ⟨Z,X,G⟩:=World.cells?_some r;obtain ⟨x,P,z,rfl,O,J,_⟩:=aUi F;have u:=G 0 (by omega);rw [Deep.add_add] at u;exact ⟨(x,z,P),by simpa [nN] using u,O,J⟩
  obtain ⟨D,j⟩:=Deep.choose_lt B;refine ⟨some b,(List.range l).map D,t,by simp,⟨λk H=>?_,λm e=>?_⟩⟩
  ·have I:k<l:=by simpa using H
   obtain ⟨y,Q,rfl⟩:=aXo (j 0 (by omega)).1;obtain ⟨q,_⟩:=j k I;rw [aJ2] at q;refine ⟨y,Q,rfl,?_⟩;simp only [zr,List.getElem_range];simpa using q
  ·obtain ⟨a,s,rfl⟩:=zq.1 e;exact (j a (by simpa using s)).2
end
