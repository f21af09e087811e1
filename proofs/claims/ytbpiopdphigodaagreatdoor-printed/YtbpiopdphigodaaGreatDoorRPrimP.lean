import Derived.Test.YtbpiopdphigodaaGreatDoorRPrim0P
import Derived.Test.YtbpiopdphigodaaGreatDoorText0P
import Derived.Lib.Strings
import Derived.Test.YtbpiopdphigodaaGreatDoorRTermP
import Derived.Test.YtbpiopdphigodaaGreatDoorPUsesP
import Derived.Test.YtbpiopdphigodaaGreatDoorONum0P
import Derived.StringKeys
import Derived.Lib.OthersKept
import Derived.Lib.MapLaws
import Derived.Deep.RegionHeld3
open Array renaming getElem?_eq_some_iff→zw
open Bool renaming or_eq_true→zi,and_eq_false_iff→zh
open List renaming length_append→zx,length_cons→zv,length_nil→zt,length_drop→zs,eq_nil_of_length_eq_zero→zo,flatMap_cons→zn,take_of_length_le→zj,drop_drop→zg,flatMap_append→zf
open Nat renaming le_trans→zu,le_refl→zr,lt_of_lt_of_le→ze
namespace Go.Proofs.YtbpiopdphigodaaGreatDoor
open _root_.Go.Proofs.Tryz renaming prog→zy,underlying9→zq,underlying81→zm
open Utf8 renaming decode→zz
open World renaming iterPos→zl,iter_heap→zc
open Go.RowKit Go.Shelf Go.WideMaps
set_option maxHeartbeats 4000000
set_option maxRecDepth 100000
variable{U:List Us}{B b:Nat}{w w':World}
def aC9(a:Nat):UInt8:=UInt8.ofNat (48+a)
def jA(a:Nat):List UInt8:=if a<10 then [aC9 a] else [aC9 (a / 10),aC9 (a % 10)]
theorem aHj(a:Nat):(jA a).length<=2:=by unfold jA;split<;>simp
def oP(l:List UInt8):Bool:=dO (l.headD 0).toNat && l.all λb=>cO b.toNat
def dU(b:UInt8):List UInt8:=if b.toNat=39\/b.toNat=92 then [92,b] else [b]
def gB(a:List UInt8):List UInt8:=if oP a then a else 39::(a.flatMap dU++[39])
theorem aHk(a:List UInt8):(a.flatMap dU).length<=2*a.length:=by
 induction a with
 |nil=>simp
 |cons x r ih=>
  have:(dU x).length<=2:=by unfold dU;split<;>simp
  simp only [zn,zx,zv];omega
theorem aHl(a:List UInt8):(gB a).length<=2*a.length+2:=by
 unfold gB;split
 ·omega
 ·have:=aHk a;simp only [zv,zx,zt];omega
theorem aSv(a:ByteArray)(k:Nat)(c:k<a.size):a.data.toList.take (k+1)=a.data.toList.take k++[a[k]]:=by rw [List.take_succ_eq_append_getElem (by simpa using c)];rfl
theorem yT(a b:ByteArray):(a++b).data.toList=a.data.toList++b.data.toList:=by simp
theorem aHm(a:ByteArray)(c:0<a.size):a.data.toList.headD 0=a[0]:=by
 obtain ⟨⟨d⟩⟩:=a;cases d with
 |nil=>simp [ByteArray.size] at c
 |cons x r=>rfl
def eS(a:List Nd->List UInt8×List Nd):Nat->List Nd->List UInt8×List Nd
 |0,r=>([],r)
 |i+1,r=>((eS a i r).1++((if i=0 then [40] else [44,32])++(a (eS a i r).2).1),(a (eS a i r).2).2)
def cE:Nat->List Nd->List UInt8×List Nd
 |0,l=>([],l)
 |_+1,[]=>([],[])
 |f+1,n::r=>if aM n then (88::jA n.2.toNat,r) else (gB n.1.data.toList++((eS (cE f) n.2.toNat r).1++if 0<n.2.toNat then [41] else []),(eS (cE f) n.2.toNat r).2)
theorem aHn(g:Nat)(q:∀a e,a.length<=g->aN a (e+1)=true->∃c,1<=c/\c<=a.length/\(cE g a).2=a.drop c/\aN (a.drop c) e=true/\(cE g a).1.length+2<=200*c):∀d f e a,d<=f->a.length<=g->aN a (f+e)=true->∃c,c<=a.length/\(eS (cE g) d a).2=a.drop c/\aN (a.drop c) (f-d+e)=true/\(eS (cE g) d a).1.length<=200*c:=by
 intro d;induction d with
 |zero=>intro f e a _ _ i;exact ⟨0,by omega,rfl,by simpa using i,by simp [eS]⟩
 |succ d ihi=>
  intro f e a t p i;obtain ⟨c,x,j,k,s⟩:=ihi f e a (by omega) p i;have l:f-d+e=(f-(d+1)+e)+1:=by omega
  rw [l] at k;obtain ⟨r,u,m,n,o,v⟩:=q (a.drop c) (f-(d+1)+e) (by simp;omega) k;simp only [zs] at m;refine ⟨c+r,by omega,?_,?_,?_⟩
  ·simp only [eS,j,n,zg]
  ·rw [<-zg];exact o
  ·simp only [eS,j,zx];have:(if d=0 then ([40]:List UInt8) else [44,32]).length<=2:=by split<;>simp
   omega
theorem aHo(g:Nat):∀c d,c.length<=g->aN c (d+1)=true->∃f,1<=f/\f<=c.length/\(cE g c).2=c.drop f/\aN (c.drop f) d=true/\(cE g c).1.length+2<=200*f:=by
 induction g with
 |zero=>intro c d j a;have:c=[]:=zo (by omega);subst this;simp [aN] at a
 |succ g ih=>
  intro c d j a;cases c with
  |nil=>simp [aN] at a
  |cons n r=>
   have q:¬d+1=0:=by omega
   simp only [aN,aF q] at a;by_cases i:dE n=true
   ·rw [aG i] at a;by_cases e:aM n=true
    ·refine ⟨1,by omega,by simp,by simp [cE,e],?_,?_⟩
     ·have:aX n=0:=by simp [aX,e]
      rw [this] at a;simpa using a
     ·have:=aHj n.2.toNat;simp only [cE,aG e,zv];omega
    ·have s:aX n=n.2.toNat:=by simp [aX,e]
     have o:dL n.1=true:=by
      have:dL n.1=true/\0<=n.2/\n.2<=5:=by simpa [dE,e] using i
      exact this.1
     have v:=uR n.1 o;have p:=aHl n.1.data.toList;rw [s] at a;have k:d+1-1+n.2.toNat=n.2.toNat+d:=by omega
     rw [k] at a;obtain ⟨f,t,l,m,u⟩:=aHn g ih n.2.toNat n.2.toNat d r (zr _) (by simpa using j) a;refine ⟨f+1,by omega,by simp;omega,?_,?_,?_⟩
     ·simp only [cE,aF e,l,List.drop_succ_cons]
     ·simpa using m
     ·simp only [cE,aF e,zx];have:(if 0<n.2.toNat then ([41]:List UInt8) else []).length<=1:=by split<;>simp
      rw [<-dR] at p;omega
   ·rw [aF i] at a;simp at a
def uK(a:Value):Option (DataW Unit×List MemPlace):=
 match a with
 | .agg cs=>match cs.toList with
  |[.string s,.bool b,.int .i64 n]=>some (.agg [.lit (.string s.data.toList),.lit (.bool b),.lit (.int .i64 n)],[])
  |_=>none
 |_=>none
def pK(a:Us):DataW Unit:=.agg [.lit (.string a.1.data.toList),.lit (.bool a.2.1),.lit (.int .i64 a.2.2)]
theorem bAc(a:Us):uK (.agg #[.string a.1,.bool a.2.1,.int .i64 a.2.2])=some (pK a,[]):=rfl
theorem aHp{e:Value}{c:Us}{j:List MemPlace}(a:uK e=some (pK c,j)):e=.agg #[.string c.1,.bool c.2.1,.int .i64 c.2.2]:=by
 unfold uK at a;split at a
 ·next cs=>
  split at a
  ·next s b n hcs=>
   have i:cs=#[.string s,.bool b,.int .i64 n]:=by have:=congrArg List.toArray hcs;simpa using this
   subst i;simp only [pK,Option.some.injEq,Prod.mk.injEq,DataW.agg.injEq,List.cons.injEq,DataW.lit.injEq,Lit.string.injEq,Lit.bool.injEq,Lit.int.injEq,and_true,true_and] at a;obtain ⟨⟨d,f,g⟩,_⟩:=a;have:s=c.1:=by obtain ⟨⟨k⟩⟩:=s;obtain ⟨⟨⟨l⟩⟩,m⟩:=c;simp at d;rw [d]
   rw [this,f,g]
  ·simp at a
 ·simp at a
structure vX(D:DataW Unit)(U:List Us)(k:Nat):Prop where
 isMap:Maps.IsMap D
 old:∀j (h:j<U.length),j<k->Maps.has D (.string U[j].1.data.toList)=true/\∀z,D.atKey (.string U[j].1.data.toList) z=pK U[j]
 new:∀s:ByteArray,(∀j (h:j<U.length),j<k->U[j].1≠s)->Maps.has D (.string s.data.toList)=false
theorem aHq{a c:ByteArray}(d:a.data.toList=c.data.toList):a=c:=by obtain ⟨⟨e⟩⟩:=a;obtain ⟨⟨f⟩⟩:=c;simp at d;rw [d]
theorem aSw(U:List Us):vX (.map []) U 0:=⟨Maps.isMap_empty,λc _ a=>by omega,λd _=>rfl⟩
theorem aSx{k:DataW Unit}{a:Nat}(d:vX k U a)(r:a<U.length)(s:∀c (e:c<U.length),c<a->U[c].1=U[a].1->U[c]=U[a]):vX (k.put (.string U[a].1.data.toList) (pK U[a])) U (a+1):=by
 have l:WideAt.IsKeyLit (.string U[a].1.data.toList):=trivial;refine ⟨d.isMap.put _ _,λc e q=>?_,λo n=>?_⟩
 ·by_cases i:U[c].1=U[a].1
  ·have t:U[c]=U[a]:=by
    by_cases j:c=a
    ·subst j;rfl
    ·exact s c e (by omega) i
   rw [t];exact ⟨Maps.has_put_same d.isMap l _,λp=>Maps.atKey_put_same d.isMap l _ _⟩
  ·have f:(Lit.string U[c].1.data.toList)≠.string U[a].1.data.toList:=λg=>i (aHq (by simpa using g))
   have j:c<a:=by
    rcases Nat.lt_or_ge c a with h1|h1
    ·exact h1
    ·have:c=a:=by omega
     subst this;exact absurd rfl i
   have m:=d.old c e j;exact ⟨by rw [Maps.has_put_other f];exact m.1,λp=>by rw [Maps.atKey_put_other f];exact m.2 p⟩
 ·have f:(Lit.string o.data.toList)≠.string U[a].1.data.toList:=λg=>n a r (by omega) (aHq (by simpa using g)).symm
  rw [Maps.has_put_other f];exact d.new o λc e q=>n c e (by omega)
def rQ(U:List Us)(d:Nat):Prop:=∀a (e:a<U.length),a<d->U[a].2.2<=5/\∀c (f:c<a),(U[c]'(by omega)).1=U[a].1->(U[c]'(by omega)).2=U[a].2
theorem aSy(c:rQ U U.length):kM U:=λd a=>c d a a
theorem aSz:zy.stoodInHeld 83=false:=by kernel_rfl
theorem aT0:zy.eqGuardType zy.depth 83=false:=by kernel_rfl
theorem aT1:zy.underlying 83=some (.struct (zy.fieldsOf 83)):=by kernel_rfl
def uL(a c:Us):Bool:=decide (a=c)
theorem aT2(a c:Us)(w:World):(Op.equalIn 10000 83 (.agg #[.string a.1,.bool a.2.1,.int .i64 a.2.2]) (.agg #[.string c.1,.bool c.2.1,.int .i64 c.2.2])).run zy w=.ok (uL a c) w:=by rw [show (10000:Nat)=9999+1 from rfl,run_equalIn_agg w 9999 83 _ _ aT1 aSz];simp only [Program.fieldsOf,Tryz.underlying83];go_simp;obtain ⟨k,b,j⟩:=a;obtain ⟨l,d,i⟩:=c;simp only [uL,xO];by_cases e:k=l<;>by_cases f:b=d<;>by_cases g:j=i<;>simp [e,f,g]
def rR(U:List Us)(c:Int):Prop:=(c=-1/\kM U)\/∃a:Nat,a<U.length/\c=a/\rQ U a/\¬rQ U (a+1)
theorem rR.of{a:Nat}(c:rQ U a)(d:a<U.length)(e:¬rQ U (a+1)):rR U a:=Or.inr ⟨a,d,rfl,c,e⟩
theorem aHr(a5:Option Addr)(b3:Nat)(U:List Us)(w:World)(X:aC1 w a5 U):Calls zy 16 #[.slice a5 U.length b3] w λb4 w'=>∃b2:Int,b4=.returned (.int .i64 b2)/\rR U b2/\aB w w':=by
 have c7:=X.few;have a4:=aA X;have c9:=@run_makeMap zy;have c6:=aT0;clear X;go_enter Tryz.func16,Tryz.ntmps16;go_wp2;go_loopw [11] (λd wr=>∃(a:Nat) (n:DataW Unit),a<=U.length/\d=.int .i64 a/\wr.ownsMap zy 9 uK w.heap.size a n/\vX n U a/\rQ U a/\aB w wr) (λd _=>U.length-(intOf d).toNat);case atStart=>exact ⟨0,.map [],Nat.zero_le _,rfl,World.ownsMap_made _ _ _ _,aSw U,λd _ P=>by omega,(Below.refl _ _).alloc (zr _) _⟩
 case round=>
  obtain ⟨a,n,c8,rfl,s,Y,Z,p⟩:=hrel;have O:=p.size;have F:=aA Y;have z:=aA Z;have D:=aA p;by_cases r:a<U.length
  ·obtain ⟨b,rfl,a6,a7,a8⟩:=a4.o.cell a r;have R:=aD p a6;have S:=aD p a7;have T:=aD p a8;have a0:=a4.o.short a r;have E:aI (5<U[a].2.2->rR U a):=λk=>rR.of z.o r λi=>by have:=(i a r (by omega)).1;omega
   have G:aI (∀c (e:c<U.length),c<a->U[c].1=U[a].1->U[c]≠U[a]->rR U a):=λc e g f c1=>rR.of z.o r λi=>by
    have b5:=(i a r (by omega)).2 c g f;exact c1 (Prod.ext f b5)
   have C:aI (U[a].2.2<=5->(∀c (e:c<U.length),c<a->U[c].1=U[a].1->U[c]=U[a])->rQ U (a+1)/\vX (n.put (.string U[a].1.data.toList) (pK U[a])) U (a+1)):=λk b1=>by
    refine ⟨λd P b0=>?_,aSx F.o r b1⟩;by_cases b8:d=a
    ·subst b8;exact ⟨k,λc e f=>by rw [b1 c (by omega) e f]⟩
    ·exact z.o d P (by omega)
   have q:keyOf zy 9 (.string U[a].1)=some (.string U[a].1.data.toList):=keyOf_string_mk zq (by unfold maxLen;omega);clear a6 a7 a8 p Y Z;by_cases k:5<U[a].2.2
   ·have H:=aA (E.o k);clear E G C q s;generalize U[a]=u at *;obtain ⟨j,x,v⟩:=u;simp only at R S T k;go_wp2;go_ret;exact ⟨_,rfl,H.o,D.o.alloc O _⟩
   ·have I:U[a].2.2<=5:=by omega
    have b6:=(s.alloc (.cells #[.string U[a].1,.bool U[a].2.1,.int .i64 U[a].2.2] 83)).look_ok (Maps.string_keyed zq) zm (Tryz.zeroValue83 _) (zd:=pK (⟨#[]⟩,false,0)) (zp:=[]) rfl q;obtain ⟨d4,d1,l,t⟩:=b6;cases hhas:Maps.has n (.string U[a].1.data.toList)
    ·rw [yI F.o.isMap hhas] at t;have a1:=aHp t;subst a1;rw [hhas] at l;have o:=aA (C.o I (λc e g f=>by
      have:=(F.o.old c e g).1;rw [f,hhas] at this;simp at this))
     have A:=aA q;clear E G C t hhas q;generalize i:U[a]=u at *;obtain ⟨j,x,v⟩:=u;simp only at R S T k I a0 l o A;clear i;go_wp2_with (first
      |(at_mapUpdate;refine wpList_mapUpdate_own _ rfl _ _ _ 81 rfl 9 83 (Maps.string_keyed zq) zm uK w.heap.size a n rfl ((s.alloc _).alloc _) (by unfold maxLen;omega) _ _ (.string j.data.toList) rfl rfl (aC A) (pK (j,x,v)) [] rfl ?_)
      |go_in)
     intro c3 M J;have W:=aA M;have V:=aA (((D.o.alloc O (.cells #[.string j,.bool x,.int .i64 v] 83)).alloc (by simp;omega) _).grown J (by simp;omega) (λc5 a2=>by simp at a2;omega));clear M J s l;go_wp2;go_roundw;case rel=>exact ⟨a+1,_,by omega,by go_num,W.o,o.o.2,o.o.1,V.o⟩
     case measure=>simp [intOf];omega
    ·obtain ⟨c,e,g,L⟩ : ∃c,∃e:c<U.length,c<a/\U[c].1=U[a].1:=Classical.byContradiction λc2=>by
      have:=F.o.new U[a].1 (λc e g f=>c2 ⟨c,e,g,f⟩);rw [hhas] at this;simp at this
     have N:=(F.o.old c e g).2 (pK (⟨#[]⟩,false,0));rw [L] at N;rw [N] at t;have a1:=aHp t;subst a1;rw [hhas] at l;have a3:=λc4=>aT2 U[c] U[a] c4
     have A:=aA q;by_cases m:U[c]=U[a]
     ·have a9:uL U[c] U[a]=true:=by simp [uL,m]
      have o:=aA (C.o I (λd P b0 f=>by
       by_cases b7:d=c
       ·subst b7;exact m
       ·have Q:U[d].1=U[c].1:=f.trans L.symm;have:U[d]=U[c]:=by
         rcases Nat.lt_or_ge d c with c0|hge
         ·exact Prod.ext Q ((z.o c e g).2 d c0 Q)
         ·exact (Prod.ext Q.symm ((z.o d P b0).2 c (by omega) Q.symm)).symm
        rw [this,m]))
      rw [m] at l a3 a9;clear E G C t hhas q N m L;generalize i:U[a]=u at *;obtain ⟨j,x,v⟩:=u;simp only at R S T k I a0 l o A a3;clear i;go_wp2_with (first
       |(at_mapUpdate;refine wpList_mapUpdate_own _ rfl _ _ _ 81 rfl 9 83 (Maps.string_keyed zq) zm uK w.heap.size a n rfl ((s.alloc _).alloc _) (by unfold maxLen;omega) _ _ (.string j.data.toList) rfl rfl (aC A) (pK (j,x,v)) [] rfl ?_)
       |go_in)
      intro c3 M J;have W:=aA M;have V:=aA (((D.o.alloc O (.cells #[.string j,.bool x,.int .i64 v] 83)).alloc (by simp;omega) _).grown J (by simp;omega) (λc5 a2=>by simp at a2;omega));clear M J s l;go_wp2;go_roundw;case rel=>exact ⟨a+1,_,by omega,by go_num,W.o,o.o.2,o.o.1,V.o⟩
      case measure=>simp [intOf];omega
     ·have a9:uL U[c] U[a]=false:=by simp [uL,m]
      have H:=aA (G.o c e g L m);clear E G C t hhas q N L m A;generalize U[c]=y at *;generalize i:U[a]=u at *;obtain ⟨j,x,v⟩:=u;obtain ⟨d2,d3,d0⟩:=y;simp only at R S T k I a0 l a3;clear i;go_wp2;go_ret;exact ⟨_,rfl,H.o,(D.o.alloc O _).alloc (by simp;omega) _⟩
  ·have b9:a=U.length:=by omega
   subst b9;have H:=aA (aSy z.o);clear Y Z s p;go_wp2;go_ret;exact ⟨_,rfl,Or.inl ⟨rfl,H.o⟩,D.o⟩
theorem aT3(c:Option Addr)(f:Nat)(U:List Us)(w:World)(d:aC1 w c U):Calls zy 16 #[.slice c U.length f] w λg w'=>∃a:Int,g=.returned (.int .i64 a)/\((0<=a->¬kM U)/\(a<0->kM U))/\aB w w':=by
 refine (aHr c f U w d).mono ?_;rintro g w' ⟨a,rfl,l,j⟩;refine ⟨a,rfl,?_,j⟩;rcases l with ⟨rfl,e⟩|⟨p,o,rfl,n,i⟩
 ·exact ⟨λd=>by omega,λ_=>e⟩
 ·exact ⟨λ_ e=>i λm k _=>e m k,λd=>by omega⟩
theorem aHs(a:Int)(c:128<=a):cO a=false:=by simp only [cO,dO,dP,pJ,Bool.or_eq_false_iff,zh,decide_eq_false_iff_not,beq_eq_false_iff_ne];omega
theorem aHt(a:ByteArray)(c:Nat)(d:c<a.size)(e:cO ((a[c]'d).toNat:Int)=false):oP a.data.toList=false:=by unfold oP;rw [zh];right;rw [List.all_eq_false];exact ⟨a[c],List.getElem_mem (l:=a.data.toList) (by rw [<-dR];exact d),by rw [e];simp⟩
theorem aT4(a:ByteArray)(d:0<a.size)(c:dO (a[0].toNat:Int)=false):oP a.data.toList=false:=by unfold oP;rw [aHm a d,c];rfl
theorem aT5(a:ByteArray)(e:0<a.size)(c:dO (a[0].toNat:Int)=true)(d:(a.data.toList.all λb=>cO b.toNat)=true):oP a.data.toList=true:=by unfold oP;rw [aHm a e,c,d];rfl
theorem aT6(a:ByteArray)(w:World)(D:0<a.size)(P:a.size<=1000):Calls zy 67 #[.string a] w λg w'=>g=.returned (.bool (oP a.data.toList))/\aB w w':=by
 go_enter Tryz.func67,Tryz.ntmps67;go_wp2;go_loopw [] (λwr=>∃c:Nat,c<=a.size/\wr.heap[w.heap.size]?=some (.stringIter a c)/\aB w wr/\((a.data.toList.take c).all λb=>cO b.toNat)=true/\(0<c->dO (a[0].toNat:Int)=true)) (λwr=>a.size-wr.iterPos w.heap.size);case atStart=>
  refine ⟨0,by omega,?_,(Below.refl _ w).alloc (zr _) _,rfl,λL=>by omega⟩;have:=zc w a 0;simpa using this
 case round=>
  obtain ⟨c,O,i,s,y,E⟩:=hrel;have q:=aA s;have t:=aA y;have x:=aA E;have N:=s.size;clear s y E;by_cases d:c<a.size
  ·have G:=aA (aSv a c d);by_cases I:(a[c]'d).toNat<128
   ·have C:∀e,(Instr.next (.pointer (some ⟨w.heap.size,0,none⟩)) true e).run zy wr=_:=λe=>Lib.run_next_ascii_at wr w.heap.size a c e i d I
    have z:=Lib.iterAt_heap wr w.heap.size a c (c+1) i;have l:=aA (Lib.below_iterAt q.o (k:=w.heap.size) (zr _) a (c+1));have v:=aA i;have p:=aA z;have f:=aA (λn=>aC6 ((a[c]'d).toNat:Int) n);have o:=aA (λn=>aC5 ((a[c]'d).toNat:Int) n);have r:=aA (aHt a c d);clear i z;cases hin:cO ((a[c]'d).toNat:Int)
    ·rw [hin] at f;have j:=aA (r.o hin);clear hin r;go_wp2_with (go_at_call 85;refine (aC f _).mono ?_;rintro g m ⟨rfl,rfl⟩);go_ret;exact ⟨cX j.o.symm,l.o⟩
    ·rw [hin] at f;have u:aI (((a.data.toList.take (c+1)).all λb=>cO b.toNat)=true):=aA (by rw [G.o,List.all_append,t.o];simp [hin]);clear hin r;by_cases H:c=0
     ·subst H;cases hl:dO ((a[0]'d).toNat:Int)
      ·rw [hl] at o;have j:=aA (aT4 a D hl);clear hl;go_wp2_with (first
        |(go_at_call 85;refine (aC f _).mono ?_;rintro g m ⟨rfl,rfl⟩)
        |(go_at_call 51;refine (aC o _).mono ?_;rintro g m ⟨rfl,rfl⟩))
       go_ret;exact ⟨cX j.o.symm,l.o⟩
      ·rw [hl] at o;have F:=aA hl;clear hl;go_wp2_with (first
        |(go_at_call 85;refine (aC f _).mono ?_;rintro g m ⟨rfl,rfl⟩)
        |(go_at_call 51;refine (aC o _).mono ?_;rintro g m ⟨rfl,rfl⟩))
       go_roundw;case rel=>exact ⟨0+1,by omega,p.o,l.o,u.o,λ_=>by first|exact F.o|trivial⟩
       case measure=>simp only [zl,v.o,p.o];omega
     ·have M:((c:Int)==0)=false:=by rw [beq_eq_false_iff_ne];omega
      go_wp2_with (first
       |(go_at_call 85;refine (aC f _).mono ?_;rintro g m ⟨rfl,rfl⟩))
      go_roundw;case rel=>exact ⟨c+1,by omega,p.o,l.o,u.o,λ_=>x.o (by omega)⟩
      case measure=>simp only [zl,v.o,p.o];omega
   ·have C:∀e,(Instr.next (.pointer (some ⟨w.heap.size,0,none⟩)) true e).run zy wr=_:=λe=>Lib.run_next_any_at wr w.heap.size a c e i d
    have J:=decode_high a c d (by omega);have j:=aA (aHt a c d (aHs _ (by omega)));have l:=aA (Lib.below_iterAt q.o (k:=w.heap.size) (zr _) a (c+(zz a c).2));have f:=aA (λn=>aC6 ((zz a c).1:Int) n);rw [aHs _ (by omega)] at f;clear J i;go_wp2_with (go_at_call 85;refine (aC f _).mono ?_;rintro g m ⟨rfl,rfl⟩);go_ret;exact ⟨cX j.o.symm,l.o⟩
  ·have C:∀e,(Instr.next (.pointer (some ⟨w.heap.size,0,none⟩)) true e).run zy wr=_:=λe=>Lib.run_next_end_at wr w.heap.size a c e i d
   have A:a.data.toList.take c=a.data.toList:=zj (by rw [<-dR];omega);have j:=aA (aT5 a D (x.o (by omega)) (by rw [<-t.o,A]));clear i A;go_wp2;go_ret;exact ⟨cX j.o.symm,q.o⟩
def Bd(B b:Nat)(a:List UInt8)(w:World):Prop:=Lib.IsBuilderF 64 5 B b (Lib.byteCells a) w
def Ok(b:Nat)(w w':World):Prop:=Lib.OthersKept 5 (some b) w w'
theorem vY(B b:Nat)(c:List UInt8)(a:UInt8)(w:World)(f:Bd B b c w)(l:c.length<=1000000)(k:B<=w.heap.size):Calls zy 22 #[.pointer (some ⟨b,0,none⟩),.int .u8 a.toNat] w λd w'=>d=.returned .nilIface/\Bd B b (c++[a]) w'/\Below B w w'/\Ok b w w':=by
 have e:Calls zy 22 #[.pointer (some ⟨b,0,none⟩),.int .u8 a.toNat] w _:=Any.Builder_WriteByte_k aSp yS B b (Lib.byteCells c) a.toNat w f (by rw [Lib.byteCells_length];omega) k;refine e.mono ?_;rintro d w' ⟨rfl,g,i,j⟩;refine ⟨rfl,?_,i,j⟩;unfold Bd;rw [Lib.byteCells_append];exact Or.inr g
theorem tA(B b:Nat)(c:List UInt8)(a:ByteArray)(w:World)(f:Bd B b c w)(l:c.length+a.size<=1000000)(k:B<=w.heap.size):Calls zy 21 #[.pointer (some ⟨b,0,none⟩),.string a] w λd w'=>d=.returned (.tuple #[.int .i64 a.size,.nilIface])/\Bd B b (c++a.data.toList) w'/\Below B w w'/\Ok b w w':=by
 have e:Calls zy 21 #[.pointer (some ⟨b,0,none⟩),.string a] w _:=Any.Builder_WriteString_k aSo yS B b (Lib.byteCells c) a w f (by rw [Lib.byteCells_length];omega) k;refine e.mono ?_;rintro d w' ⟨rfl,g,i,j⟩;refine ⟨rfl,?_,i,j⟩;unfold Bd;rw [Lib.byteCells_append];exact Or.inr g
theorem aHu(B b:Nat)(c:List UInt8)(a:Nat)(w:World)(f:Bd B b c w)(n:a<=2147483647)(m:c.length<=1000000)(k:B<=w.heap.size):Calls zy 69 #[.pointer (some ⟨b,0,none⟩),.int .i32 a] w λd w'=>∃l,d=.returned (.tuple #[.int .i64 l,.nilIface])/\Bd B b (c++Lib.encodeRune a) w'/\Below B w w'/\Ok b w w':=by
 have e:Calls zy 69 #[.pointer (some ⟨b,0,none⟩),.int .i32 a] w _:=Any.Builder_WriteRune_k aSq yS B b (Lib.byteCells c) a (by omega) (by omega) w f (by rw [Lib.byteCells_length];omega) k;refine e.mono ?_;rintro d w' ⟨rfl,g,i,j⟩;refine ⟨_,rfl,?_,i,j⟩;unfold Bd;rw [Lib.byteCells_append,Lib.byteCells_encodeRune];exact Or.inr g
theorem aT7(a:List UInt8)(c:∀b∈a,128<=b.toNat):a.flatMap dU=a:=by
 induction a with
 |nil=>rfl
 |cons x r ih=>
  have e:=c x (by simp);rw [zn,ih (λb d=>c b (by simp [d]))];have:dU x=[x]:=by unfold dU;rw [aF (by omega)]
  rw [this];rfl
theorem aT8(c:ByteArray)(a:Nat)(d:a<c.size)(i:¬((zz c a).1=65533/\(zz c a).2=1)):(if jZ ((zz c a).1:Int) then [92] else [])++Lib.encodeRune ((zz c a).1:Int)=((c.data.toList.drop a).take (zz c a).2).flatMap dU:=by
 have p:c.data.toList.drop a≠[]:=by intro f;have:=congrArg List.length f;simp only [zs,<-dR,zt] at this;omega
 have g:=Lib.encode_decode (c.data.toList.drop a) p (by rw [Lib.decodeL_drop];exact i);rw [Lib.decodeL_drop] at g;rw [g];by_cases j:(c[a]'d).toNat<128
 ·have m:=decode_ascii c a d j;rw [m];simp only;have q:(c.data.toList.drop a).take 1=[c[a]]:=by
   rw [List.drop_eq_getElem_cons (by rw [<-dR];exact d)];rfl
  rw [q];simp only [zn,List.flatMap_nil,List.append_nil,dU];by_cases f:(c[a]'d).toNat=39\/(c[a]'d).toNat=92
  ·rw [aG f,aG (by simp only [jZ,zi,decide_eq_true_eq];omega)];rfl
  ·rw [aF f,aF (by simp only [jZ,zi,decide_eq_true_eq];omega)];rfl
 ·have s:=decode_high c a d (by omega);rw [aF (by simp only [jZ,zi,decide_eq_true_eq];omega),List.nil_append];symm;apply aT7;intro b k;obtain ⟨e,n,rfl⟩:=List.mem_iff_getElem.1 k;simp only [List.length_take,zs,<-dR] at n;have r:bB c a=(zz c a).2:=by rw [uS c a d];unfold oT;rw [aF i]
  have l:((c.data.toList.drop a).take (zz c a).2)[e].toNat=aE c (a+e):=by rw [kZ c (a+e) (by omega)];simp only [List.getElem_take,List.getElem_drop];rfl
  rw [l];by_cases o:e=0
  ·subst o;rw [kZ c (a+0) d];have:c[a+0]'d=c[a]'d:=rfl;rw [this];omega
  ·exact aCr c a e (by omega) (by omega) (by omega)
theorem aT9(c:ByteArray)(a k:Nat):c.data.toList.take (a+k)=c.data.toList.take a++(c.data.toList.drop a).take k:=by rw [List.take_add]
theorem aTa{c:TypeId}{g:Nat}{i:Value}{f:Nat}{j:List Value}(n:w.ownsRowF B c g i f j)(t:aB w w'):w'.ownsRowF B c g i f j:=by
 obtain ⟨d,o|⟨a,k,l,m,p,q,e,r⟩⟩:=n
 ·exact ⟨d,Or.inl o⟩
 ·have s:a<w.heap.size:=(zw.1 e).1;exact ⟨d,Or.inr ⟨a,k,l,m,p,q,(t.block a s).trans e,r⟩⟩
theorem Bd.below{a:List UInt8}(h:Bd B b a w)(k:aB w w'):Bd B b a w':=by
 have c:∀p,Lib.BuilderAtF 64 5 B b p (Lib.byteCells a) w->Lib.BuilderAtF 64 5 B b p (Lib.byteCells a) w':=by rintro p ⟨e,v,d,i,g⟩;have f:b<w.heap.size:=(zw.1 d).1;exact ⟨e,v,(k.block b f).trans d,aTa i k,g⟩
 rcases h with h|h
 ·exact Or.inl (c _ h)
 ·exact Or.inr (c _ h)
theorem Ok.trans{b:Nat}{a c d:World}(e:Ok b a c)(k:Ok b c d):Ok b a d:=Lib.OthersKept.trans e k
theorem Ok.of_below(d:aB w w'):Ok b w w':=λc f a _ _=>by
 have e:c<w.heap.size:=(zw.1 a).1;exact (d.block c e).trans a
theorem Bd.lt{d:List UInt8}(c:Bd B b d w):b<w.heap.size:=by
 rcases c with ⟨_,v,a,_⟩|⟨_,v,a,_⟩
 ·exact (zw.1 a).1
 ·exact (zw.1 a).1
theorem Ok.iterAt{k:Nat}(e:Ok b w w')(l:w.heap.size<=k)(d:ByteArray)(p:Nat):Ok b w (w'.iterAt k d p):=λa i c f g=>by
 have j:a<w.heap.size:=(zw.1 c).1;rw [Lib.iterAt_other w' k a d p (by omega)];exact e a i c f g
theorem aHv(B b:Nat)(f:List UInt8)(a:ByteArray)(w:World)(a9:Bd B b f w)(Z:dL a=true)(d9:f.length<=100000)(y:B<=w.heap.size):Calls zy 39 #[.pointer (some ⟨b,0,none⟩),.string a] w λg w'=>g=.returned (.tuple #[])/\Bd B b (f++gB a.data.toList) w'/\Below B w w'/\Ok b w w':=by
 obtain ⟨d1,e1⟩:=uR a Z;have D:=aA (aT6 a w d1 (by omega));have c6:aI (Lib.validD a.data.toList=true):=by have:=aIs a;rw [Z] at this;simp only [Bool.true_eq,Bool.and_eq_true] at this;exact this.1.1
 have Q:=aA a9;clear Z a9;cases e:oP a.data.toList
 ·have W:=aA (show gB a.data.toList=39::(a.data.toList.flatMap dU++[39]) by simp [gB,e]);rw [e] at D;clear e;go_enter Tryz.func39,Tryz.ntmps39;go_wp2_with (first
   |(go_at_call 67;refine (aC D).mono ?_;rintro g A ⟨rfl,i⟩;have X:B<=A.heap.size:=zu y i.size;have L:=aA (vY B b f 39 A (Q.o.below i) (by omega) X);have N:=aA (i.mono y);have R:=aA (Ok.of_below (b:=b) i);clear i)
   |(go_at_call 22;refine (aC L).mono ?_;rintro g d ⟨rfl,n,m,p⟩;have O:=aA n;have x:=aA (N.o.trans m);have S:=aA (R.o.trans p);clear n m p))
  have b0:B<=d.heap.size:=zu y x.o.size;go_loopw [] (λwr=>∃(c:Nat),c<=a.size/\wr.heap[d.heap.size]?=some (.stringIter a c)/\Bd B b (f++[39]++(a.data.toList.take c).flatMap dU) wr/\Lib.validD (a.data.toList.drop c)=true/\Below B w wr/\Ok b w wr/\d.heap.size<wr.heap.size) (λwr=>a.size-wr.iterPos d.heap.size);case atStart=>
   have Y:aB d (d.iter a 0):=(Below.refl _ _).alloc (zr _) _;refine ⟨0,by omega,zc d a 0,?_,c6.o,x.o.trans (Y.mono b0),S.o.trans (Ok.of_below Y),?_⟩
   ·have:=O.o.below Y;simpa using this
   ·show d.heap.size<(d.heap.push _).size;simp
  case round=>
   obtain ⟨c,e0,s,z,t,F,H,d2⟩:=hrel;have d8:=Bd.lt Q.o;have c8:w.heap.size<=d.heap.size:=x.o.size;have c7:((a.data.toList.take c).flatMap dU).length<=160:=by have d6:=aHk (a.data.toList.take c);have d7:(a.data.toList.take c).length<=c:=List.length_take_le _ _;omega
   by_cases e:c<a.size
   ·have b6:a.data.toList.drop c≠[]:=by
     intro a0;have:=congrArg List.length a0;simp only [zs,<-dR,zt] at this;omega
    rw [Lib.validD_step _ b6,Lib.decodeL_drop,zg] at t;have G:¬((zz a c).1=65533/\(zz a c).2=1):=by intro a0;rw [aG a0] at t;simp at t
    rw [aF G] at t;have e2:=Lib.decode_width_pos a c e;have b2:bB a c=(zz a c).2:=by rw [uS a c e];unfold oT;rw [aF G]
    have c9:=xM a c e;rw [b2] at c9;have I:=aT8 a c e G;have J:=aT9 a c (zz a c).2;have b8:=decode_le a c;have d0:∀u,(Instr.next (.pointer (some ⟨d.heap.size,0,none⟩)) true u).run zy wr=_:=λu=>Lib.run_next_any_at wr d.heap.size a c u s e
    have b4:=Lib.iterAt_heap wr d.heap.size a c (c+(zz a c).2) s;have n:Bd B b _ (wr.iterAt d.heap.size a (c+(zz a c).2)):=Lib.IsBuilderF.iterAt z s _;have m:=Lib.below_iterAt F (k:=d.heap.size) b0 a (c+(zz a c).2);have p:=H.iterAt (k:=d.heap.size) c8 a (c+(zz a c).2);have a1:B<=(wr.iterAt d.heap.size a (c+(zz a c).2)).heap.size:=by rw [Lib.iterAt_size];omega
    have b9:d.heap.size<(wr.iterAt d.heap.size a (c+(zz a c).2)).heap.size:=by rw [Lib.iterAt_size];exact d2
    have C:=aA (λd5=>aHh ((zz a c).1:Int) d5);have a6:=aA s;have E:=aA b4;have a3:=aA m;have a7:=aA p;have a8:=aA t;have a5:=aA n;generalize hwq:wr.iterAt d.heap.size a (c+(zz a c).2)=wq at *;clear s b4 z n F m H p t G b6 b2 hwq;cases hes:jZ ((zz a c).1:Int)
    ·rw [hes] at C;have V:aI (f++[39]++(a.data.toList.take c).flatMap dU++Lib.encodeRune ((zz a c).1:Int)=f++[39]++(a.data.toList.take (c+(zz a c).2)).flatMap dU):=aA (by
      rw [J,zf,<-I,hes];simp)
     have M:=aA (aHu B b _ (zz a c).1 wq a5.o b8 (by simp only [zx,zv,zt];omega) a1);clear hes I J;go_wp2_with (first
      |(go_at_call 68;refine (aC C _).mono ?_;rintro g d4 ⟨rfl,rfl⟩)
      |(go_at_call 69;refine (aC M).mono ?_;rintro g a2 ⟨d3,rfl,o,l,q⟩;have P:=aA o;have r:=aA l;have j:=aA q;clear o l q))
     go_roundw;case rel=>exact ⟨c+(zz a c).2,by omega,Lib.OthersKept.iter j.o E.o (by omega),by rw [<-V.o];exact P.o,a8.o,a3.o.trans r.o,a7.o.trans j.o,ze b9 r.o.size⟩
     case measure=>simp only [zl,a6.o,Lib.OthersKept.iter j.o E.o (show d.heap.size≠b by omega)];omega
    ·rw [hes] at C;have V:aI (f++[39]++(a.data.toList.take c).flatMap dU++[92]++Lib.encodeRune ((zz a c).1:Int)=f++[39]++(a.data.toList.take (c+(zz a c).2)).flatMap dU):=aA (by
      rw [J,zf,<-I,hes];simp)
     have c0:=aA (vY B b _ 92 wq a5.o (by simp only [zx,zv,zt];omega) a1);clear hes I J;go_wp2_with (first
      |(go_at_call 68;refine (aC C _).mono ?_;rintro g d4 ⟨rfl,rfl⟩)
      |(go_at_call 22;refine (aC c0).mono ?_;rintro g a2 ⟨rfl,o,l,q⟩;have M:=aA (aHu B b _ (zz a c).1 a2 o b8 (by simp only [zx,zv,zt];omega) (zu a1 l.size));have r:=aA l;have j:=aA q;clear o l q)
      |(go_at_call 69;refine (aC M).mono ?_;rintro g e3 ⟨d3,rfl,b3,b1,b7⟩;have c3:=aA b3;have a4:=aA b1;have T:=aA b7;clear b3 b1 b7))
     go_roundw;case rel=>exact ⟨c+(zz a c).2,by omega,Lib.OthersKept.iter (j.o.trans T.o) E.o (by omega),by rw [<-V.o];exact c3.o,a8.o,a3.o.trans (r.o.trans a4.o),a7.o.trans (j.o.trans T.o),ze b9 (zu r.o.size a4.o.size)⟩
     case measure=>simp only [zl,a6.o,Lib.OthersKept.iter (j.o.trans T.o) E.o (show d.heap.size≠b by omega)];omega
   ·have d0:∀u,(Instr.next (.pointer (some ⟨d.heap.size,0,none⟩)) true u).run zy wr=_:=λu=>Lib.run_next_end_at wr d.heap.size a c u s e
    have b5:a.data.toList.take c=a.data.toList:=zj (by rw [<-dR];omega);rw [b5] at z c7;have c1:=aA (vY B b _ 39 wr z (by simp only [zx,zv,zt];omega) (by omega));have c2:=aA F;have c5:=aA H;have c4:aI (f++[39]++a.data.toList.flatMap dU++[39]=f++gB a.data.toList):=aA (by rw [W.o];simp);clear s z F H t b5;go_wp2_with (first
     |(go_at_call 22;refine (aC c1).mono ?_;rintro g a2 ⟨rfl,o,l,q⟩;have P:=aA o;have r:=aA l;have j:=aA q;clear o l q))
    go_end0;exact ⟨rfl,by rw [<-c4.o];exact P.o,c2.o.trans r.o,c5.o.trans j.o⟩
 ·have W:=aA (show gB a.data.toList=a.data.toList by simp [gB,e]);rw [e] at D;clear e;go_enter Tryz.func39,Tryz.ntmps39;go_wp2_with (first
   |(go_at_call 67;refine (aC D).mono ?_;rintro g A ⟨rfl,i⟩;have X:B<=A.heap.size:=zu y i.size;have L:=aA (tA B b f a A (Q.o.below i) (by omega) X);have N:=aA (i.mono y);have R:=aA (Ok.of_below (b:=b) i);clear i)
   |(go_at_call 21;refine (aC L).mono ?_;rintro g d ⟨rfl,n,m,p⟩;have O:=aA n;have x:=aA (N.o.trans m);have S:=aA (R.o.trans p);clear n m p))
  refine bodyPost_ret (v:=.tuple #[]) (by simp [results,Tryz.results39,go_sem]) rfl ?_;exact ⟨rfl,by rw [W.o];exact O.o,x.o,S.o⟩
theorem aTb:∀a,a<60->Lib.decDigits a=jA a:=by decide +kernel
theorem aTc(a:Nat)(e:a<60)(w:World):Calls zy 38 #[.int .i64 a] w λd w'=>d=.returned (.string ⟨(jA a).toArray⟩)/\w'=w:=by have c:Calls zy 38 #[.int .i64 a] w _:=Any.strconv_Itoa_small aSu a (by omega) w;rw [aTb a e] at c;exact c
theorem cS.tail{a:Nat}{k:Nd}{i:List Nd}{d:Nat}(f:cS w (some ⟨b,a,none⟩) (k::i))(o:(k::i).length<=d):cS w (if d=1 then some ⟨b,a,none⟩ else some ⟨b,a+2,none⟩) i:=by
 refine ⟨by have:=f.few;simp at this;omega,λc g=>f.short (c+1) (by simpa using g),λc g=>?_⟩;have n:d≠1:=by simp at o;omega
 obtain ⟨p,q,j,l,m⟩:=f.cell (c+1) (by simpa using g);simp at j;obtain ⟨rfl,rfl⟩:=j;refine ⟨b,a+2,by rw [aF n],?_,?_⟩
 ·have e:a+2+c*2=a+(c+1)*2:=by omega
  rw [e];simpa using l
 ·have e:a+2+c*2+1=a+(c+1)*2+1:=by omega
  rw [e];simpa using m
theorem aHw{a:Nat}{d:Value}{e:Value}(f:Ok b w w')(i:w.heap[a]?=some (.cells #[d,e] 43))(g:b≠a):w'.heap[a]?=some (.cells #[d,e] 43):=
 f a _ i (λc=>g (by simpa using c.symm)) (λj k c=>by simp at c)
theorem aHx{c:World}{a:Obj}(d:Below (w.alloc a).heap.size (w.alloc a) c):c.heap[w.heap.size]?=some a:=by rw [d.block w.heap.size (by simp)];show (w.heap.push a)[w.heap.size]?=_;simp
def uM(a:Nat):ByteArray:=if a=0 then ⟨#[40]⟩ else ⟨#[44,32]⟩
theorem aTd(a:Nat):(uM a).data.toList=if a=0 then [40] else [44,32]:=by unfold uM;split<;>rfl
theorem aTe(a:Nat):(uM a).size<=2:=by unfold uM;split<;>decide
theorem aTf(a:Nat):(if a=0 then ([40]:List UInt8) else [44,32]).length<=2:=by split<;>simp
theorem vZ{c:World}(a:Below B w.drew c):Below B w c:=⟨a.os,a.tape,a.output,a.size,a.block⟩
theorem aTg(d:Nat):∀(B b:Nat) (q:List UInt8) (Z:Option Addr) (t:Nat) (g:List Nd) (j:Nat) (s w:World),Bd B b q w->cS s Z g->Below B s w->s.heap.size<=B->B<=w.heap.size->g.length<=t->g.length<=d->g.length<=60->aN g (j+1)=true->q.length+200*g.length<=99000->
  Calls zy 23 #[.pointer (some ⟨b,0,none⟩),.slice Z g.length t] w λk w'=>∃d0 u,k=.returned (.slice d0 (cE d g).2.length u)/\(cE d g).2.length<=u/\cS s d0 (cE d g).2/\Bd B b (q++(cE d g).1) w'/\Below B w w'/\Ok b w w':=by
 induction d with
 |zero=>intro B b q Z t g j s w _ _ _ _ _ _ d8 _ p;have:g=[]:=zo (by omega);rw [this] at p;simp [aN] at p
 |succ d ih=>
  intro B b q Z t g j s w d6 c1 a1 b6 A d5 d8 g8 p h5;cases g with
  |nil=>simp [aN] at p
  |cons n r=>
   obtain ⟨a0,a6,rfl,b2,b4⟩:=c1.cell 0 (by simp);simp only [List.getElem_cons_zero,Nat.zero_mul,Nat.add_zero] at b2 b4;have b3:=Below.at' a1 b6 b2;have b5:=Below.at' a1 b6 b4;have e4:=c1.tail d5;obtain ⟨e,l⟩:=n;simp only at b3 b5;have i1:¬j+1=0:=by omega
   simp only [aN,aF i1] at p;have c2:dE (e,l)=true:=by
    cases h:dE (e,l)
    ·rw [h] at p;simp at p
    ·rfl
   rw [aG c2] at p;have F:=aA (λc5=>nH e l c5);have X:=aA d6;simp only [zv] at d5 d8 g8 h5;have g9:(1:Int)<=((r.length+1:Nat):Int):=by omega
   have h0:(1:Int)<=(r.length:Int)+1:=by omega
   have h8:=World.new_ne w _ b3;have h9:=World.new_ne w _ b5;obtain ⟨E,i2,e5⟩ : ∃E,(if t=1 then some (⟨a0,a6,none⟩ : Addr) else some ⟨a0,a6+2,none⟩)=E/\cS s E r:=⟨_,rfl,e4⟩;have b1:=aA e5;have c8:=aA p;have a9:=aA c2;have g2:=aA ih;have f7:=aA a1;clear b2 b4 d6 c1 e4 e5 p c2 ih a1;go_enter Tryz.func23,Tryz.ntmps23;go_wp2_with fail;go_region_held3 (λw'=>w'.cell? ⟨a0,a6,none⟩=some (.string e)/\w'.cell? ⟨a0,a6+1,none⟩=some (.int .i64 l)) (go_keep) (fail);have d3:aB w (w.alloc (.cells #[.string e,.int .i64 l] 43)):=(Below.refl _ _).alloc (zr _) _;have j0:=aA d3;clear d3 b3 b5 h8 h9 g9 h0 i2;by_cases D:e.toList.isEmpty=true
   ·have y:aM (e,l)=true:=D;have a5:0<=l/\l<60:=by simpa [dE,y] using a9.o
    obtain ⟨a,rfl⟩:=Int.eq_ofNat_of_zero_le a5.1;have h6:a<60:=by omega
    have i:aI (cE (d+1) ((e,(a:Int))::r)=(88::jA a,r)):=aA (by simp [cE,y]);rw [D] at F;have f3:=aA (λc5=>aTc a h6 c5);have j1:=aHj a;clear a5 y D;go_wp2_with (first
     |(go_at_call 36;refine (aC F _).mono ?_;rintro k V ⟨rfl,m⟩;obtain ⟨e9,f0,f⟩:=fY (vZ m);have G:=aA (tA B b q (⟨#[88]⟩++⟨(jA a).toArray⟩) V (X.o.below f) (by rw [dR,yT];simp;omega) (zu A f.size));have H:=aA (f.mono A);have L:=aA (Ok.of_below (b:=b) f);clear m f)
     |(go_at_call 38;refine (aC f3 _).mono ?_;rintro k j8 ⟨rfl,rfl⟩)
     |(go_at_call 21;refine (aC G).mono ?_;rintro k f1 ⟨rfl,x,v,o⟩;have J:=aA x;have I:=aA (H.o.trans v);have M:=aA (L.o.trans o);clear x v o))
    go_ret;refine ⟨E,t-1,?_,?_,?_,?_,I.o,M.o⟩
    ·rw [i.o];rfl
    ·rw [i.o];simp only;omega
    ·rw [i.o];exact b1.o
    ·rw [i.o];exact J.o
   ·have y:aM (e,l)=false:=by simpa [aM] using D
    have e6:e.toList.isEmpty=false:=by simpa using D
    have a5:dL e=true/\0<=l/\l<=5:=by simpa [dE,y] using a9.o
    obtain ⟨c3,e8,i3⟩:=a5;obtain ⟨a,rfl⟩:=Int.eq_ofNat_of_zero_le e8;have e7:aX (e,(a:Int))=a:=by simp [aX,y]
    have e3:aN r (a+j)=true:=by have:=c8.o;rw [e7,show j+1-1+a=a+j by omega] at this;exact this
    have j6:=uR e c3;have i:aI (cE (d+1) ((e,(a:Int))::r)=(gB e.data.toList++((eS (cE d) a r).1++if 0<a then [41] else []),(eS (cE d) a r).2)):=aA (by simp [cE,y]);have g5:=aA (λS h1=>aHn d (aHo d) S a j r h1 (by omega) e3);have i0:=aHl e.data.toList;rw [<-dR] at i0;have j4:a<=5:=by omega
    have c9:=aA c3;rw [e6] at F;clear e7 e3 y c3 e8 i3 D e6 c8 a9;have d2:b≠w.heap.size:=by have:=Bd.lt X.o;omega
    by_cases d9:a=0
    ·have h7:((a:Int)==0)=true:=by rw [beq_iff_eq];omega
     have z:aI ((eS (cE d) a r)=([],r)/\(if 0<a then [41] else ([]:List UInt8))=[]):=aA (by subst d9;exact ⟨rfl,rfl⟩);clear d9;go_wp2_with (first
      |(go_at_call 36;refine (aC F _).mono ?_;rintro k V ⟨rfl,m⟩;obtain ⟨e9,f0,f⟩:=fY (vZ m);have c4:=aHx (vZ m);have G:=aA (aHv B b q e V (X.o.below f) c9.o (by omega) (zu A f.size));have H:=aA (f.mono A);have L:=aA (Ok.of_below (b:=b) f);clear m f)
      |(go_at_call 39;refine (aC G).mono ?_;rintro k f1 ⟨rfl,x,v,o⟩;obtain ⟨i6,i7⟩:=wD (aHw o c4 d2);have J:=aA x;have I:=aA (H.o.trans v);have M:=aA (L.o.trans o);clear x v o))
     go_ret;refine ⟨E,t-1,?_,?_,?_,?_,I.o,M.o⟩
     ·rw [i.o,z.o.1];rfl
     ·rw [i.o,z.o.1];simp only;omega
     ·rw [i.o,z.o.1];exact b1.o
     ·rw [i.o,z.o.1,z.o.2];simpa using J.o
    ·have h7:((a:Int)==0)=false:=by rw [beq_eq_false_iff_ne];omega
     have z:aI ((if 0<a then [41] else ([]:List UInt8))=[41]):=aA (aG (by omega));go_wp2_with (first
      |(go_at_call 36;refine (aC F _).mono ?_;rintro k V ⟨rfl,m⟩;obtain ⟨e9,f0,f⟩:=fY (vZ m);have c4:=aHx (vZ m);have G:=aA (aHv B b q e V (X.o.below f) c9.o (by omega) (zu A f.size));have H:=aA (f.mono A);have L:=aA (Ok.of_below (b:=b) f);clear m f)
      |(go_at_call 39;refine (aC G).mono ?_;rintro k f1 ⟨rfl,x,v,o⟩;obtain ⟨i6,i7⟩:=wD (aHw o c4 d2);have J:=aA x;have I:=aA (H.o.trans v);have M:=aA (L.o.trans o);clear x v o))
     go_loopw [6,7,32] (λi9 g6 S wr=>∃(c:Nat) (T:Option Addr) (u:Nat),c<=a/\S=.int .i64 c/\g6=.string (uM c)/\i9=.slice T (eS (cE d) c r).2.length u/\(eS (cE d) c r).2.length<=u/\cS s T (eS (cE d) c r).2/\
       Bd B b (q++gB e.data.toList++(eS (cE d) c r).1) wr/\Below B w wr/\Ok b w wr) (λ_ _ S _=>a-(intOf S).toNat)
     case atStart=>exact ⟨0,E,t-1,by omega,rfl,rfl,rfl,by simp only [eS];omega,b1.o,by simpa [eS] using J.o,I.o,M.o⟩
     case round=>
      obtain ⟨c,T,u,h2,rfl,rfl,rfl,b8,a3,a2,O,a4⟩:=hrel;have b7:B<=wr.heap.size:=zu A O.size;obtain ⟨i4,j3,Q,c0,h4⟩:=g5.o c h2;by_cases j2:c<a
      ·have j5:=aTe c;have b9:aN (eS (cE d) c r).2 ((a-c-1+j)+1)=true:=by rw [Q,show a-c-1+j+1=a-c+j by omega];exact c0
       have e2:(eS (cE d) c r).2.length+i4<=r.length:=by rw [Q,zs];omega
       have c6:=aA (tA B b _ (uM c) wr a2 (by simp only [zx];omega) b7);have N:aI (eS (cE d) (c+1) r=((eS (cE d) c r).1++((if c=0 then [40] else [44,32])++(cE d (eS (cE d) c r).2).1),(cE d (eS (cE d) c r).2).2)):=rfl;have c7:=aA (aTd c);have W:=aA O;have b0:=aA a4;have Y:=aA a3;generalize eS (cE d) c r=PJ at *;obtain ⟨j7,i5⟩:=PJ;simp only at b8 b9 e2 h4 c6 N Y;have g1:=aA b9;clear a2 O a4 a3 Q c0 b9;go_wp2_with (first
        |(go_at_call 21;refine (aC c6).mono ?_;rintro k f2 ⟨rfl,P,C,R⟩;have f4:=aA (g2.o B b _ T u i5 (a-c-1+j) s f2 P Y.o (f7.o.trans (W.o.trans C)) b6 (zu b7 C.size) b8 (by omega) (by omega) g1.o (by rw [c7.o];simp only [zx];have:=aTf c;omega));have a7:=aA (W.o.trans C);have a8:=aA (b0.o.trans R);clear P C R)
        |(go_at_call 23;refine (aC f4).mono ?_;rintro k j9 ⟨i8,g7,rfl,d4,e0,d7,d1,e1⟩;have f8:=aA d4;have g3:=aA e0;have g0:=aA d7;have f6:=aA (a7.o.trans d1);have g4:=aA (a8.o.trans e1);clear d4 e0 d7 d1 e1))
       go_roundw;case rel=>exact ⟨c+1,i8,g7,by omega,by go_num,rfl,by rw [N.o],by rw [N.o];exact f8.o,by rw [N.o];exact g3.o,by rw [N.o];have:=g0.o;rw [c7.o] at this;simpa using this,f6.o,g4.o⟩
       case measure=>simp [intOf];omega
      ·have h3:c=a:=by omega
       subst h3;have e2:(eS (cE d) c r).2.length<=60:=by rw [Q,zs];omega
       have f5:=aA (vY B b _ 41 wr a2 (by simp only [zx];omega) b7);have W:=aA O;have b0:=aA a4;have Y:=aA a3;clear a2 O a4 a3 Q c0;go_wp2_with (first
        |(go_at_call 22;refine (aC f5).mono ?_;rintro k f2 ⟨rfl,P,C,R⟩;have f9:=aA P;have a7:=aA (W.o.trans C);have a8:=aA (b0.o.trans R);clear P C R))
       go_ret;refine ⟨T,u,?_,?_,?_,?_,a7.o,a8.o⟩
       ·rw [i.o];rfl
       ·rw [i.o];exact b8
       ·rw [i.o];exact Y.o
       ·rw [i.o,z.o];simpa using f9.o
