import Derived.Test.YtbpiopdphigodaaGreatDoorGSpecP
import Derived.Lib.MapLaws
import Derived.Test.YtbpiopdphigodaaGreatDoorStepAppP
open List renaming getD_eq_getElem?_getD→zx,getElem?_eq_getElem→zu,length_append→zr,take_of_length_le→zo,map_append→zn,map_cons→zk,map_nil→zj,getElem?_map→zi,length_drop→zg
open Nat renaming le_refl→zy,le_trans→zp
namespace Go.Proofs.YtbpiopdphigodaaGreatDoor
open _root_.Go.Proofs.Tryz renaming underlying134→zw,results54→zs,prog→zq
open Utf8 renaming decode→zt,encode→zm
open Value renaming int→zl
open World renaming cell?→zz,frozen?→zv,ownsRow_nil→zh
open Go.RowKit
set_option maxHeartbeats 3000000
set_option maxRecDepth 100000
variable{n:ByteArray}{w w':World}
theorem aFe{b:ByteArray}{a e:Nat}(g:bB b a≠0)(r:e+bB b a<=n.size)(c:∀k,k<bB b a->aE n (e+k)=aE b (a+k)):bB n e=bB b a:=by
 have d:=c 0 (by omega);simp only [Nat.add_zero] at d;by_cases m:cM (aE b a)<=1
 ·rw [pY b a m] at g ⊢;rw [pY n e (by rw [d];exact m),d]
 ·obtain ⟨f,j⟩ : ∃f,cM (aE b a)=f:=⟨_,rfl⟩;have o:f<=4:=by rw [<-j];unfold cM;split<;>(try split)<;>(try split)<;>(try split)<;>(try split)<;>omega
  have i:=qL b a f j (by omega) o;have q:=qL n e f (by rw [d];exact j) (by omega) o;rw [i] at g;split at g
  ·exact absurd rfl g
  ·rename_i p;rw [aF p] at i;rw [i] at r c ⊢;rw [q,aF];intro h;apply p;have l:=c 1 (by omega);rcases h with h|h|h|h|h
   ·omega
   ·right;left;rw [<-l];exact h
   ·right;right;left;exact ⟨h.1,by rw [<-c 2 (by omega)];exact h.2⟩
   ·right;right;right;left;exact ⟨h.1,by rw [<-c 3 (by omega)];exact h.2⟩
   ·right;right;right;right;rw [<-d,<-l];exact h
inductive lA(n:ByteArray):Nat->Nat->Nat->Prop
 |done (p:Nat):lA n p p 0
 |step {p e k:Nat}:p<n.size->bB n p≠0->aE n p≠10->lA n (p+bB n p) e k->lA n p e (k+1)
theorem lA.name{n:ByteArray}{p d c:Nat}(e:lA n p d c)(i:d=n.size):∀b a,n.size-p<=b->eY n b p a=(decide (1<=a+c) && decide (a+c<=20)):=by
 induction e with
 |done p=>intro b a _;rw [sH n b p a (by omega)];rfl
 |@step p d c h1 h2 h3 _ ih=>
  intro b a j;obtain ⟨g,k,f⟩:=aLn n b p a h1 j (λe=>e.elim h2 h3);rw [f,ih i g (a+1) k,show a+1+c=a+(c+1) by omega]
theorem aB4(a c:ByteArray)(b:Nat):aE (a++c) b=if b<a.size then aE a b else aE c (b-a.size):=by
 rw [lH,lH,lH];have:(a++c).data.toList=a.data.toList++c.data.toList:=by rw [ByteArray.data_append,Array.toList_append]
 rw [this,dR];by_cases d:b<a.data.toList.length
 ·rw [aG d,zx,zx,List.getElem?_append_left d]
 ·rw [aF d,zx,zx,List.getElem?_append_right (by omega)]
theorem lA.grow{x:ByteArray}{a b c:Nat}(e:lA n a b c)(f:b<=n.size):lA (n++x) a b c:=by
 induction e with
 |done a=>exact .done a
 |@step a b c h1 h2 h3 _ ih=>
  have i:=xM n a h1;have d:bB (n++x) a=bB n a:=aFe h2 (by rw [ByteArray.size_append];omega) (λj g=>by rw [aB4,aG (by omega)]);refine .step (by rw [ByteArray.size_append];omega) (by rw [d];exact h2) (by rw [aB4,aG h1];exact h3) ?_;rw [d];exact ih f
theorem lA.snoc{p a e:Nat}(f:lA n p a e)(d:a<n.size)(c:bB n a≠0)(b:aE n a≠10):lA n p (a+bB n a) (e+1):=by
 induction f with
 |done p=>exact .step d c b (.done _)
 |step h1 h2 h3 _ ih=>exact .step h1 h2 h3 (ih d c b)
theorem lA.char{b:ByteArray}{j a:Nat}(k:lA n 0 n.size j)(m:a<b.size)(g:bB b a≠0)(l:aE b a≠10):lA (n++b.extract a (a+bB b a)) 0 (n++b.extract a (a+bB b a)).size (j+1):=by
 have p:=xM b a m;have d:(b.extract a (a+bB b a)).size=bB b a:=by rw [ByteArray.size_extract];omega
 have i:∀c,c<bB b a->aE (n++b.extract a (a+bB b a)) (n.size+c)=aE b (a+c):=by intro c o;rw [aB4,aF (by omega),show n.size+c-n.size=c by omega,kZ _ c (by omega),kZ b (a+c) (by omega)];rw [ByteArray.getElem_extract]
 have e:bB (n++b.extract a (a+bB b a)) n.size=bB b a:=aFe g (by rw [ByteArray.size_append,d];omega) i;have f:=i 0 (by omega);simp only [Nat.add_zero] at f;have:=(k.grow (x:=b.extract a (a+bB b a)) (zy _)).snoc (by rw [ByteArray.size_append,d];omega) (by rw [e];exact g) (by rw [f];exact l);rw [e] at this;rw [ByteArray.size_append,d];exact this
theorem aOs(n:Nat)(i:Utf8.valid (n:Int)=true):(zm (n:Int)).data.toList=Lib.encodeRune (n:Int):=by
 have d:=i;rw [validRune_eq] at d;unfold validRune at d;rw [decide_eq_true_eq] at d;unfold Lib.encodeRune zm;simp only [i,if_true,Int.toNat_natCast];by_cases e:n<128
 ·rw [aG e,Lib.encodeRuneZ_one (by omega) (by omega)];rfl
 ·rw [aF e];by_cases f:n<2048
  ·rw [aG f,Lib.encodeRuneZ_two (by omega) (by omega)];have a:(192+(n:Int) / 64).toNat=192+n / 64:=by omega
   have b:(128+(n:Int) % 64).toNat=128+n % 64:=by omega
   simp only [zk,zj,a,b]
  ·rw [aF f];by_cases g:n<65536
   ·rw [aG g,Lib.encodeRuneZ_three (by omega)];have a:(224+(n:Int) / 4096).toNat=224+n / 4096:=by omega
    have b:(128+(n:Int) / 64 % 64).toNat=128+n / 64 % 64:=by omega
    have c:(128+(n:Int) % 64).toNat=128+n % 64:=by omega
    simp only [zk,zj,a,b,c]
   ·rw [aF g,Lib.encodeRuneZ_four (by omega) (by omega)];have a:(240+(n:Int) / 262144).toNat=240+n / 262144:=by omega
    have b:(128+(n:Int) / 4096 % 64).toNat=128+n / 4096 % 64:=by omega
    have c:(128+(n:Int) / 64 % 64).toNat=128+n / 64 % 64:=by omega
    have j:(128+(n:Int) % 64).toNat=128+n % 64:=by omega
    simp only [zk,zj,a,b,c,j]
theorem aB5(b:ByteArray)(a:Nat)(c:a<b.size)(d:aR b a≠-2):zm (aR b a)=b.extract a (a+gK b a)/\bB b a=gK b a:=by
 have f:¬((zt b a).1=65533/\(zt b a).2=1):=by intro e;apply d;unfold aR lB;rw [aG c,aG e]
 have i:aR b a=((zt b a).1:Int):=by unfold aR lB;rw [aG c,aF f]
 have j:b.data.toList.drop a≠[]:=by intro d;have:=congrArg List.length d;simp only [zg,<-dR,List.length_nil] at this;omega
 have g:=Lib.encode_decode (b.data.toList.drop a) j (by rw [Lib.decodeL_drop];exact f);rw [Lib.decodeL_drop] at g;have m:=vL b a c;refine ⟨?_,by rw [uS b a c];unfold oT;rw [aF f];rfl⟩;rw [i];apply ByteArray.ext;apply Array.toList_inj.1;have k:=aBa b a;have l:Utf8.valid ((zt b a).1:Int)=true:=by
  rcases k with e|e|e
  ·exact absurd e (yE b a c)
  ·exact absurd e d
  ·rw [<-i];exact e
 have:(zm ((zt b a).1:Int)).data.toList=Lib.encodeRune ((zt b a).1:Int):=aOs _ l;rw [this,g,ByteArray.data_extract,Array.toList_extract];simp [gK]
structure qC(rs:List Int):Prop where
 cs:lA (runesBytes rs) 0 (runesBytes rs).size rs.length
theorem qC.nil:qC []:=⟨.done _⟩
theorem qC.name{a:List Int}(b:qC a):dL (runesBytes a)=(decide (1<=a.length) && decide (a.length<=20)):=by unfold dL;rw [b.cs.name rfl _ 0 (by omega)];simp
theorem qC.more{rs:List Int}{b:ByteArray}{a:Nat}(g:qC rs)(c:a<b.size)(j:aR b a≠-2)(i:aR b a≠10):qC (rs++[aR b a]):=by obtain ⟨e,f⟩:=aB5 b a c j;have k:=vK b a;refine ⟨?_⟩;rw [yF,e,<-f,zr,List.length_singleton];exact g.cs.char c (by omega) (λd=>i ((eV b a c 10 (by omega)).2 d))
section
variable {s:ByteArray}{rs:List Int}{f q:Nat}
theorem aOt(e:s.size<=q+f)(c:aR s q=39):q<s.size/\eO s f (runesBytes rs) q=if dL (runesBytes rs) then some (runesBytes rs,q+1) else none:=by
 have a:q<s.size:=Classical.byContradiction λd=>by rw [nD s q d] at c;omega
 obtain ⟨b,rfl⟩ : ∃b,f=b+1:=⟨f-1,by omega⟩;refine ⟨a,?_⟩;rw [eO,aG a,aG ((eV s q a 39 (by omega)).1 c)]
theorem aOu(g:s.size<=q+f)(d:aR s q≠39)(e:aR s q≠92)(h:aR s q=10\/aR s q=-2\/aR s q=-1):eO s f (runesBytes rs) q=none:=by
 by_cases a:q<s.size
 ·obtain ⟨c,rfl⟩ : ∃c,f=c+1:=⟨f-1,by omega⟩;rw [eO,aG a,aF (λb=>d ((eV s q a 39 (by omega)).2 b)),aF (λb=>e ((eV s q a 92 (by omega)).2 b)),aG];rcases h with h|h|h
  ·exact Or.inr ((eV s q a 10 (by omega)).1 h)
  ·left;unfold aR lB at h;rw [aG a] at h;rw [uS s q a];unfold oT;split at h
   ·rename_i b;rw [aG b]
   ·omega
  ·exact absurd h (yE s q a)
 ·cases f with
  |zero=>rfl
  |succ f=>rw [eO,aF a]
theorem aOv(a:q<s.size)(i:aR s q≠39)(j:aR s q≠92)(e:aR s q≠10)(g:aR s q≠-2):eO s (f+1) (runesBytes rs) q=eO s f (runesBytes (rs++[aR s q])) (q+gK s q):=by
 obtain ⟨c,d⟩:=aB5 s q a g;have k:=vK s q;rw [eO,aG a,aF (λb=>i ((eV s q a 39 (by omega)).2 b)),aF (λb=>j ((eV s q a 92 (by omega)).2 b)),aF,yF,c,d];rintro (h|h)
 ·omega
 ·exact e ((eV s q a 10 (by omega)).2 h)
theorem aOw(d:q<s.size)(l:aR s q=92):eO s (f+1) (runesBytes rs) q=if jZ (aR s (q+1))=true then eO s f (runesBytes (rs++[aR s (q+1)])) (q+2) else none:=by
 have c:=(eV s q d 92 (by omega)).1 l;rw [eO,aG d,aF (by rw [c];decide),aG c];by_cases a:q+1<s.size
 ·have e:=eV s (q+1) a 39 (by omega);have g:=eV s (q+1) a 92 (by omega);by_cases he:aE s (q+1)=39\/aE s (q+1)=92
  ·have b:jZ (aR s (q+1))=true:=by
    unfold jZ;rcases he with he|he
    ·rw [e.2 he];rfl
    ·rw [g.2 he];rfl
   have m:aE s (q+1)<128:=by omega
   obtain ⟨j,k⟩:=lS s (q+1) a m;obtain ⟨i,_⟩:=aB5 s (q+1) a (by rw [j];omega);rw [aG ⟨a,he⟩,aG b,yF,i,k]
  ·have b:¬jZ (aR s (q+1))=true:=by
    unfold jZ;intro h;simp only [Bool.or_eq_true,decide_eq_true_eq] at h;rcases h with h|h
    ·exact he (Or.inl (e.1 h))
    ·exact he (Or.inr (g.1 h))
   rw [aF (λh=>he h.2),aF b]
 ·rw [aF (λh=>a h.1),nD s (q+1) a];rfl
end
theorem mJ(a:aB w w')(d:Option Nat):w.grownBy w' d:=⟨a.os,a.tape,a.output,a.size,λc b _=>a.block c b⟩
structure xZ(w1:World)(s:ByteArray)(p:Nat)(v:Value)(q:Nat)(wr:World):Prop where
 le:p+q<=s.size
 low:∀i,i<q->aE s (p+i)<128
 run:dV s p=dV s (p+q)
 row:wr.ownsRow w1.heap.size 21 1 v q ((nE s p q).map (zl .i32))
 far:aB w1 wr
theorem xZ.next{w1:World}{d:ByteArray}{c:Nat}{j v':Value}{a:Nat}{wr:World}{X Y:Obj}(b:xZ w1 d c j a wr)(o:c+a<d.size)(g:cO (aE d (c+a))=true)(m:w'.ownsRow w1.heap.size 21 1 v' (a+1) ((nE d c a).map (zl .i32)++[.int .i32 (aE d (c+a))]))(l:((wr.alloc X).alloc Y).grownBy w' j.ownBlock):xZ w1 d c v' (a+1) w':=by
 have f:=(b.far.alloc b.far.size X).alloc (zp b.far.size (by simp)) Y;refine ⟨by omega,λi p=>?_,?_,?_,?_⟩
 ·by_cases e:i=a
  ·subst e;exact aBe _ g
  ·exact b.low i (by omega)
 ·rw [b.run,wF o g];rfl
 ·rw [aFo,zn];exact m
 ·exact f.grown l f.size (λk e=>(cL b.row k e).1)
theorem aFf{W:World}{i:Nat}{d f:Nat}{c:ByteArray}{b a:Nat}(l:W.ownsRow i 21 1 (.slice (some ⟨d,0,none⟩) a f) a ((nE c b a).map (zl .i32)))(k:runesBytes (nE c b a)=c.extract b (b+a)):(convert 134 9 (.slice (some ⟨d,0,none⟩) a f)).run zq W=.ok (.string (c.extract b (b+a))) W:=by
 have m:(nE c b a).length=a:=by simp [nE]
 have j:=run_convert_runes (P:=zq) W 134 9 21 ⟨d,0,none⟩ a f (nE c b a) (by omega) zw (by kernel_rfl) (by kernel_rfl) (λe g=>by
  have:=l.cellAt e (by omega);rw [zi,zu g,Option.map_some] at this;rw [show (⟨d,0,none⟩ : Addr).add e=⟨d,e,none⟩ by simp [Addr.add];omega,this];simp [List.getD,g])
 rw [j,zo (by omega),k]
section
variable {B:Nat}{pb:Nat}{s:ByteArray}{p g j m c:Nat}{k a:Int}{wd:ByteArray}{vC vP vM:Value}
def aOx(B pb:Nat)(s:ByteArray)(p g j m c:Nat)(k a:Int)(wd:ByteArray)(vC vP vM:Value)(f:Int)(w:World)(b:Ending)(w':World):Prop:=
 w.grownBy w' (some pb)/\
  if dV s p-p > 20 then b=.returned (fJ (-2) p ⟨#[]⟩)/\bJ B w' pb s p g j m c k a wd vC vP vM
  else b=.returned (fJ f p (s.extract p (dV s p)))/\∃e i d,bJ B w' pb s (dV s p) g e i d k a wd vC vP vM
theorem iF{b d:Nat}{f v:Value}(e:w.cell? ⟨b,d,none⟩=some f):(w.setCell ⟨b,d,none⟩ v).cell? ⟨b,d,none⟩=some v:=World.cell?_setCell_same _ _ _ e
theorem yA(t:Int)(L:bJ B w pb s p g j m c k a wd vC vP vM)(i9:s.size<=3000)(f1:p<s.size)(e1:cO (aE s p)=true):Calls zq 52 #[.pointer (some ⟨pb,0,none⟩),.int .i32 t] w λy w'=>aOx B pb s p g j m c k a wd vC vP vM t w y w':=by
 obtain ⟨f9,e3,e4,e5,e6⟩:=info_parts aFn;have b3:=L.box.c0;have e0:∀e,(w.alloc e).cell? ⟨pb,0,none⟩=some (.slice (some ⟨g,j*2,none⟩) (m+1) (c+1)):=λe=>aD ((Below.refl _ w).alloc (zy _) e) b3
 have a1:aI (∀e,aB w (w.alloc e)):=aA λe=>(Below.refl _ _).alloc (zy _) e
 have b0:aI (∀e,(w.alloc e).heap[w.heap.size]?=some e/\(w.alloc e).heap.size=w.heap.size+1):=aA λe=>⟨by show (w.heap.push _)[w.heap.size]?=_;simp,by simp⟩
 have J:=aA L;have f2:=L.box.lt;clear L b3;go_enter Tryz.func52,Tryz.ntmps52;go_wp2;have T:=a1.o (.cells #[.int .i32 0,.int .i64 0,.string ⟨#[]⟩] 47);have a7:=aA (J.o.below T);obtain ⟨c3,f7⟩:=b0.o (.cells #[.int .i32 0,.int .i64 0,.string ⟨#[]⟩] 47);have a2:=aA T;have b1:=aA c3;clear T c3 a1 b0;generalize w.alloc (.cells #[.int .i32 0,.int .i64 0,.string ⟨#[]⟩] 47)=w1 at *;have c0:w.heap.size<w1.heap.size:=by omega
 obtain ⟨f,O⟩ : ∃f,w.heap.size=f:=⟨_,rfl⟩;rw [O] at c0 b1 f2;simp only [O];have a5:=aA O;clear O f7 e0;go_loopw [5,14] (λv u wr=>∃b:Nat,u=.int .i64 b/\xZ w1 s p v b wr) (λ_ u _=>s.size+1-(intOf u).toNat);case atStart=>exact ⟨0,rfl,by omega,λu h8=>by omega,rfl,zh _ _ _ _,Below.refl _ _⟩
 case round=>
  obtain ⟨b,rfl,i⟩:=hrel;have H:=i.le;obtain ⟨N,f6⟩:=a7.o.letters b H i.low;have F:=a7.o.below i.far;obtain ⟨d9,h3⟩:=F.cells b (p+b) N H f6;have i7:(b:Int)<((m+1:Nat):Int):=by omega
  have i4:(0:Int)<=(b:Int):=by omega
  have V:=aPl s (p+b);have z:=aA (λg5=>aC6 (aR s (p+b)) g5);rw [V] at z;obtain ⟨j7,j9,rfl⟩:=aY i.row;have a4:=aA i;have e9:=i.far.size;by_cases r:p+b<s.size/\cO (aE s (p+b))=true
  ·have b9:=(lS s (p+b) r.1 (aBe _ r.2)).1;rw [r.2,fH r.1] at z;rw [b9] at z d9;have d3:=aA (λ(g2:Value) (w':World) (d8 o:Obj) ho hg=>a4.o.next r.1 r.2 (v':=g2) (w':=w') (X:=d8) (Y:=o) ho hg);have I:=aA (i.row);have i3:p+b<s.size:=r.1;clear i V b9 r F N a4;generalize aE s (p+b)=bb at *;go_wp2_with (first
    |(go_at_call 85;refine (aC z _).mono ?_;rintro y c6 ⟨rfl,rfl⟩)
    |(at_builtin;refine wpList_append_own _ rfl (.tmp 22) (.tmp 25) 134 rfl w1.heap.size 21 f9 (.int .i32 0) 1 4 zw e3 e4 e5 e6 rfl (by decide) _ _ _ rfl ((I.o.alloc _).alloc _) ⟨_,0,none⟩ 1 1 [.int .i32 bb] rfl rfl (tS _ _ _ _ (by simp)) (aBd _) (by unfold maxLen;omega) (by omega) (by simp;omega) ?_;intro j6 D X b8 _;have d4:=aA (d3.o _ _ _ _ X b8);obtain ⟨j8,k1,rfl⟩:=aY X;clear X b8)
    |go_in)
   go_roundw;case rel=>exact ⟨b+1,by go_num,d4.o⟩
   case measure=>simp [intOf];omega
  ·have c1:dV s (p+b)=p+b:=aIa r;have a6:aI (dV s p=p+b):=aA (by rw [i.run,c1]);have i5:1<=b:=by
    apply Classical.byContradiction;intro i1;obtain rfl:b=0:=by omega
    exact r ⟨f1,e1⟩
   have b7:(decide (p+b<s.size) && cO (aE s (p+b)))=false:=by
    rw [Bool.and_eq_false_iff];by_cases y:p+b<s.size
    ·right;cases hb:cO (aE s (p+b))
     ·rfl
     ·exact absurd ⟨y,hb⟩ r
    ·left;simpa using y
   rw [b7] at z;have a9:aI (runesBytes (nE s p b)=s.extract p (p+b)):=aA (aPk s p b H i.low);have I:=aA i.row;have d2:=aA i.far;have a3:=aA N;have a8:=aA F;have Z:=i.far.block f c0;rw [b1.o] at Z;have d7:=aA Z;have i0:=F.mc;clear i V F N b7 c1 r Z;have P:aI (∀e,aB w (wr.alloc e)):=aA λe=>((aZ a2.o d2.o).alloc (zp a2.o.size e9) e)
   have b2:aI (∀e,(wr.alloc e).heap[f]?=some (.cells #[.int .i32 0,.int .i64 0,.string ⟨#[]⟩] 47)):=aA λe=>by
    rw [((Below.refl wr.heap.size wr).alloc (zy _) e).block f (by omega)];exact d7.o
   by_cases i6:20<b
   ·have f5:(20:Int)<(b:Int):=by omega
    have a0:=aA (λe=>tX (a8.o.below ((Below.refl wr.heap.size wr).alloc (zy _) e)));unfold fJ at a0;go_wp2_with (first
     |(go_at_call 85;refine (aC z _).mono ?_;rintro y c6 ⟨rfl,rfl⟩)
     |(go_at_call 57;refine (aC a0 _).mono ?_;rintro y D ⟨rfl,U⟩;have C:=(U.block f (by simp;omega)).trans (b2.o _);have d0:=aA U;have h1:=aA C;have g0:D.cell? ⟨f,0,none⟩=some (.int .i32 0):=(by simp [zz,C]);have c4:D.cell? ⟨f,1,none⟩=some (.int .i64 0):=(by simp [zz,C]);have c5:D.cell? ⟨f,2,none⟩=some (.string ⟨#[]⟩):=(by simp [zz,C]);have g1:=iF (v:=.int .i32 (-2)) g0;have j2:=iF (v:=.int .i64 p) c4;have j3:=iF (v:=.string ⟨#[]⟩) c5;have j1:∀u,D.frozen? ⟨f,u,none⟩=false:=(λu=>by simp [zv,C]);clear U C)
     |go_in)
    refine bodyPost_ret (by simp [results,Tryz.results52,go_sem,g1,c4,c5];try rfl) rfl ?_;have e8:aB w D:=(P.o _).trans (d0.o.mono (P.o _).size);have A:w.heap.size<=f:=by rw [a5.o];exact zy _
    have G:=fA (fA (fA e8 (p:=⟨f,0,none⟩) A (.int .i32 (-2))) (p:=⟨f,1,none⟩) A (.int .i64 p)) (p:=⟨f,2,none⟩) A (.string ⟨#[]⟩);refine ⟨mJ G _,?_⟩;rw [aG (by rw [a6.o];omega)];exact ⟨rfl,J.o.below G⟩
   ·have f5:¬(20:Int)<(b:Int):=by omega
    obtain ⟨h4,k0,c2⟩:=uO I.o (by omega);simp only [Value.slice.injEq] at c2;obtain ⟨rfl,_,rfl⟩:=c2;obtain ⟨l,rfl⟩ : ∃l,m=l+b:=⟨m-b,by omega⟩;obtain ⟨q,rfl⟩ : ∃q,c=q+b:=⟨c-b,by omega⟩;go_upto_region 10 with (first
     |(go_at_call 85;refine (aC z _).mono ?_;rintro y c6 ⟨rfl,rfl⟩)
     |go_in)
    have M:=a8.o.below ((Below.refl wr.heap.size wr).alloc (zy _) (.cells #[.int .i32 (aR s (p+b)),.int .i64 ((p:Int)+b)] 109));have Q:=I.o.alloc (.cells #[.int .i32 (aR s (p+b)),.int .i64 ((p:Int)+b)] 109);have b4:=P.o (.cells #[.int .i32 (aR s (p+b)),.int .i64 ((p:Int)+b)] 109);have b5:=b2.o (.cells #[.int .i32 (aR s (p+b)),.int .i64 ((p:Int)+b)] 109);have f8:f<(wr.alloc (.cells #[.int .i32 (aR s (p+b)),.int .i64 ((p:Int)+b)] 109)).heap.size:=by simp;omega
    generalize wr.alloc (.cells #[.int .i32 (aR s (p+b)),.int .i64 ((p:Int)+b)] 109)=W at *;have g3:=M.box.c0;have g4:=M.at0.2;have j4:∀e,(W.alloc e).cell? ⟨pb,0,none⟩=some (.slice (some ⟨g,j*2,none⟩) (l+b+1) (q+b+1)):=λe=>aD ((Below.refl W.heap.size W).alloc (zy _) e) g3
    have j5:∀e,(W.alloc e).cell? ⟨g,j*2+1,none⟩=some (.int .i64 p):=λe=>aD ((Below.refl W.heap.size W).alloc (zy _) e) g4
    have h6:=aFf (W:=W.drew) Q a9.o;have h7:=λe=>aFf (W:=(W.alloc e).drew) (World.ownsRow.alloc (w:=W) Q e) a9.o
    have i2:(0:Int)<(l:Int)+b+1:=by omega
    have d5:=aA M;have c9:=aA b4;have d6:=aA b5;clear M b4 b5 Q;go_region;have Y:aB W (W.alloc (.cells #[.int .i32 t,.int .i64 p,.string (s.extract p (p+b))] 47)).drew:=((Below.refl W.heap.size W).alloc (zy _) _).trans ((aQ (w1:=(W.alloc (.cells #[.int .i32 t,.int .i64 p,.string (s.extract p (p+b))] 47)).drew) ⟨1,rfl⟩).mono (by simp));have E:=d5.o.below Y;have S:=(Y.block f f8).trans d6.o;have R:(W.alloc (.cells #[.int .i32 t,.int .i64 p,.string (s.extract p (p+b))] 47)).drew.heap[W.heap.size]?=some (.cells #[.int .i32 t,.int .i64 p,.string (s.extract p (p+b))] 47):=by show (W.heap.push _)[W.heap.size]?=_;simp
    have b6:=aZ c9.o Y;have j0:W.heap.size<(W.alloc (.cells #[.int .i32 t,.int .i64 p,.string (s.extract p (p+b))] 47)).drew.heap.size:=by show W.heap.size<(W.heap.push _).size;simp
    generalize (W.alloc (.cells #[.int .i32 t,.int .i64 p,.string (s.extract p (p+b))] 47)).drew=o at *;generalize W.heap.size=tb at *;have k2:=E.box.c0;have k3:=E.box.soft 0;have g9:=aA E;have h2:=aA S;have h0:=aA R;have d1:=aA b6;have i8:f≠tb:=by omega
    have f3:pb≠f:=by omega
    have f4:pb≠tb:=by omega
    have g8:=aA (bJ.jump b (p+b) l q E a3.o H);have x:∀d,(o.setCell ⟨pb,0,none⟩ d).heap[f]?=some (.cells #[.int .i32 0,.int .i64 0,.string ⟨#[]⟩] 47)/\(o.setCell ⟨pb,0,none⟩ d).heap[tb]?=some (.cells #[.int .i32 t,.int .i64 p,.string (s.extract p (p+b))] 47):=λd=>⟨by rw [Below.heap_setCell _ _ _ _ f3.symm];exact S,by rw [Below.heap_setCell _ _ _ _ f4.symm];exact R⟩
    have g6:∀d,(o.setCell ⟨pb,0,none⟩ d).cell? ⟨f,0,none⟩=some (.int .i32 0):=λd=>by simp [zz,(x d).1]
    have c7:∀d,(o.setCell ⟨pb,0,none⟩ d).cell? ⟨f,1,none⟩=some (.int .i64 0):=λd=>by simp [zz,(x d).1]
    have c8:∀d,(o.setCell ⟨pb,0,none⟩ d).cell? ⟨f,2,none⟩=some (.string ⟨#[]⟩):=λd=>by simp [zz,(x d).1]
    have k4:∀d u,(o.setCell ⟨pb,0,none⟩ d).frozen? ⟨f,u,none⟩=false:=λd u=>by simp [zv,(x d).1]
    have k5:∀d,(o.setCell ⟨pb,0,none⟩ d).cell? ⟨tb,0,none⟩=some (.int .i32 t):=λd=>by simp [zz,(x d).2]
    have k6:∀d,(o.setCell ⟨pb,0,none⟩ d).cell? ⟨tb,1,none⟩=some (.int .i64 p):=λd=>by simp [zz,(x d).2]
    have k7:∀d,(o.setCell ⟨pb,0,none⟩ d).cell? ⟨tb,2,none⟩=some (.string (s.extract p (p+b))):=λd=>by simp [zz,(x d).2]
    clear x E S R b6;have h9:l+b+1-b=l+1:=by omega
    have h5:q+b+1-b=q+1:=by omega
    have g7:=λd=>iF (v:=.int .i32 t) (g6 d)
    have k8:=λd=>iF (v:=.int .i64 p) (c7 d)
    have k9:=λd=>iF (v:=.string (s.extract p (p+b))) (c8 d)
    go_wp2;refine bodyPost_ret (by simp [results,Tryz.results52,go_sem,g7,c7,c8];try rfl) rfl ?_;have e7:Below (w.setCell ⟨pb,0,none⟩ (.slice (some ⟨g,j*2+b*2,none⟩) (l+1) (q+1))).heap.size (w.setCell ⟨pb,0,none⟩ (.slice (some ⟨g,j*2+b*2,none⟩) (l+1) (q+1))) (o.setCell ⟨pb,0,none⟩ (.slice (some ⟨g,j*2+b*2,none⟩) (l+1) (q+1))):=aBc d1.o (J.o.box.lt) _;have A:(w.setCell ⟨pb,0,none⟩ (.slice (some ⟨g,j*2+b*2,none⟩) (l+1) (q+1))).heap.size<=f:=by rw [<-a5.o];simp [World.setCell]
    have G:=fA (fA (fA e7 (p:=⟨f,0,none⟩) A (.int .i32 t)) (p:=⟨f,1,none⟩) A (.int .i64 p)) (p:=⟨f,2,none⟩) A (.string (s.extract p (p+b)));have e2:=(bJ.jump b (p+b) l q J.o a3.o H).below G;have f0:w.grownBy (w.setCell ⟨pb,0,none⟩ (.slice (some ⟨g,j*2+b*2,none⟩) (l+1) (q+1))) (some pb):=cJ _ _ _;refine ⟨f0.trans (mJ G _),?_⟩;rw [a6.o,aF (by omega)];exact ⟨rfl,_,_,_,e2⟩
end
structure oG(B:Nat)(w:World)(s:ByteArray)(p g j m c:Nat):Prop where
 row:w.ownsRow B 109 2 (.slice (some ⟨g,0,none⟩) (j+m+1) (j+c+1)) (j+m+1) (mK (bT s 0))
 len:(bT s 0).length=j+m+1
 drop:(bT s 0).drop j=bT s p
 le:p<=s.size
section
variable {B:Nat}{w w':World}{pb:Nat}{s:ByteArray}{p g j m c:Nat}{k a:Int}{wd:ByteArray}{vC vP vM:Value}
theorem bJ.gl(b:bJ B w pb s p g j m c k a wd vC vP vM):oG B w s p g j m c:=⟨b.row,b.len,b.drop,b.le⟩
theorem oG.below(b:oG B w s p g j m c)(d:aB w w'):oG B w' s p g j m c:=⟨bF b.row d (zy _),b.len,b.drop,b.le⟩
theorem oG.at0(b:oG B w s p g j m c):w.cell? ⟨g,j*2,none⟩=some (.int .i32 (aR s p))/\w.cell? ⟨g,j*2+1,none⟩=some (.int .i64 p):=by
 obtain ⟨q,o⟩:=aBb s p b.le;have l:j<(bT s 0).length:=by have:=b.len;omega
 have i:(bT s 0)[j]=(aR s p,p):=by
  have d:((bT s 0).drop j)[0]?=some (aR s p,p):=by rw [b.drop,o];rfl
  rw [List.getElem?_drop,zu (by omega)] at d;simpa using d
 obtain ⟨e,f⟩:=aB7 (bT s 0) j l;rw [i] at e f;exact ⟨by rw [b.row.cellAt _ (by omega),e],by rw [b.row.cellAt _ (by omega),f]⟩
theorem oG.more(e:oG B w s p g j m c)(i:p<s.size):∃d b,m=d+1/\c=b+1/\oG B w s (p+gK s p) g (j+1) d b:=by
 have z:=e.len;have o:=congrArg List.length e.drop;rw [zg,rK i,List.length_cons] at o;have x:=(yB s _ (p+(zt s p).2) (zy _)).1;obtain ⟨_,q⟩:=e.row;rcases q with ⟨f,_⟩|⟨v,t,u,f,_,_,y,_⟩
 ·simp at f
 ·simp at f;obtain ⟨_,rfl⟩:=f;have r:=e.row;obtain ⟨d,rfl⟩ : ∃d,m=d+1:=⟨m-1,by omega⟩;obtain ⟨b,rfl⟩ : ∃b,c=b+1:=⟨c-1,by omega⟩;refine ⟨d,b,rfl,rfl,?_,by omega,?_,vL s p i⟩
  ·rw [show j+1+d+1=j+(d+1)+1 by omega,show j+1+b+1=j+(b+1)+1 by omega];exact r
  ·have l:(bT s 0).drop (j+1)=((bT s 0).drop j).drop 1:=by rw [List.drop_drop]
   rw [l,e.drop,rK i];rfl
theorem bJ.put(e:bJ B w pb s p g j m c k a wd vC vP vM){l f i d:Nat}(b:oG B w s l g f i d):bJ B (w.setCell ⟨pb,0,none⟩ (.slice (some ⟨g,f*2,none⟩) (i+1) (d+1))) pb s l g f i d k a wd vC vP vM:=
 ⟨e.box.set0 _,e.high,e.box.row b.row (by decide) _ _,b.len,b.drop,b.le⟩
end
structure Qlp(B:Nat)(w w1:World)(s:ByteArray)(p g:Nat)(v rest:Value)(f q j m c:Nat)(rs:List Int)(wr:World):Prop where
 gl:oG B w s q g j m c
 rst:rest=.slice (some ⟨g,j*2,none⟩) (m+1) (c+1)
 row:wr.ownsRow w1.heap.size 21 1 v rs.length (rs.map (zl .i32))
 far:aB w1 wr
 quo:mA s p=eO s f (runesBytes rs) q
 fuel:s.size<=q+f
 ok:qC rs
 few:rs.length<=q
theorem aFg{W:World}{f:Nat}{b d:Nat}{a:List Int}(i:W.ownsRow f 21 1 (.slice (some ⟨b,0,none⟩) a.length d) a.length (a.map (zl .i32))):(convert 134 9 (.slice (some ⟨b,0,none⟩) a.length d)).run zq W=.ok (.string (runesBytes a)) W:=by
 have g:=run_convert_runes (P:=zq) W 134 9 21 ⟨b,0,none⟩ a.length d a (by omega) zw (by kernel_rfl) (by kernel_rfl) (λc e=>by
  have:=i.cellAt c (by omega);rw [zi,zu e,Option.map_some] at this;rw [show (⟨b,0,none⟩ : Addr).add c=⟨b,c,none⟩ by simp [Addr.add];omega,this];simp [List.getD,e])
 rw [g,zo (by omega)]
def sT(d b:Nat)(c:ByteArray)(a g q s o:Nat)(i e:Int)(m:ByteArray)(j l k:Value)(w:World)(f:Ending)(w':World):Prop:=
 w.grownBy w' (some b)/\
  match mA c a with
  |none=>f=.returned (fJ (-2) a ⟨#[]⟩)/\bJ d w' b c a g q s o i e m j l k
  |some (n,e')=>f=.returned (fJ 97 a n)/\∃r t p,bJ d w' b c e' g r t p i e m j l k
theorem sT.bad{a j:Nat}{s:ByteArray}{p d f i c:Nat}{g b:Int}{o:ByteArray}{k m l:Value}(q:bJ a w j s p d f i c g b o k m l)(e:aB w w')(r:mA s p=none):sT a j s p d f i c g b o k m l w (.returned (fJ (-2) p ⟨#[]⟩)) w':=by refine ⟨mJ e _,?_⟩;rw [r];exact ⟨rfl,q.below e⟩
section
variable {B:Nat}{pb:Nat}{s:ByteArray}{p g j m c:Nat}{k a:Int}{wd:ByteArray}{vC vP vM:Value}
theorem aFh(a5:bJ B w pb s p g j m c k a wd vC vP vM)(k6:s.size<=3000)(d4:aR s p=39):Calls zq 54 #[.pointer (some ⟨pb,0,none⟩)] w λe w'=>sT B pb s p g j m c k a wd vC vP vM w e w':=by
 have c6:p<s.size:=Classical.byContradiction λA=>by rw [nD s p A] at d4;omega
 have h4:gK s p=1:=(lS s p c6 (by have:=(eV s p c6 39 (by omega)).1 d4;omega)).2;obtain ⟨e8,d7,d8,d9,e0⟩:=info_parts aFn;obtain ⟨b2,b9,rfl,rfl,c0⟩:=a5.gl.more c6;rw [h4] at c0;have d3:=a5.box.c0;have g2:∀r,(w.alloc r).cell? ⟨pb,0,none⟩=some (.slice (some ⟨g,j*2,none⟩) (b2+1+1) (b9+1+1)):=λr=>aD ((Below.refl _ w).alloc (zy _) r) d3
 have d0:aI (∀r,aB w (w.alloc r)):=aA λr=>(Below.refl _ _).alloc (zy _) r
 have d1:aI (∀r,(w.alloc r).heap[w.heap.size]?=some r/\(w.alloc r).heap.size=w.heap.size+1):=aA λr=>⟨by show (w.heap.push _)[w.heap.size]?=_;simp,by simp⟩
 have N:=aA a5;have h0:=a5.box.lt;have f2:=aA c0;clear a5 d3 c0;go_enter Tryz.func54,Tryz.ntmps54;go_wp2;have c3:=d0.o (.cells #[.int .i32 0,.int .i64 0,.string ⟨#[]⟩] 47);have f4:=aA (N.o.below c3);obtain ⟨e7,h7⟩:=d1.o (.cells #[.int .i32 0,.int .i64 0,.string ⟨#[]⟩] 47);have b3:=aA c3;have d2:=aA e7;clear c3 e7 d0 d1;generalize w.alloc (.cells #[.int .i32 0,.int .i64 0,.string ⟨#[]⟩] 47)=w1 at *;have e6:w.heap.size<w1.heap.size:=by omega
 obtain ⟨b,b1⟩ : ∃b,w.heap.size=b:=⟨_,rfl⟩;rw [b1] at e6 d2 h0;simp only [b1];have a3:=aA b1;clear b1 h7 g2;go_loopg [3,4] s.size (λg5 i3 i2 wr=>∃d h9 i0 g0 o,Qlp B w w1 s p g i3 i2 g5 d h9 i0 g0 o wr);case atStart=>exact ⟨p+1,j+1,b2,b9,[],f2.o,by rw [show (j+1)*2=j*2+2 by omega],zh _ _ _ _,Below.refl _ _,rfl,by omega,qC.nil,by simp⟩
 case round=>
  obtain ⟨d,v,k8,j7,o,f⟩:=hrel;have h3:=f.rst;subst h3;have P:=(f.gl.below b3.o).below f.far;have b8:=P.at0.1;have k4:=f.gl.le;have e4:=f.fuel;have k1:=f.few;have k2:=f.far.size;have H:=aA f;have a1:aI (aB w wr):=aA (aZ b3.o f.far);have a4:aI (wr.heap[b]?=some (.cells #[.int .i32 0,.int .i64 0,.string ⟨#[]⟩] 47)):=aA ((f.far.block b e6).trans d2.o);have a0:=aA (f4.o.below f.far);by_cases F:aR s d=39
  ·obtain ⟨z,b0⟩:=aOt (rs:=o) e4 F;have a9:=f.ok.name;rw [F] at b8;by_cases A:1<=o.length/\o.length<=20
   ·have f5:aI (mA s p=some (runesBytes o,d+1)):=aA (by rw [f.quo,b0,a9,fH A.1,fH A.2];rfl);obtain ⟨L,I,rfl,rfl,y⟩:=f.gl.more z;have c7:gK s d=1:=(lS s d z (by have:=(eV s d z 39 (by omega)).1 F;omega)).2;rw [c7] at y;obtain ⟨j8,l1,rfl⟩:=uO f.row (by omega);have e5:((o.length:Int)==0)=false:=by rw [beq_eq_false_iff_ne];omega
    have g9:decide ((20:Int)<(o.length:Int))=false:=by simp;omega
    have i4:=a0.o.box.c0;have i5:=a0.o.at0.2;have k9:∀r,(wr.alloc r).cell? ⟨pb,0,none⟩=some (.slice (some ⟨g,j*2,none⟩) (b2+1+1) (b9+1+1)):=λr=>aD ((Below.refl wr.heap.size wr).alloc (zy _) r) i4
    have l0:∀r,(wr.alloc r).cell? ⟨g,j*2+1,none⟩=some (.int .i64 p):=λr=>aD ((Below.refl wr.heap.size wr).alloc (zy _) r) i5
    have j9:=aFg (W:=wr.drew) f.row;have k0:=λr=>aFg (W:=(wr.alloc r).drew) (World.ownsRow.alloc (w:=wr) f.row r)
    have k3:(0:Int)<(b2:Int)+1+1:=by omega
    have b4:=aA y;have h8:b<wr.heap.size:=by omega
    clear f P y b0 a9;go_upto_region 18 with (fail);go_region;have c8:aB wr (wr.alloc (.cells #[.int .i32 97,.int .i64 p,.string (runesBytes o)] 47)).drew:=((Below.refl wr.heap.size wr).alloc (zy _) _).trans ((aQ (w1:=(wr.alloc (.cells #[.int .i32 97,.int .i64 p,.string (runesBytes o)] 47)).drew) ⟨1,rfl⟩).mono (by simp));have c2:=a0.o.below c8;have e2:=(c8.block b h8).trans a4.o;have e1:(wr.alloc (.cells #[.int .i32 97,.int .i64 p,.string (runesBytes o)] 47)).drew.heap[wr.heap.size]?=some (.cells #[.int .i32 97,.int .i64 p,.string (runesBytes o)] 47):=by show (wr.heap.push _)[wr.heap.size]?=_;simp
    have e3:=aZ a1.o c8;generalize (wr.alloc (.cells #[.int .i32 97,.int .i64 p,.string (runesBytes o)] 47)).drew=Y at *;generalize wr.heap.size=tb at *;have l2:=c2.box.c0;have l3:=c2.box.soft 0;have f1:=aA e3;have k5:b≠tb:=by omega
    have h1:pb≠b:=by omega
    have h2:pb≠tb:=by omega
    have J:∀i,(Y.setCell ⟨pb,0,none⟩ i).heap[b]?=some (.cells #[.int .i32 0,.int .i64 0,.string ⟨#[]⟩] 47)/\(Y.setCell ⟨pb,0,none⟩ i).heap[tb]?=some (.cells #[.int .i32 97,.int .i64 p,.string (runesBytes o)] 47):=λi=>⟨by rw [Below.heap_setCell _ _ _ _ h1.symm];exact e2,by rw [Below.heap_setCell _ _ _ _ h2.symm];exact e1⟩
    have j1:∀i,(Y.setCell ⟨pb,0,none⟩ i).cell? ⟨b,0,none⟩=some (.int .i32 0):=λi=>by simp [zz,(J i).1]
    have j2:∀i,(Y.setCell ⟨pb,0,none⟩ i).cell? ⟨b,1,none⟩=some (.int .i64 0):=λi=>by simp [zz,(J i).1]
    have j3:∀i,(Y.setCell ⟨pb,0,none⟩ i).cell? ⟨b,2,none⟩=some (.string ⟨#[]⟩):=λi=>by simp [zz,(J i).1]
    have l4:∀i x,(Y.setCell ⟨pb,0,none⟩ i).frozen? ⟨b,x,none⟩=false:=λi x=>by simp [zv,(J i).1]
    have l5:∀i,(Y.setCell ⟨pb,0,none⟩ i).cell? ⟨tb,0,none⟩=some (.int .i32 97):=λi=>by simp [zz,(J i).2]
    have l6:∀i,(Y.setCell ⟨pb,0,none⟩ i).cell? ⟨tb,1,none⟩=some (.int .i64 p):=λi=>by simp [zz,(J i).2]
    have l7:∀i,(Y.setCell ⟨pb,0,none⟩ i).cell? ⟨tb,2,none⟩=some (.string (runesBytes o)):=λi=>by simp [zz,(J i).2]
    clear J c2 e2 e1 e3;have j4:=λi=>iF (v:=.int .i32 97) (j1 i)
    go_wp2;refine bodyPost_ret (by simp [results,zs,go_sem,j4,j2,j3];try rfl) rfl ?_;have d6:=N.o.put b4.o;rw [show (v+1)*2=v*2+2 by omega] at d6;have g6:Below (w.setCell ⟨pb,0,none⟩ (.slice (some ⟨g,v*2+2,none⟩) (L+1) (I+1))).heap.size (w.setCell ⟨pb,0,none⟩ (.slice (some ⟨g,v*2+2,none⟩) (L+1) (I+1))) (Y.setCell ⟨pb,0,none⟩ (.slice (some ⟨g,v*2+2,none⟩) (L+1) (I+1))):=aBc f1.o (N.o.box.lt) _;have t:(w.setCell ⟨pb,0,none⟩ (.slice (some ⟨g,v*2+2,none⟩) (L+1) (I+1))).heap.size<=b:=by rw [<-a3.o];simp [World.setCell]
    have D:=fA (fA (fA g6 (p:=⟨b,0,none⟩) t (.int .i32 97)) (p:=⟨b,1,none⟩) t (.int .i64 p)) (p:=⟨b,2,none⟩) t (.string (runesBytes o));have g7:w.grownBy (w.setCell ⟨pb,0,none⟩ (.slice (some ⟨g,v*2+2,none⟩) (L+1) (I+1))) (some pb):=cJ _ _ _;refine ⟨g7.trans (mJ D _),?_⟩;rw [f5.o];exact ⟨rfl,_,_,_,d6.below D⟩
   ·have X:aI (mA s p=none):=aA (by
     rw [f.quo,b0,a9,aF];intro e;simp only [Bool.and_eq_true,decide_eq_true_eq] at e;exact A e)
    have E:=aA (tX a0.o);unfold fJ at E;obtain ⟨e9,f0,rfl⟩:=aY f.row;clear f P b0 a9;by_cases h6:o.length=0
    ·have e5:((o.length:Int)==0)=true:=by rw [h6];rfl
     go_wp2_with (first
      |(go_at_call 57;refine (aC E).mono ?_;rintro e l ⟨rfl,u⟩;have q:=(u.block b (by omega)).trans a4.o;have M:=aA u;have S:l.cell? ⟨b,0,none⟩=some (.int .i32 0):=(by simp [zz,q]);have T:l.cell? ⟨b,1,none⟩=some (.int .i64 0):=(by simp [zz,q]);have U:l.cell? ⟨b,2,none⟩=some (.string ⟨#[]⟩):=(by simp [zz,q]);have V:=iF (v:=.int .i32 (-2)) S;have c9:∀x,l.frozen? ⟨b,x,none⟩=false:=(λx=>by simp [zv,q]);clear u q)
      |go_in)
     refine bodyPost_ret (by simp [results,zs,go_sem,V,T,U];try rfl) rfl ?_;have Q:aB w l:=aZ a1.o M.o;have t:w.heap.size<=b:=by rw [a3.o];exact zy _
     have D:=fA (fA (fA Q (p:=⟨b,0,none⟩) t (.int .i32 (-2))) (p:=⟨b,1,none⟩) t (.int .i64 p)) (p:=⟨b,2,none⟩) t (.string ⟨#[]⟩);exact sT.bad N.o D X.o
    ·have e5:((o.length:Int)==0)=false:=by rw [beq_eq_false_iff_ne];omega
     have g9:(20:Int)<(o.length:Int):=by omega
     go_wp2_with (first
      |(go_at_call 57;refine (aC E).mono ?_;rintro e l ⟨rfl,u⟩;have q:=(u.block b (by omega)).trans a4.o;have M:=aA u;have S:l.cell? ⟨b,0,none⟩=some (.int .i32 0):=(by simp [zz,q]);have T:l.cell? ⟨b,1,none⟩=some (.int .i64 0):=(by simp [zz,q]);have U:l.cell? ⟨b,2,none⟩=some (.string ⟨#[]⟩):=(by simp [zz,q]);have V:=iF (v:=.int .i32 (-2)) S;have c9:∀x,l.frozen? ⟨b,x,none⟩=false:=(λx=>by simp [zv,q]);clear u q)
      |go_in)
     refine bodyPost_ret (by simp [results,zs,go_sem,V,T,U];try rfl) rfl ?_;have Q:aB w l:=aZ a1.o M.o;have t:w.heap.size<=b:=by rw [a3.o];exact zy _
     have D:=fA (fA (fA Q (p:=⟨b,0,none⟩) t (.int .i32 (-2))) (p:=⟨b,1,none⟩) t (.int .i64 p)) (p:=⟨b,2,none⟩) t (.string ⟨#[]⟩);exact sT.bad N.o D X.o
  ·by_cases C:aR s d=92
   ·have z:d<s.size:=Classical.byContradiction λA=>by rw [nD s d A] at C;omega
    obtain ⟨L,I,rfl,rfl,y⟩:=f.gl.more z;obtain ⟨G,rfl⟩ : ∃G,gk=G+1:=⟨gk-1,by omega⟩;have c7:gK s d=1:=(lS s d z (by have:=(eV s d z 92 (by omega)).1 C;omega)).2;rw [c7] at y;have Z:=aA (aOw (rs:=o) (f:=G) z C);have f6:=((y.below b3.o).below f.far).at0.1;rw [show (v+1)*2=v*2+2 by omega] at f6;have a8:=aA (λj0=>aHh (aR s (d+1)) j0);rw [C] at b8;cases hesc:jZ (aR s (d+1))
    ·rw [hesc] at a8 Z;have X:aI (mA s p=none):=aA (by rw [f.quo,Z.o];rfl);have E:=aA (tX a0.o);unfold fJ at E;clear f P y F C hesc;generalize aR s (d+1)=cc at *;go_wp2_with (first
      |(go_at_call 68;refine (aC a8 _).mono ?_;rintro e i9 ⟨rfl,rfl⟩)
      |(go_at_call 57;refine (aC E).mono ?_;rintro e l ⟨rfl,u⟩;have q:=(u.block b (by omega)).trans a4.o;have M:=aA u;have S:l.cell? ⟨b,0,none⟩=some (.int .i32 0):=(by simp [zz,q]);have T:l.cell? ⟨b,1,none⟩=some (.int .i64 0):=(by simp [zz,q]);have U:l.cell? ⟨b,2,none⟩=some (.string ⟨#[]⟩):=(by simp [zz,q]);have V:=iF (v:=.int .i32 (-2)) S;have c9:∀x,l.frozen? ⟨b,x,none⟩=false:=(λx=>by simp [zv,q]);clear u q)
      |go_in)
     refine bodyPost_ret (by simp [results,zs,go_sem,V,T,U];try rfl) rfl ?_;have Q:aB w l:=aZ a1.o M.o;have t:w.heap.size<=b:=by rw [a3.o];exact zy _
     have D:=fA (fA (fA Q (p:=⟨b,0,none⟩) t (.int .i32 (-2))) (p:=⟨b,1,none⟩) t (.int .i64 p)) (p:=⟨b,2,none⟩) t (.string ⟨#[]⟩);exact sT.bad N.o D X.o
    ·rw [hesc] at a8 Z;have d5:aR s (d+1)=39\/aR s (d+1)=92:=by unfold jZ at hesc;simpa using hesc
     have a7:d+1<s.size:=Classical.byContradiction λA=>by rw [nD s (d+1) A] at d5;omega
     obtain ⟨i1,g1,rfl,rfl,c1⟩:=y.more a7;have h5:gK s (d+1)=1:=(lS s (d+1) a7 (by have g3:=eV s (d+1) a7 39 (by omega);have g4:=eV s (d+1) a7 92 (by omega);rcases d5 with e|e;have:=g3.1 e;omega;have:=g4.1 e;omega)).2;rw [h5] at c1;have b7:=aA (f.ok.more a7 (by omega) (by omega));obtain ⟨e9,f0,rfl⟩:=aY f.row;have a2:=aA f.row;have b5:=aA c1;clear f P y c1 F C hesc;generalize aR s (d+1)=cc at *;have f8:(cc==10)=false:=by rw [beq_eq_false_iff_ne];omega
     have f9:(cc==-2)=false:=by rw [beq_eq_false_iff_ne];omega
     have f7:(cc==-1)=false:=by rw [beq_eq_false_iff_ne];omega
     go_wp2_with (first
      |(go_at_call 68;refine (aC a8 _).mono ?_;rintro e i9 ⟨rfl,rfl⟩)
      |(at_builtin;refine wpList_append_own _ rfl (.tmp 37) (.tmp 39) 134 rfl w1.heap.size 21 e8 (.int .i32 0) 1 4 zw d7 d8 d9 e0 rfl (by decide) _ _ _ rfl (a2.o.alloc _) ⟨_,0,none⟩ 1 1 [.int .i32 cc] rfl rfl (tS _ _ _ _ rfl) (aBd _) (by unfold maxLen;omega) (by omega) (by simp;omega) ?_;intro i6 l R a6 _;have b6:=aA R;have f3:=aA a6;obtain ⟨i7,i8,rfl⟩:=aY R;clear R a6)
      |go_in)
     go_roundg G;case measure=>omega
     case rel=>exact ⟨d+1+1,v+1+1,i1,g1,o++[cc],b5.o,by rw [show (v+1+1)*2=v*2+2+2 by omega],by rw [zn,zr];exact b6.o,(H.o.far.alloc H.o.far.size _).grown f3.o (zp H.o.far.size (by simp)) (λk e=>(cL a2.o k e).1),by rw [H.o.quo,Z.o];rfl,by omega,b7.o,by simp;omega⟩
   ·by_cases O:aR s d=10\/aR s d=-2\/aR s d=-1
    ·have X:aI (mA s p=none):=aA (by rw [f.quo,aOu e4 F C O]);have E:=aA (tX a0.o);unfold fJ at E;clear f P;rcases O with e|e|e;all_goals
      rw [e] at b8;clear e F C;go_wp2_with (first
       |(go_at_call 57;refine (aC E).mono ?_;rintro e l ⟨rfl,u⟩;have q:=(u.block b (by omega)).trans a4.o;have M:=aA u;have S:l.cell? ⟨b,0,none⟩=some (.int .i32 0):=(by simp [zz,q]);have T:l.cell? ⟨b,1,none⟩=some (.int .i64 0):=(by simp [zz,q]);have U:l.cell? ⟨b,2,none⟩=some (.string ⟨#[]⟩):=(by simp [zz,q]);have V:=iF (v:=.int .i32 (-2)) S;have c9:∀x,l.frozen? ⟨b,x,none⟩=false:=(λx=>by simp [zv,q]);clear u q)
       |go_in)
      refine bodyPost_ret (by simp [results,zs,go_sem,V,T,U];try rfl) rfl ?_;have Q:aB w l:=aZ a1.o M.o;have t:w.heap.size<=b:=by rw [a3.o];exact zy _
      have D:=fA (fA (fA Q (p:=⟨b,0,none⟩) t (.int .i32 (-2))) (p:=⟨b,1,none⟩) t (.int .i64 p)) (p:=⟨b,2,none⟩) t (.string ⟨#[]⟩);exact sT.bad N.o D X.o
    ·have z:d<s.size:=Classical.byContradiction λA=>O (Or.inr (Or.inr (nD s d A)))
     obtain ⟨L,I,rfl,rfl,y⟩:=f.gl.more z;obtain ⟨G,rfl⟩ : ∃G,gk=G+1:=⟨gk-1,by omega⟩;have c4:aR s d≠10:=λe=>O (Or.inl e)
     have c5:aR s d≠-2:=λe=>O (Or.inr (Or.inl e))
     have g8:aR s d≠-1:=λe=>O (Or.inr (Or.inr e))
     have Z:=aA (aOv (rs:=o) (f:=G) z F C c4 c5);have b7:=aA (f.ok.more z c5 c4);have k7:=vK s d;obtain ⟨e9,f0,rfl⟩:=aY f.row;have a2:=aA f.row;have b4:=aA y;clear f P y O;generalize aR s d=cc at *;have j5:(cc != 39)=true:=by simpa using F
     have j6:(cc==92)=false:=by simpa using C
     have f8:(cc==10)=false:=by simpa using c4
     have f9:(cc==-2)=false:=by simpa using c5
     have f7:(cc==-1)=false:=by simpa using g8
     go_wp2_with (first
      |(at_builtin;refine wpList_append_own _ rfl (.tmp 37) (.tmp 39) 134 rfl w1.heap.size 21 e8 (.int .i32 0) 1 4 zw d7 d8 d9 e0 rfl (by decide) _ _ _ rfl (a2.o.alloc _) ⟨_,0,none⟩ 1 1 [.int .i32 cc] rfl rfl (tS _ _ _ _ rfl) (aBd _) (by unfold maxLen;omega) (by omega) (by simp;omega) ?_;intro i6 l R a6 _;have b6:=aA R;have b5:=aA a6;obtain ⟨i7,i8,rfl⟩:=aY R;clear R a6)
      |go_in)
     go_roundg G;case measure=>omega
     case rel=>exact ⟨d+gK s d,v+1,L,I,o++[cc],b4.o,by rw [show (v+1)*2=v*2+2 by omega],by rw [zn,zr];exact b6.o,(H.o.far.alloc H.o.far.size _).grown b5.o (zp H.o.far.size (by simp)) (λk e=>(cL a2.o k e).1),by rw [H.o.quo,Z.o],by omega,b7.o,by simp;omega⟩
end
