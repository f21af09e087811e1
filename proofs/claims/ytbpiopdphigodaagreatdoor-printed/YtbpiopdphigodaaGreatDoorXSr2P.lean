import Derived.Test.YtbpiopdphigodaaGreatDoorXSr0P
import Derived.Test.YtbpiopdphigodaaGreatDoorXFol1P
open Array renaming getElem?_eq_some_iff→zz,getElem?_eq_getElem→zw,getElem_modify_self→zv,size_modify→zu
open List renaming mem_or_eq_of_mem_set→zx,getElem_mem→zs,any_eq_true→zr
open Nat renaming le_refl→zy
namespace Go.Proofs.YtbpiopdphigodaaGreatDoor
open World renaming alloc_heap_new→zt,cell?→zq
set_option maxHeartbeats 8000000
set_option maxRecDepth 100000
open Go.RowKit Go.Shelf Go.WideMaps
variable{big:Bool}{x:Cd}{T:List (aK×Value)}{L:List Cd}{ks:List Nat}{B b hp:Nat}{v vk vs:Value}{w w':World}
theorem aLa:∀(f:Nat) (L:List Cd) (a:Nat) (x:Cd),x∈lK f L a->x∈L
 |0,_,_,_,h=>h
 |f+1,L,a,x,h=>by
  unfold lK at h;split at h
  ·have:=aLa f _ _ x h;unfold nX at this;rcases zx this with c|rfl
   ·rcases zx c with d|rfl
    ·exact d
    ·exact zs _
   ·exact zs _
  ·exact h
theorem xI(a:x∈kD L):x∈L:=by
 unfold kD at a;cases hl:L.getLast? with
 |none=>rw [hl] at a;simp at a
 |some y=>
  rw [hl] at a;have c:=List.mem_of_mem_take (aLa _ _ _ _ a);rcases zx c with d|rfl
  ·exact d
  ·exact List.mem_of_getLast? hl
theorem aZ8(L:List Cd):(kD L).length=L.length-1:=by
 unfold kD;cases hl:L.getLast? with
 |none=>rw [List.getLast?_eq_none_iff.1 hl];rfl
 |some y=>simp only;rw [aKo];simp
def kF(a:List Lt->Bool):Nat->List Cd->Option (Cd×List Cd)
 |0,_=>none
 |f+1,L=>match L with
  |[]=>none
  |x::r=>if a x.c then kF a f (kD (x::r)) else some (x,kD (x::r))
def aA3(w:World)(hp:Nat):Nat:=match w.cell? ⟨hp,0,none⟩ with|some (.slice _ n _)=>n|_=>0
theorem bZ.len(c:bZ B w hp v L):aA3 w hp=L.length:=by obtain ⟨a,d,rfl⟩:=aY c.row;unfold aA3;rw [c.c0.1]
def sE(x:Cd):Value:=.agg #[.int .i64 x.r,.int .i64 x.a,.int .i64 x.b,.int .i64 x.i,.int .i64 x.j,.slice x.ad x.ln x.cp]
def aZ9(B:Nat)(w:World)(g hp:Nat)(vs vk:Value)(L:List Cd)(f:Nat)(T:List (aK×Value))(ks:List Nat)(big:Bool)(e:Ending)(w':World):Prop:=
 ∃i,Mv bO B w w'/\((kF (λa=>ks.any λc=>cH (aP T c) a) L.length L=none/\e=.returned (.tuple #[sE gR,.bool false])/\bI B w' g hp i vs vk [] f T ks big)\/
  ∃x d,kF (λa=>ks.any λc=>cH (aP T c) a) L.length L=some (x,d)/\e=.returned (.tuple #[sE x,.bool true])/\bI B w' g hp i vs vk d f T ks big/\bN B w' (.slice x.ad x.ln x.cp) x.c/\x.ln=x.c.length)
def S6(w:World)(b:Nat)(x:Cd):Prop:=w.heap[b]?=some (.cells #[.int .i64 x.r,.int .i64 x.a,.int .i64 x.b,.int .i64 x.i,.int .i64 x.j,.slice x.ad x.ln x.cp] 77 (0,0))
def tN(w:World)(b:Nat)(x:Cd):World:=((((((w.setCell ⟨b,0,none⟩ (.int .i64 x.r)).setCell ⟨b,1,none⟩ (.int .i64 x.a)).setCell ⟨b,2,none⟩ (.int .i64 x.b)).setCell ⟨b,3,none⟩ (.int .i64 x.i)).setCell ⟨b,4,none⟩ (.int .i64 x.j)).setCell ⟨b,5,none⟩ (.slice x.ad x.ln x.cp))
theorem S6.cells(a:S6 w b x):w.cell? ⟨b,0,none⟩=some (.int .i64 x.r)/\w.cell? ⟨b,1,none⟩=some (.int .i64 x.a)/\w.cell? ⟨b,2,none⟩=some (.int .i64 x.b)/\w.cell? ⟨b,3,none⟩=some (.int .i64 x.i)/\w.cell? ⟨b,4,none⟩=some (.int .i64 x.j)/\w.cell? ⟨b,5,none⟩=some (.slice x.ad x.ln x.cp):=by refine ⟨?_,?_,?_,?_,?_,?_⟩<;>simp [zq,show w.heap[b]?=_ from a]
theorem S6.frz(a:S6 w b x)(c:Nat):w.frozen? ⟨b,c,none⟩=false:=by simp [World.frozen?,show w.heap[b]?=_ from a]
theorem S6.below(a:S6 w b x)(c:aB w w'):S6 w' b x:=(c.block b (zz.1 a).1).trans a
theorem S6.put{y:Cd}(c:S6 w b x):S6 (tN w b y) b y/\w.grownBy (tN w b y) (some b):=by
 have d:∀(a:World) (f:Array Value) (k:Nat) (v:Value),a.heap[b]?=some (.cells f 77 (0,0))->(a.setCell ⟨b,k,none⟩ v).heap[b]?=some (.cells (f.setIfInBounds k v) 77 (0,0)):=λa f k v e=>by
  have g:=(zz.1 e).1;show (a.heap.modify b _)[b]?=_;rw [zw (by rw [zu];exact g),zv,(zz.1 e).2];rfl
 constructor
 ·unfold S6 tN;rw [d _ _ 5 _ (d _ _ 4 _ (d _ _ 3 _ (d _ _ 2 _ (d _ _ 1 _ (d _ _ 0 _ c)))))];simp
 ·unfold tN;have c:∀(a:World) (k:Nat) (v:Value),w.grownBy a (some b)->w.grownBy (a.setCell ⟨b,k,none⟩ v) (some b):=λa k v e=>kV e (cJ a ⟨b,k,none⟩ v)
  exact c _ _ _ (c _ _ _ (c _ _ _ (c _ _ _ (c _ _ _ (c _ _ _ ⟨rfl,rfl,rfl,zy _,λ_ _ _=>rfl⟩)))))
theorem Mv.newput{d:List TypeId}{i j:World}{g:Nat}(a:Mv d B w i)(c:i.grownBy j (some g))(n:w.heap.size<=g):Mv d B w j:=
 ⟨c.os.trans a.os,c.tape.trans a.tape,c.output.trans a.output,Nat.le_trans a.size c.size,λf m e l=>by
  have k:=(zz.1 e).1;exact (c.block f (Nat.lt_of_lt_of_le k a.size) (by simp;omega)).trans (a.keep f m e l)⟩
theorem bI.other{i:Nat}{g:Nat}{d:Nat}(a:bI B w i hp v vs vk L g T ks big)(e:w.grownBy w' (some d))(l:S6 w d x)(k:vs.ownBlock≠some d):bI B w' i hp v vs vk L g T ks big:=by have c:Mv [77] 0 w w':=Mv.of_grown e (λn j=>by cases j;exact ⟨Nat.zero_le _,_,_,l,by simp⟩);exact ⟨c.cells a.box (by decide),⟨c.cells a.heap.box (by decide),c.row a.heap.row (by decide),a.heap.base⟩,⟨dT a.st.row e (Or.inr k),λm hp=>c.clause (a.st.cl m hp) (by decide) (by decide)⟩,c.row a.kp (by decide),λx f=>⟨c.clause (a.cl x f).1 (by decide) (by decide),(a.cl x f).2⟩,a.base⟩
theorem aZa(B n hp:Nat)(v vs vk:Value)(L:List Cd)(u:Nat)(T:List (aK×Value))(ks:List Nat)(big:Bool)(w:World)(b1:bI B w n hp v vs vk L u T ks big)(b5:∀x∈L,∀d∈ks,lM (aP T d) x.c)(b6:∀d∈ks,d<T.length)(d8:ks.length<=1000000)(f2:L.length<=1000000)(d2:B<=w.heap.size):Calls Tryz.prog 43 #[.pointer (some ⟨n,0,none⟩)] w λe w'=>aZ9 B w n hp vs vk L u T ks big e w':=by
 have b0:=aA b1;have c5:=aA b6;have c4:=aA b5;clear b1 b6 b5;go_enter Tryz.func43,Tryz.ntmps43;go_wp2;go_loopw [] (λwr=>∃(i:Nat) (o:List Cd) (F:Value),bI B wr n hp F vs vk o u T ks big/\o.length<=i/\o.length<=L.length/\(∀x∈o,x∈L)/\kF (λl=>ks.any λd=>cH (aP T d) l) i o=kF (λl=>ks.any λd=>cH (aP T d) l) L.length L/\Mv bO B w wr/\w.heap.size<wr.heap.size/\S6 wr w.heap.size gR) (λwr=>aA3 wr hp);case atStart=>
  have b3:aB w (w.alloc (.cells #[.int .i64 0,.int .i64 0,.int .i64 0,.int .i64 0,.int .i64 0,.slice none 0 0] 77)):=(Below.refl _ w).alloc (zy _) _;exact ⟨L.length,L,v,b0.o.below b3,zy _,zy _,λ_ W=>W,rfl,Mv.of_below b3,by simp,zt w _⟩
 case round=>
  obtain ⟨i,o,F,j,Z,d3,V,E,S,e3,R⟩:=hrel;obtain ⟨f1,_,_,_,_⟩:=j.cells;have c1:vs.ownBlock≠some w.heap.size:=λe=>by have:=(cL b0.o.st.row _ e).2;omega
  cases o with
  |nil=>
   have p:=aA (aYn B hp F wr j.heap);unfold Cd.agg gR at p;have c3:=aA j;have J:=aA S;have b8:kF (λl=>ks.any λd=>cH (aP T d) l) L.length L=none:=by rw [<-E];cases i<;>rfl
   have q:=aA b8;have c2:=aA R;clear j S E V R b8;simp only at p;go_wp2_with (first
    |(go_at_call 72;refine (aC p).mono ?_;rintro e a ⟨rfl,Q⟩;have f:=aA (λc=>c2.o.below (Q.alloc Q.size c));obtain ⟨e4,e5,e6,e7,e8,e9⟩ : (∀c,(a.alloc c).cell? ⟨w.heap.size,0,none⟩=some (.int .i64 0))/\(∀c,(a.alloc c).cell? ⟨w.heap.size,1,none⟩=some (.int .i64 0))/\(∀c,(a.alloc c).cell? ⟨w.heap.size,2,none⟩=some (.int .i64 0))/\(∀c,(a.alloc c).cell? ⟨w.heap.size,3,none⟩=some (.int .i64 0))/\(∀c,(a.alloc c).cell? ⟨w.heap.size,4,none⟩=some (.int .i64 0))/\(∀c,(a.alloc c).cell? ⟨w.heap.size,5,none⟩=some (.slice none 0 0)):=⟨λc=>(f.o c).cells.1,λc=>(f.o c).cells.2.1,λc=>(f.o c).cells.2.2.1,λc=>(f.o c).cells.2.2.2.1,λc=>(f.o c).cells.2.2.2.2.1,λc=>(f.o c).cells.2.2.2.2.2⟩;have f0:∀c d,(a.alloc c).frozen? ⟨w.heap.size,d,none⟩=false:=(λc d=>(f.o c).frz d);have a9:=aA Q;clear Q)
    |go_in)
   have b2:=f.o (.cells #[.int .i64 0,.int .i64 0,.int .i64 0,.int .i64 0,.int .i64 0,.slice none 0 0,.int .i64 0,.int .i64 0] 96);have k:aB wr (a.alloc (.cells #[.int .i64 0,.int .i64 0,.int .i64 0,.int .i64 0,.int .i64 0,.slice none 0 0,.int .i64 0,.int .i64 0] 96)):=a9.o.alloc a9.o.size _;obtain ⟨a0,t⟩:=b2.put (y:=gR);obtain ⟨a3,a4,a5,a6,a7,a8⟩:=a0.cells;refine bodyPost_ret (v:=.tuple #[sE gR,.bool false]) (w:=tN (a.alloc (.cells #[.int .i64 0,.int .i64 0,.int .i64 0,.int .i64 0,.int .i64 0,.slice none 0 0,.int .i64 0,.int .i64 0] 96)) w.heap.size gR) (by simp [results,Tryz.results43,go_sem,a3,a4,a5,a6,a7,a8,sE];try rfl) rfl ?_;exact ⟨F,(J.o.trans (Mv.of_below k)).newput t (zy _),.inl ⟨q.o,rfl,(c3.o.below k).other t b2 c1⟩⟩
  |cons x r=>
   have W:∀d∈ks,lM (aP T d) x.c:=c4.o x (V x (by simp));have a1:=j.cl x (by simp);have U:=aZ8 (x::r);have p:=aA ((aYo B hp F (x::r) wr j.heap (by simp) (by omega) (Nat.le_trans d2 (Nat.le_of_lt e3))).mono (R':=λe a=>e=.returned (.tuple #[.agg #[.int .i64 x.r,.int .i64 x.a,.int .i64 x.b,.int .i64 x.i,.int .i64 x.j,.slice x.ad x.ln x.cp,.int .i64 x.wt,.int .i64 x.nm],.bool true])/\∃g,bI B a n hp g vs vk (kD (x::r)) u T ks big/\Mv bO B wr a/\bN B a (.slice x.ad x.ln x.cp) x.c/\S6 a w.heap.size gR) (λe a d6=>by
    obtain ⟨d0,g,d1,O⟩:=d6;exact ⟨d0,g,j.pushed O d1 (λG a2=>j.cl G (xI a2)),O.mono (by decide) (zy _),O.clause a1.1 (by decide) (by decide),O.cells R (by decide)⟩))
   obtain ⟨i,rfl⟩ : ∃c9,i=c9+1:=⟨i-1,by simp at Z;omega⟩;have b9:kF (λl=>ks.any λd=>cH (aP T d) l) (i+1) (x::r)=if (ks.any λd=>cH (aP T d) x.c) then kF (λl=>ks.any λd=>cH (aP T d) l) i (kD (x::r)) else some (x,kD (x::r)):=rfl
   rw [b9] at E;have b7:aA3 wr hp=(x::r).length:=j.heap.len;have c0:∀G∈kD (x::r),G∈L:=λG a2=>V G (xI a2)
   have d9:(kD (x::r)).length<=i:=by rw [U];simp at Z ⊢;exact Z
   have e0:(kD (x::r)).length<=L.length:=by rw [U];simp at d3 ⊢;omega
   have e1:(kD (x::r)).length<(x::r).length:=by rw [U];simp
   generalize hpp:kD (x::r)=M' at *;generalize hmm:(x::r).length=ml at *;have J:=aA S;have q:=aA E;have c7:=aA c0;have c6:=aA b7;have Y:=aA a1.2;have c8:=aA W;clear j S E V R b9 U hpp hmm c0 W a1 b7;have H:=aA (λ(a:World) (g:Value) (d4:bI B a n hp g vs vk M' u T ks big) (d5:bN B a (.slice x.ad x.ln x.cp) x.c) (c:Obj)=>(show Calls Tryz.prog 73 #[.pointer (some ⟨n,0,none⟩),.slice x.ad x.ln x.cp] (a.alloc c) λe w'=>e=.returned (.bool (ks.any λd=>cH (aP T d) x.c))/\Below (a.alloc c).heap.size (a.alloc c) w' from by
    have b4:aB a (a.alloc c):=(Below.refl _ a).alloc (zy _) c;have:=aZ7 B n hp g vs vk M' u T ks big x.ad x.cp x.c (a.alloc c) (d4.below b4) (by rw [<-Y.o];exact d5.below b4) c8.o c5.o d8;rw [<-Y.o] at this;exact this))
   cases hcov:(ks.any λd=>cH (aP T d) x.c)
   ·rw [hcov] at H q;clear hcov;go_wp2_with (first
     |(go_at_call 73;refine (aC H a g s.o I.o _).mono ?_;rintro e y ⟨rfl,k⟩;obtain ⟨f6,f7,f8,f9,g0,g1,_,_⟩:=((show iP (a.alloc (.cells #[.int .i64 x.r,.int .i64 x.a,.int .i64 x.b,.int .i64 x.i,.int .i64 x.j,.slice x.ad x.ln x.cp,.int .i64 x.wt,.int .i64 x.nm] 96)) a.heap.size x from zt a _).below k).cells;have P:=(N.o.below ((Below.refl _ a).alloc (zy _) (.cells #[.int .i64 x.r,.int .i64 x.a,.int .i64 x.b,.int .i64 x.i,.int .i64 x.j,.slice x.ad x.ln x.cp,.int .i64 x.wt,.int .i64 x.nm] 96))).below k;obtain ⟨e4,e5,e6,e7,e8,e9⟩:=P.cells;have f0:=P.frz;have f:=aA P;have X:=aA k;clear k P)
     |(go_at_call 72;refine (aC p).mono ?_;rintro e a ⟨rfl,g,A,D,C,z⟩;have s:=aA A;have I:=aA C;have N:=aA z;have M:=aA (J.o.trans D);clear A C z D)
     |go_in)
    have m:aB a y:=((Below.refl _ a).alloc (zy _) (.cells #[.int .i64 x.r,.int .i64 x.a,.int .i64 x.b,.int .i64 x.i,.int .i64 x.j,.slice x.ad x.ln x.cp,.int .i64 x.wt,.int .i64 x.nm] 96)).trans (X.o.mono (by simp));obtain ⟨a0,t⟩:=f.o.put (y:=x);obtain ⟨a3,a4,a5,a6,a7,a8⟩:=a0.cells;refine bodyPost_ret (v:=.tuple #[sE x,.bool true]) (w:=tN y w.heap.size x) (by simp [results,Tryz.results43,go_sem,a3,a4,a5,a6,a7,a8,sE];try rfl) rfl ?_;have e2:Mv [77] 0 y (tN y w.heap.size x):=Mv.of_grown t (λd d7=>by cases d7;exact ⟨Nat.zero_le _,_,_,f.o,by simp⟩);exact ⟨g,(M.o.trans (Mv.of_below m)).newput t (zy _),.inr ⟨x,M',by have:=q.o;simpa using this.symm,rfl,(s.o.below m).other t f.o c1,e2.clause (I.o.below m) (by decide) (by decide),Y.o⟩⟩
   ·rw [hcov] at H q;clear hcov;go_wp2_with (first
     |(go_at_call 73;refine (aC H a g s.o I.o _).mono ?_;rintro e y ⟨rfl,k⟩;have X:=aA k;clear k)
     |(go_at_call 72;refine (aC p).mono ?_;rintro e a ⟨rfl,g,A,D,C,z⟩;have s:=aA A;have I:=aA C;have N:=aA z;have M:=aA (J.o.trans D);clear A C z D)
     |go_in)
    have m:aB a y:=((Below.refl _ a).alloc (zy _) (.cells #[.int .i64 x.r,.int .i64 x.a,.int .i64 x.b,.int .i64 x.i,.int .i64 x.j,.slice x.ad x.ln x.cp,.int .i64 x.wt,.int .i64 x.nm] 96)).trans (X.o.mono (by simp));have f3:=m.size;have f4:=M.o.size;have f5:=(zz.1 N.o).1;exact ⟨⟨i,M',g,s.o.below m,d9,e0,c7.o,by have:=q.o;simpa using this,M.o.trans (Mv.of_below m),by omega,N.o.below m⟩,by rw [(s.o.below m).heap.len,c6.o];exact e1⟩
attribute [local go_sem] Oper.semAt_some
def bX:List (aK×Int)->List Cd->Nat->Bool->List Cd->Nat->Bool->Prop
 |[],L,n,b,L',n',b'=>L'=L/\n'=n/\b'=b
 |x::r,L,n,b,L',n',b'=>
  if x.2≠0\/cZ x.1.c=false then bX r L n true L' n' b'
  else if jK x.1.c=true then bX r L n b L' n' b'
  else ∃a c,bX r (iO L.length (L++[eH x.1 a c n]) L.length) (n+1) b L' n' b'
theorem bX.snoc{x:aK×Int}{i:List Cd}{n:Nat}{j:Bool}:∀(c:List (aK×Int)) {L e:List Cd} {d g:Nat} {b f:Bool},bX c L d b e g f->bX [x] e g f i n j->bX (c++[x]) L d b i n j
 |[],L,e,d,g,b,f,a,k=>by
  obtain ⟨rfl,rfl,rfl⟩:=a;exact k
 |y::c,L,e,d,g,b,f,a,k=>by
  show bX (y::(c++[x])) L d b i n j;unfold bX at a ⊢;split
  ·rename_i l;rw [aG l] at a;exact bX.snoc c a k
  ·rename_i l;rw [aF l] at a;split
   ·rename_i m;rw [aG m] at a;exact bX.snoc c a k
   ·rename_i m;rw [aF m] at a;obtain ⟨o,p,a⟩:=a;exact ⟨o,p,bX.snoc c a k⟩
theorem bX.len:∀(c:List (aK×Int)) {L d:List Cd} {e f:Nat} {b g:Bool},bX c L e b d f g->d.length<=L.length+c.length/\f<=e+c.length
 |[],L,d,e,f,b,g,a=>by
  obtain ⟨rfl,rfl,rfl⟩:=a;simp
 |y::c,L,d,e,f,b,g,a=>by
  unfold bX at a;split at a
  ·have:=bX.len c a;simp;omega
  ·split at a
   ·have:=bX.len c a;simp;omega
   ·obtain ⟨i,j,a⟩:=a;have:=bX.len c a;rw [aKl] at this;simp at this ⊢;omega
theorem bI.bigged{c:Nat}{f:Nat}(a:bI B w c hp v vs vk L f T ks big)(b:Bool):bI B (w.setCell ⟨c,4,none⟩ (.bool b)) c hp v vs vk L f T ks b/\Mv [99] B w (w.setCell ⟨c,4,none⟩ (.bool b)):=by have i:=(zz.1 a.box).1;have d:Mv [99] B w (w.setCell ⟨c,4,none⟩ (.bool b)):=Mv.of_grown (cJ w ⟨c,4,none⟩ _) (λj g=>by cases g;exact ⟨a.base,_,_,a.box,by simp⟩);refine ⟨⟨?_,⟨d.cells a.heap.box (by decide),d.row a.heap.row (by decide),a.heap.base⟩,a.st.kept d.kps (by decide) (by decide) (by decide),d.row a.kp (by decide),λx e=>⟨d.clause (a.cl x e).1 (by decide) (by decide),(a.cl x e).2⟩,a.base⟩,d⟩;show (w.heap.modify c _)[c]?=_;rw [zw (by rw [zu];exact i),zv,(zz.1 a.box).2];rfl
theorem bI.rekept{a:Nat}{g:Value}{l:Nat}{k:List Nat}(c:bI B w a hp v vs vk L l T ks big)(d:Mv [3] B w w')(i:dQ B w' g k):bI B (w'.setCell ⟨a,3,none⟩ g) a hp v vs g L l T k big/\Mv [3,99] B w (w'.setCell ⟨a,3,none⟩ g)/\w'.cell? ⟨a,3,none⟩=some vk/\w'.frozen? ⟨a,3,none⟩=false:=by have f:=d.cells c.box (by decide);have m:=(zz.1 f).1;have e:Mv [99] B w' (w'.setCell ⟨a,3,none⟩ g):=Mv.of_grown (cJ w' ⟨a,3,none⟩ _) (λn i=>by cases i;exact ⟨c.base,_,_,f,by simp⟩);refine ⟨⟨?_,⟨e.cells (d.cells c.heap.box (by decide)) (by decide),e.row (d.row c.heap.row (by decide)) (by decide),c.heap.base⟩,(c.st.kept d.kps (by decide) (by decide) (by decide)).kept e.kps (by decide) (by decide) (by decide),e.row i (by decide),λx j=>⟨e.clause (d.clause (c.cl x j).1 (by decide) (by decide)) (by decide) (by decide),(c.cl x j).2⟩,c.base⟩,(d.mono (by decide) (zy _)).trans (e.mono (by decide) (zy _)),by simp [zq,f],by simp [World.frozen?,f]⟩;show (w'.heap.modify a _)[a]?=_;rw [zw (by rw [zu];exact m),zv,(zz.1 f).2];rfl
theorem aZb(B r hp:Nat)(v vs vk:Value)(L:List Cd)(P:Nat)(T:List (aK×Value))(ks:List Nat)(big:Bool)(k l:Nat)(c:aK)(o:Option Addr)(p:Nat)(w:World)(d:bI B w r hp v vs vk L P T ks big)(s:w.heap[k]?=some (.cells #[.int .i64 c.r,.int .i64 c.a,.int .i64 c.b,.int .i64 c.i,.int .i64 c.j,.slice o c.c.length p] 77 (0,0)))(E:Boxed w l 72 (.pointer (some ⟨r,0,none⟩)))(u:bN B w (.slice o c.c.length p) c.c)(y:∀a∈ks,lM c.c (aP T a))(z:∀a∈ks,a<T.length)(A:ks.length<=1000000):Calls Tryz.prog 75 #[vk,.func (.func 76) #[] #[.pointer (some ⟨k,0,none⟩),.pointer (some ⟨l,0,none⟩)]] w λg w'=>∃n D j,g=.returned (.slice n D j)/\dQ B w' (.slice n D j) (ks.filter λa=>!cH c.c (aP T a))/\Mv [3] B w w':=by
 obtain ⟨n,j,rfl⟩:=d.kp.shape;obtain ⟨_,_,F,_,_⟩:=d.cells;cases hany:ks.any (λa=>cH c.c (aP T a))
 ·have H:(ks.filter λa=>!cH c.c (aP T a))=ks:=by
   rw [List.filter_eq_self];intro a e;cases hp:cH c.c (aP T a)
   ·rfl
   ·rw [zr.2 ⟨a,e,hp⟩] at hany;cases hany
  refine (aYe B k l (λa=>cH c.c (aP T a)) n j ks w d.kp A (λa e i f=>aL9 B r vs T k l a c o p i (aD f F) (d.st.kept (S:=[]) (bR f) (by simp) (by simp) (by simp)) ((f.block _ (zz.1 s).1).trans s) ((bR (S:=bO) f).boxed E (by decide)) (u.below f) (y a e) (z a e)) hany).mono ?_;rintro g w' ⟨rfl,q⟩;exact ⟨n,_,j,rfl,by rw [H];exact bF d.kp q (zy _),Mv.of_below q⟩
 ·obtain ⟨V,N,_⟩:=zr.1 hany;obtain ⟨U,M,_⟩:=List.getElem_of_mem N;obtain ⟨t,rfl,_⟩:=d.kp.cell M;have C:∀i,w.grownBy i (some t)->Mv [3] B w i:=λi f=>Mv.of_grown f (λa e=>by
   cases e;obtain ⟨_,⟨g,_⟩|⟨R,Q,G,g,q,J,_⟩⟩:=d.kp
   ·cases g
   ·simp at g;obtain ⟨rfl,_⟩:=g;exact ⟨q,G,_,J,by simp⟩)
  refine (aYf B k l (λa=>cH c.c (aP T a)) t j ks w d.kp A (λa e i f=>?_) hany).mono ?_
  ·have m:=C i f;exact aL9 B r vs T k l a c o p i (by have:=m.cells d.box (by decide);simp [zq,this]) (d.st.kept m.kps (by decide) (by decide) (by decide)) (m.cells s (by decide)) (m.boxed E (by decide)) (m.clause u (by decide) (by decide)) (y a e) (z a e)
  ·rintro g w' ⟨rfl,O,I⟩;exact ⟨_,_,j,rfl,O,C w' I⟩
