import Derived.Test.YtbpiopdphigodaaGreatDoorBase0P
open List renaming getElem?_eq_some_iff→zz
namespace Go.Proofs.YtbpiopdphigodaaGreatDoor
open _root_.Go.Proofs.Tryz renaming prog→zy
open Value renaming ownBlock→zx
set_option maxHeartbeats 4000000
set_option maxRecDepth 100000
open Go.RowKit
variable{xs:List Value}{B n size:Nat}{e:TypeId}{v:Value}{w w':World}
def jJ(w:World)(v b:Value):Prop:=b.ownBlock=v.ownBlock\/∃a,b.ownBlock=some a/\w.heap.size<=a
theorem jJ.refl(w:World)(v:Value):jJ w v v:=Or.inl rfl
theorem jJ.trans{w w1:World}{v c d:Value}(a:jJ w v c)(k:jJ w1 c d)(f:w.heap.size<=w1.heap.size):jJ w v d:=by
 rcases k with k|⟨g,k,b⟩
 ·rcases a with a|⟨g,a,b⟩
  ·exact Or.inl (k.trans a)
  ·exact Or.inr ⟨g,k.trans a,b⟩
 ·exact Or.inr ⟨g,k,by omega⟩
theorem aFw{d f:World}{k:Value}(a:w.grownBy d v.ownBlock)(c:jJ w v k)(b:d.grownBy f k.ownBlock):w.grownBy f v.ownBlock:=
 ⟨b.os.trans a.os,b.tape.trans a.tape,b.output.trans a.output,Nat.le_trans a.size b.size,λj g i=>by
  rw [b.block j (Nat.lt_of_lt_of_le g a.size) (λe=>by
   rcases c with c|⟨l,c,m⟩
   ·exact i (e.trans c)
   ·rw [c] at e;simp at e;omega),a.block j g i]⟩
theorem fX{d:Option Nat}(a:aB w w'):w.grownBy w' d:=⟨a.os,a.tape,a.output,a.size,λc b _=>a.block c b⟩
def vO(w:World)(B:Nat)(v:Value)(a:List Nd):Prop:=w.ownsRow B 43 2 v a.length (aV a)
theorem dT{d:Option Nat}(i:w.ownsRow B e size v n xs)(l:w.grownBy w' d)(ho:v.ownBlock=none\/v.ownBlock≠d):w'.ownsRow B e size v n xs:=by
 obtain ⟨b,⟨rfl,j⟩|⟨a,f,g,rfl,k,c,m⟩⟩:=i
 ·exact ⟨b,Or.inl ⟨rfl,j⟩⟩
 ·refine ⟨b,Or.inr ⟨a,f,g,rfl,k,?_,m⟩⟩;rw [l.block a (Array.getElem?_eq_some_iff.1 c).1 ?_,c];rintro rfl;rcases ho with ho|ho
  ·simp [zx] at ho
  ·simp [zx] at ho
theorem rM(a:w.ownsRow B e size v n xs):v.ownBlock≠some w.heap.size:=λe=>by have:=(cL a _ e).2;omega
theorem dZ{tb:Nat}{b:TypeId}{c:Array Value}(d:w.ownsRow B e size v n xs)(a:w.heap[tb]?=some (.cells c b))(f:e≠b):v.ownBlock≠some tb:=by
 obtain ⟨_,⟨rfl,_⟩|⟨k,i,j,rfl,_,g,_⟩⟩:=d
 ·simp [zx]
 ·simp [zx];rintro rfl;rw [g] at a;simp at a;exact f a.2
theorem kK{a j:Nat}{b:TypeId}{x:Value}{d:Array Value}(c:w.ownsRow B e size v n xs)(f:w.heap[a]?=some (.cells d b))(g:e≠b):(w.setCell ⟨a,j,none⟩ x).ownsRow B e size v n xs:=
 dT c (cJ w ⟨a,j,none⟩ x) (Or.inr (dZ c f g))
theorem aFx{b:List Nd}(l:w.ownsRow B 43 2 v b.length (aV b)):∃i d,v=.slice i b.length d/\∀a n,b[a]?=some n->∃c,i=some ⟨c,0,none⟩/\w.cell? ⟨c,a*2,none⟩=some (.string n.1)/\w.cell? ⟨c,a*2+1,none⟩=some (.int .i64 n.2):=by
 obtain ⟨m,⟨rfl,o⟩|⟨c,d,k,rfl,p,r,q,s,u,t⟩⟩:=l
 ·refine ⟨none,0,by rw [o],λa n f=>?_⟩;have:=(zz.1 f).1;omega
 ·have j:w.ownsRow B 43 2 (.slice (some ⟨c,0,none⟩) b.length d) b.length (aV b):=⟨m,Or.inr ⟨c,d,k,rfl,p,r,q,s,u,t⟩⟩;refine ⟨_,_,rfl,λa n f=>⟨c,rfl,?_,?_⟩⟩
  ·obtain ⟨g,rfl⟩:=zz.1 f;rw [j.cellAt (a*2) (by omega),(vE b a g).1]
  ·obtain ⟨g,rfl⟩:=zz.1 f;rw [j.cellAt (a*2+1) (by omega),(vE b a g).2]
theorem yH(w:World)(a b:Value)(c:TypeId):(w.alloc (.cells #[a,b] c)).cell? ⟨w.heap.size,0,none⟩=some a/\(w.alloc (.cells #[a,b] c)).cell? ⟨w.heap.size,1,none⟩=some b:=by
 have d:(w.alloc (.cells #[a,b] c)).heap[w.heap.size]?=some (.cells #[a,b] c):=by show (w.heap.push _)[w.heap.size]?=_;simp
 constructor
 ·unfold World.cell?;rw [d];rfl
 ·unfold World.cell?;rw [d];rfl
theorem aBf(w:World)(D:Nat)(i r e:TypeId)(b:TypeInfo)(C:Value)(size t:Nat)(A:zy.underlying i=some (.slice e))(x:zy.info? e=some b)(Q:b.zero=some C)
  (N:b.size=size) (G:b.bytes=t) (V:0<size)
  (v:Value) (n:Nat) (xs:List Value) (p:w.ownsRow D e size v n xs) (O:v.ownBlock≠none)
  (j:Addr) (a l:Nat) (f:List Value) (o:f.length=a*size) (y:∀g c,f[g]?=some c->w.cell? (j.add g)=some c) (E:∀c∈f,c.oneCell'=true)
  (F:n+a<=maxLen) (H:(n+a)*t<=140737488355328) {s:Value} {w':World} (d:(Builtin.append_ #[i,i] r #[v,.slice (some j) a l]).run zy w=.ok s w'):s.ownBlock=v.ownBlock\/s.ownBlock=some w.heap.size:=by
 subst N;subst G
 have U:n+a<=9223372036854775807:=by simp only [maxLen] at F;omega
 rcases p.2 with ⟨rfl,rfl⟩|⟨k,m,u,rfl,R,L,T,S,I,W⟩
 ·exact absurd rfl O
 ·by_cases z:n+a<=m
  ·have J:n*b.size+f.length<=u.size:=by rw [o,I,<-Nat.add_mul];exact Nat.mul_le_mul_right _ z
   have q:=run_append_room (P:=zy) w i r e b A x k n m u L j a l f o y E z J;rw [q] at d;simp at d;rw [<-d.1];exact Or.inl rfl
  ·have M:∀g c,xs[g]?=some c->w.cell? ((⟨k,0,none⟩ : Addr).add g)=some c:=p.cells (g:=k) rfl;have q:=run_append_grow (P:=zy) w i r e b C A x Q ⟨k,0,none⟩ n m xs p.1 M j a l f o y (by omega) (by omega) (growslice_fits (by omega) H);rw [q] at d;simp at d;rw [<-d.1];exact Or.inr rfl
theorem tY{c:Array Oper}{i:Nat}{a:Oper}{b:Act}{K:Act->World->Prop}{d:Exit->Act->World->Prop}(j:c[i]?=some a)(g:a.guard=none)(k:(execOp b.eval a).run zy w=.ok (.value v) w')(f:K (b.put a.dst v) w'):wpOp zy c d i K b w:=by
 refine wpOp_step j λl hK=>?_
 rw [aG (by simp [Region.wanted,g])];unfold Oper.wp;rw [k];exact hK _ _ f
theorem aPz(p q:Option Addr)(O P:Nat)(b:List Lt)(w:World)(m:bP w p b)(A:bP w q b):Calls zy 7 #[.slice p b.length O,.slice q b.length P] w λe w'=>e=.returned (.bool true)/\aB w w':=by
 have a2:=m.few;have b3:((b.length:Int) != (b.length:Int))=false:=by simp
 have L:=aA m;have M:=aA A;clear m A;go_enter Tryz.func7,Tryz.ntmps7;go_wp2;go_loopw [5] (λg wr=>∃c:Nat,c<=b.length/\g=.int .i64 c/\aB w wr) (λg _=>b.length-(intOf g).toNat);case atStart=>exact ⟨0,Nat.zero_le _,rfl,Below.refl _ _⟩
 case round=>
  obtain ⟨c,a9,rfl,a⟩:=hrel;by_cases D:c<b.length
  ·have b1:(c:Int)<(b.length:Int):=by omega
   obtain ⟨b7,b5,a0,a3,rfl,r,s,l⟩:=L.o.cell c D;obtain ⟨b8,b6,a1,a4,rfl,t,u,z⟩:=M.o.cell c D;have Q:=aD a r;have R:=aD a s;have S:=aD a t;have T:=aD a u;have V:=l.few;have I:=aA l;have J:=aA z;have N:=aA a;generalize b[c]=x at *;obtain ⟨o,f⟩:=x;simp only at Q R S T V;clear a l z r t;have a8:(o != o)=false:=by cases o<;>rfl
   have b4:((f.length:Int) != (f.length:Int))=false:=by simp
   go_wp2;go_quiet (fail);go_wp2;go_loopw [6] (λg wr=>∃d:Nat,d<=f.length/\g=.int .i64 d/\aB w wr) (λg _=>f.length-(intOf g).toNat);case atStart=>exact ⟨0,Nat.zero_le _,rfl,aZ N.o (aQ (by first|exact ⟨_,rfl⟩|exact kG _ _ _))⟩
   case round=>
    obtain ⟨d,b2,rfl,a⟩:=hrel;have a5:=aD a s;have a6:=aD a u;by_cases C:d<f.length
    ·have b0:(d:Int)<(f.length:Int):=by omega
     obtain ⟨b9,c2,rfl,E,F⟩:=I.o.cell d C;obtain ⟨c0,c3,rfl,G,H⟩:=J.o.cell d C;have W:=aD a E;have X:=aD a F;have Y:=aD a G;have Z:=aD a H;have k:=aA a;generalize f[d]=y at *;obtain ⟨i,j⟩:=y;simp only at W X Y Z;have U:=tP (i,j) (i,j);rw [fH rfl] at U;have a7:=tO;have c1:=tQ i i j j;clear a E F G H;go_wp2;go_quiet (fail);go_wp2;go_roundw;case rel=>exact ⟨d+1,by omega,by go_num,aZ k.o (aQ (by first|exact ⟨_,rfl⟩|exact kG _ _ _))⟩
     case measure=>simp [intOf];omega
    ·obtain rfl:d=f.length:=by omega
     have k:=aA a;clear a;go_wp2;go_roundw;case rel=>exact ⟨c+1,by omega,by go_num,k.o⟩
     case measure=>simp [intOf];omega
  ·obtain rfl:c=b.length:=by omega
   go_wp2;go_ret;exact ⟨rfl,a⟩
