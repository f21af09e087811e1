import Derived.Test.YtmelidkanelpbaaGreatDoorBase0T
import Derived.Deep.RegionHeld
open Array renaming setIfInBounds_comm→zn,replicate→za
open Bool renaming and_eq_true→zy,not_eq_true'→zd
open List renaming drop_eq_getElem_cons→zz,mem_cons_of_mem→zw,getElem?_eq_some_iff→zu,mem_map→zt,mem_append→zs,getElem_mem→zm,mem_append_left→zi,lookup_append→zf,nodup_append→ze
open Nat renaming lt_or_ge→zl
open Or renaming inr→zo,inl→zk
open Prod renaming fst→zx
namespace Go.Proofs.YtmelidkanelpbaaGreatDoor
open Region renaming ready→zv,binds→zr,noSelect_spec→zh,wanted→zg,free_spec→zc,noSelect→zb
open _root_.Go.Proofs.Tryz renaming prog→zq
open Value renaming ownBlock→zp
open World renaming cell?→zj
open Go.RowKit
set_option maxRecDepth 100000
variable{a:Act}{x:Int}{c d:List Lt}{b l r t:List Nd}{xs:List Value}{B fuel i size:Nat}{n:Nd}{oi:Oper}{e:TypeId}{v:Value}{w w':World}
def jW(w:World)(v g:Value):Prop:=g.ownBlock=v.ownBlock\/∃f,g.ownBlock=some f/\w.heap.size<=f
theorem jW.refl(w:World)(v:Value):jW w v v:=zk rfl
theorem jW.trans{w w1:World}{v m o:Value}(f:jW w v m)(k:jW w1 m o)(p:w.heap.size<=w1.heap.size):jW w v o:=by
 rcases k with k|⟨g,k,j⟩
 ·rcases f with f|⟨g,f,j⟩
  ·exact zk (k.trans f)
  ·exact zo ⟨g,k.trans f,j⟩
 ·exact zo ⟨g,k,by omega⟩
theorem aJ4{k m:World}{s:Value}(f:w.grownBy k v.ownBlock)(j:jW w v s)(g:k.grownBy m s.ownBlock):w.grownBy m v.ownBlock:=
 ⟨g.os.trans f.os,g.tape.trans f.tape,g.output.trans f.output,Nat.le_trans f.size g.size,λq o p=>by
  rw [g.block q (Nat.lt_of_lt_of_le o f.size) (λe=>by
   rcases j with j|⟨u,j,y⟩
   ·exact p (e.trans j)
   ·rw [j] at e;simp at e;omega),f.block q o p]⟩
theorem gM{k:Option Nat}(f:aB w w'):w.grownBy w' k:=⟨f.os,f.tape,f.output,f.size,λj g _=>f.block j g⟩
def xX(w:World)(B:Nat)(v:Value)(l:List Nd):Prop:=w.ownsRow B 117 2 v l.length (bA l)
theorem dR{n:Nat}{k:Option Nat}(p:w.ownsRow B e size v n xs)(u:w.grownBy w' k)(ho:v.ownBlock=none\/v.ownBlock≠k):w'.ownsRow B e size v n xs:=by
 obtain ⟨g,⟨rfl,q⟩|⟨f,m,o,rfl,s,j,y⟩⟩:=p
 ·exact ⟨g,zk ⟨rfl,q⟩⟩
 ·refine ⟨g,zo ⟨f,m,o,rfl,s,?_,y⟩⟩;rw [u.block f (Array.getElem?_eq_some_iff.1 j).1 ?_,j];rintro rfl;rcases ho with ho|ho
  ·simp [zp] at ho
  ·simp [zp] at ho
theorem sT{n:Nat}(f:w.ownsRow B e size v n xs):v.ownBlock≠some w.heap.size:=λe=>by have:=(cO f _ e).2;omega
theorem dY{tb:Nat}{g:TypeId}{n:Nat}{j:Array Value}(k:w.ownsRow B e size v n xs)(f:w.heap[tb]?=some (.cells j g))(m:e≠g):v.ownBlock≠some tb:=by
 obtain ⟨_,⟨rfl,_⟩|⟨s,p,q,rfl,_,o,_⟩⟩:=k
 ·simp [zp]
 ·simp [zp];rintro rfl;rw [o] at f;simp at f;exact m f.2
theorem kZ{f j:Nat}{g:TypeId}{x:Value}{n:Nat}{m:Array Value}(k:w.ownsRow B e size v n xs)(o:w.heap[f]?=some (.cells m g))(p:e≠g):(w.setCell ⟨f,j,none⟩ x).ownsRow B e size v n xs:=
 dR k (cM w ⟨f,j,none⟩ x) (zo (dY k o p))
theorem aJ5(q:w.ownsRow B 117 2 v l.length (bA l)):∃a j,v=.slice a l.length j/\∀f n,l[f]?=some n->∃g,a=some ⟨g,0,none⟩/\w.cell? ⟨g,f*2,none⟩=some (.string n.1)/\w.cell? ⟨g,f*2+1,none⟩=some (.int .i64 n.2):=by
 obtain ⟨s,⟨rfl,u⟩|⟨g,j,p,rfl,y,A,z,C,E,D⟩⟩:=q
 ·refine ⟨none,0,by rw [u],λf n k=>?_⟩;have:=(zu.1 k).1;omega
 ·have o:w.ownsRow B 117 2 (.slice (some ⟨g,0,none⟩) l.length j) l.length (bA l):=⟨s,zo ⟨g,j,p,rfl,y,A,z,C,E,D⟩⟩;refine ⟨_,_,rfl,λf n k=>⟨g,rfl,?_,?_⟩⟩
  ·obtain ⟨m,rfl⟩:=zu.1 k;rw [o.cellAt (f*2) (by omega),(xJ l f m).1]
  ·obtain ⟨m,rfl⟩:=zu.1 k;rw [o.cellAt (f*2+1) (by omega),(xJ l f m).2]
theorem aAl(w:World)(x f:Value)(t:TypeId):(w.alloc (.cells #[x,f] t)).cell? ⟨w.heap.size,0,none⟩=some x/\(w.alloc (.cells #[x,f] t)).cell? ⟨w.heap.size,1,none⟩=some f:=by
 have g:(w.alloc (.cells #[x,f] t)).heap[w.heap.size]?=some (.cells #[x,f] t):=by show (w.heap.push _)[w.heap.size]?=_;simp
 constructor
 ·unfold zj;rw [g];rfl
 ·unfold zj;rw [g];rfl
theorem aD8(w:World)(I:Nat)(t y e:TypeId)(i:TypeInfo)(H:Value)(size A:Nat)(G:zq.underlying t=some (.slice e))(D:zq.info? e=some i)(V:i.zero=some H)
  (T:i.size=size) (M:i.bytes=A) (a0:0<size)
  (v:Value) (n:Nat) (xs:List Value) (s:w.ownsRow I e size v n xs) (U:v.ownBlock≠none)
  (a:Addr) (f c:Nat) (k:List Value) (q:k.length=f*size) (E:∀m g,k[m]?=some g->w.cell? (a.add m)=some g) (J:∀g∈k,g.oneCell'=true)
  (L:n+f<=maxLen) (N:(n+f)*A<=140737488355328) {z:Value} {w':World} (j:(Builtin.append_ #[t,t] y #[v,.slice (some a) f c]).run zq w=.ok z w'):z.ownBlock=v.ownBlock\/z.ownBlock=some w.heap.size:=by
 subst T;subst M
 have Z:n+f<=9223372036854775807:=by simp only [maxLen] at L;omega
 rcases s.2 with ⟨rfl,rfl⟩|⟨o,p,C,rfl,W,R,Y,X,O,a1⟩
 ·exact absurd rfl U
 ·by_cases F:n+f<=p
  ·have Q:n*i.size+k.length<=C.size:=by rw [q,O,<-Nat.add_mul];exact Nat.mul_le_mul_right _ F
   have u:=run_append_room (P:=zq) w t y e i G D o n p C R a f c k q E J F Q;rw [u] at j;simp at j;rw [<-j.1];exact zk rfl
  ·have S:∀m g,xs[m]?=some g->w.cell? ((⟨o,0,none⟩ : Addr).add m)=some g:=s.cells (g:=o) rfl;have u:=run_append_grow (P:=zq) w t y e i H G D V ⟨o,0,none⟩ n p xs s.1 S a f c k q E (by omega) (by omega) (growslice_fits (by omega) N);rw [u] at j;simp at j;rw [<-j.1];exact zo rfl
theorem vV{g:Array Oper}{f:Oper}{K:Act->World->Prop}{j:Exit->Act->World->Prop}(o:g[i]?=some f)(m:f.guard=none)(p:(execOp a.eval f).run zq w=.ok (.value v) w')(k:K (a.put f.dst v) w'):wpOp zq g j i K a w:=by
 refine wpOp_step o λq hK=>?_
 rw [aI (by simp [zg,m])];unfold Oper.wp;rw [p];exact hK _ _ k
def gD(l:List Nd):Bool:=iX l && !aL (l.headD (⟨#[]⟩,0))
def aY(c:List Lt):Bool:=bP c && (c.all λl=>gD l.2) && decide (c=aV c)
theorem aUj(l:List Nd)(g:List Int):(dW l g).1.map zx=l.map zx:=by
 suffices ∀(l:List Nd) (f:List Nd×List Int),(l.foldl cI f).1.map zx=f.1.map zx++l.map zx by
  have j:=this l ([],g);simpa [dW] using j
 intro l;induction l with
 |nil=>intro f;simp
 |cons x r ih=>
  intro f;rw [List.foldl_cons,ih];have:(cI f x).1.map zx=f.1.map zx++[x.1]:=by
   unfold cI;split
   ·split<;>simp
   ·simp
  rw [this];simp
theorem aUk(c:List Lt):∀x∈(cW c).1,∃f∈c,x.2.map zx=f.2.map zx:=by
 suffices ∀(c:List Lt) (g:List Lt×List Int),∀x∈(c.foldl dK g).1,x∈g.1\/∃f∈c,x.2.map zx=f.2.map zx by
  intro x j;rcases this c ([],[]) x j with h|h
  ·simp at h
  ·exact h
 intro c;induction c with
 |nil=>intro g x j;exact zk j
 |cons f r ih=>
  intro g x j;rcases ih (dK g f) x j with h|⟨o,k,m⟩
  ·rcases zs.1 (show x∈g.1++[(f.1,(dW f.2 g.2).1)] from h) with h|h
   ·exact zk h
   ·simp at h;subst h;exact zo ⟨f,by simp,aUj _ _⟩
  ·exact zo ⟨o,by simp [k],m⟩
theorem aUl(c:List Lt):∀x∈aV c,∃f∈c,x.2.map zx=f.2.map zx:=by intro x j;obtain ⟨f,k,g⟩:=aUk _ x j;exact ⟨f,(mD c).2.2 f k,g⟩
def vW(c:List Lt):Prop:=∀x∈c,x.2.length<=5864062014805/\∀n∈x.2,n.1.size<=140737488355328
theorem vW.ord(g:vW c):vW (aV c):=by
 intro x s;obtain ⟨f,k,j⟩:=aUl c x s;have m:x.2.length=f.2.length:=by have:=congrArg List.length j;simpa using this
 refine ⟨by rw [m];exact (g f k).1,λn q=>?_⟩;have:n.1∈f.2.map zx:=by rw [<-j];exact zt.2 ⟨n,q,rfl⟩
 obtain ⟨u,o,p⟩:=zt.1 this;rw [<-p];exact (g f k).2 u o
theorem aJ6{f:List (Lt×Value)}(C:f.map zx=d)(H:w.ownsRow B 86 2 v f.length (bF f))(z:∀k∈f,w.ownsRow B 117 2 k.2 k.1.2.length (bA k.1.2))(D:d.length<=4398046511104)(p:vW d):∃a j,v=.slice a d.length j/\cH w a d:=by
 subst C;obtain ⟨a,j,rfl,A⟩:=tN H;refine ⟨a,j,by simp,D,λg E=>?_⟩;have F:g<f.length:=by simpa using E
 obtain ⟨u,rfl,y,m⟩:=A g F;have I:=z f[g] (zm _);have o:f[g].1∈f.map zx:=zt.2 ⟨f[g],zm _,rfl⟩;obtain ⟨q,s,J,G⟩:=uY I (p _ o).1 (λM L=>(p _ o).2 _ (zm _));rw [J] at m;refine ⟨u,0,q,s,rfl,?_,?_,?_⟩
 ·rw [Nat.zero_add,y];simp
 ·rw [Nat.zero_add,m];simp
 ·simpa using G
theorem aUm:iX []=false:=by decide
def aAm(w:World)(a:Option Addr)(c:List Lt):Prop:=∀g,g<c.length->∀b j k n f,a=some ⟨b,j,none⟩->w.cell? ⟨b,j+g*2+1,none⟩=some (.slice k n f)->n<=f
theorem aJ7{f:Nat}{j x:Value}{t:TypeId}(g:w.heap[f]?=some (.cells #[j,x] t)):w.cell? ⟨f,0,none⟩=some j/\w.cell? ⟨f,1,none⟩=some x:=⟨by simp [zj,g],by simp [zj,g]⟩
theorem aJ8(f:gD l=true):aQ l 1=true/\l.length<=60:=by
 have:iX l=true:=by simp [gD] at f;exact f.1
 simpa [iX] using this
def aO:List Nd->Nat->Nat
 |_,0=>0
 |[],_+1=>0
 |n::r,q+1=>1+aO r (q+aX n)
@[simp] theorem bE1(l:List Nd):aO l 0=0:=by cases l<;>rfl
theorem mI(n:Nd)(r:List Nd)(f:Nat):aQ (n::r) (f+1)=(cZ n && aQ r (f+aX n)):=by simp only [aQ];cases cZ n<;>simp
theorem aD9(l:List Nd):∀f j,aQ l (f+j)=true->aQ (l.take (aO l f)) f=true/\aQ (l.drop (aO l f)) j=true:=by
 induction l with
 |nil=>
  intro f j g;cases f with
  |zero=>simpa [aQ] using g
  |succ f=>simp [aQ] at g
 |cons n r ih=>
  intro f j g;cases f with
  |zero=>simpa [aQ] using g
  |succ f=>
   rw [show f+1+j=(f+j)+1 by omega,mI,zy] at g;have:=ih (f+aX n) j (by rw [<-g.2];congr 1;omega);simp only [aO,Nat.add_comm 1,List.take_succ_cons,List.drop_succ_cons];exact ⟨by rw [mI,g.1,this.1];rfl,this.2⟩
theorem xY(t:List Nd):∀g j,aQ t g=true->aO (t++j) g=t.length:=by
 induction t with
 |nil=>intro g j f;simp [aQ] at f;subst f;simp
 |cons n r ih=>
  intro g j f;cases g with
  |zero=>simp [aQ] at f
  |succ g=>
   rw [mI,zy] at f;simp [aO,ih _ j f.2];omega
theorem sU(l:List Nd):∀f,aO l f<=l.length:=by
 induction l with
 |nil=>intro f;cases f<;>simp [aO]
 |cons n r ih=>intro f;cases f with
  |zero=>simp
  |succ f=>have:=ih (f+aX n);simp [aO];omega
theorem aUn(l:List Nd)(g:Nat)(f:l≠[]):0<aO l (g+1):=by
 cases l with
 |nil=>exact absurd rfl f
 |cons n r=>simp [aO];omega
theorem aUo{q:Nat}(f:aQ l (q+1)=true):l≠[]:=by rintro rfl;simp [aQ] at f
abbrev bG:=List (Int×List Nd)
def look(f:bG)(x:Int):Option (List Nd):=f.lookup x
theorem xZ(j:bG)(x f:Int)(t:List Nd):look (j++[(x,t)]) f=(look j f).or (if f=x then some t else none):=by
 unfold look;rw [zf];simp [List.lookup];by_cases g:f=x
 ·simp [g]
 ·rw [show (f==x)=false by simpa using g];simp [g]
theorem yA(g j:bG)(f:Int):look (g++j) f=(look g f).or (look j f):=by unfold look;rw [zf]
def subst(σ:Int->List Nd)(l:List Nd):List Nd:=l.flatMap λn=>if aL n then σ n.2 else [n]
theorem nH(f:Int->List Nd)(n:Nd)(r:List Nd):subst f (n::r)=(if aL n then f n.2 else [n])++subst f r:=by simp [subst]
def Tm(f:Int->List Nd):Prop:=∀x,aQ (f x) 1=true
def jJ(g:Int->List Nd)(f:bG):Prop:=∀x t,look f x=some t->g x=t
theorem jJ.snoc{m:Int->List Nd}{j:bG}(q:look j x=none):jJ m (j++[(x,t)])↔jJ m j/\m x=t:=by
 constructor
 ·intro k;refine ⟨λg p f=>k g p (by rw [xZ,f];rfl),k x t (by rw [xZ,q];simp)⟩
 ·rintro ⟨k,e⟩ g p f;rw [xZ] at f;cases hl:look j g with
  |some u=>rw [hl] at f;simp at f;rw [<-f];exact k g u hl
  |none=>
   rw [hl] at f;by_cases o:g=x
   ·subst o;simp at f;rw [<-f];exact e
   ·simp [o] at f
theorem jJ.left{g:Int->List Nd}{f j:bG}(k:jJ g (f++j)):jJ g f:=λx t m=>k x t (by rw [yA,m];rfl)
def dH:List Nd->List Nd->bG->Option bG
 |[],[],L=>some L
 |[],_::_,_=>none
 |n::r,b,L=>
  if aL n then
   match look L n.2 with
   |some t=>if t=b.take (aO b 1) then dH r (b.drop (aO b 1)) L else none
   |none=>dH r (b.drop (aO b 1)) (L++[(n.2,b.take (aO b 1))])
  else match b with
   |[]=>none
   |m::b'=>if n=m then dH r b' L else none
theorem aDa{f:bG}(j:aL n=true)(g:look f n.2=some t):dH (n::r) b f=if t=b.take (aO b 1) then dH r (b.drop (aO b 1)) f else none:=by rw [dH.eq_def];simp [j,g]
theorem aDb{f:bG}(j:aL n=true)(g:look f n.2=none):dH (n::r) b f=dH r (b.drop (aO b 1)) (f++[(n.2,b.take (aO b 1))]):=by rw [dH.eq_def];simp [j,g]
theorem aDc{g:Nd}{f:bG}(j:aL n=false):dH (n::r) (g::b) f=if n=g then dH r b f else none:=by rw [dH.eq_def];simp [j]
theorem yB{f:Int->List Nd}(m:Tm f){n:Nd}{r b:List Nd}(k:aL n=true):subst f (n::r)=b↔f n.2=b.take (aO b 1)/\subst f r=b.drop (aO b 1):=by
 rw [nH,aI k];constructor
 ·rintro rfl;rw [xY _ _ _ (m n.2)];simp
 ·rintro ⟨g,j⟩;rw [g,j,List.take_append_drop]
theorem jK(f:aL n=true):aX n=0:=by simp [aX,f]
theorem aJ9(a:List Nd):∀(b:List Nd) (o:Nat) (p:bG),aQ a o=true->aQ b o=true->
  (∀q,dH a b p=some q->∀f,Tm f->(jJ f q↔jJ f p/\subst f a=b))/\(dH a b p=none->∀f,Tm f->jJ f p->subst f a≠b):=by
 induction a with
 |nil=>
  intro b o p y z;cases o with
  |succ o=>simp [aQ] at y
  |zero=>
   cases b with
   |nil=>simp [dH,subst]
   |cons m b=>simp [aQ] at z
 |cons n r ih=>
  intro b o p y z;cases o with
  |zero=>simp [aQ] at y
  |succ o=>
   rw [mI,zy] at y;by_cases s:aL n=true
   ·have I:=aD9 b 1 o (by rw [<-z];congr 1;omega);have H:aQ r o=true:=by simpa [jK s] using y.2
    cases hl:look p n.2 with
    |some t=>
     rw [aDa s hl];by_cases D:t=b.take (aO b 1)
     ·rw [aI D];obtain ⟨A,C⟩:=ih (b.drop (aO b 1)) o p H I.2;refine ⟨λq j f g=>?_,λj f g u k=>?_⟩
      ·rw [A q j f g,yB g s];constructor
       ·rintro ⟨e,F⟩;exact ⟨e,(e _ _ hl).trans D,F⟩
       ·rintro ⟨e,_,F⟩;exact ⟨e,F⟩
      ·exact C j f g u ((yB g s).1 k).2
     ·rw [aH D];refine ⟨λq j=>by simp at j,λ_ f g u k=>D ?_⟩;rw [<-u _ _ hl];exact ((yB g s).1 k).1
    |none=>
     rw [aDb s hl];obtain ⟨A,C⟩:=ih (b.drop (aO b 1)) o (p++[(n.2,b.take (aO b 1))]) H I.2;refine ⟨λq j f g=>?_,λj f g u k=>?_⟩
     ·rw [A q j f g,jJ.snoc hl,yB g s,and_assoc]
     ·obtain ⟨J,L⟩:=(yB g s).1 k;exact C j f g ((jJ.snoc hl).2 ⟨u,J⟩) L
   ·have E:aL n=false:=by simpa using s
    cases b with
    |nil=>simp [aQ] at z
    |cons m b=>
     rw [mI,zy] at z;rw [aDc E];by_cases G:n=m
     ·subst G;rw [aI rfl];obtain ⟨A,C⟩:=ih b (o+aX n) p y.2 z.2;refine ⟨λq j f g=>?_,λj f g u k=>?_⟩
      ·rw [A q j f g,nH,E];simp
      ·rw [nH,E] at k;simp at k;exact C j f g u k
     ·rw [aH G];refine ⟨λq j=>by simp at j,λ_ f g u k=>?_⟩;rw [nH,E] at k;simp at k;exact G k.1
def aDd(x:Int)(a:List Nd):Prop:=∃n∈a,aL n=true/\n.2=x
theorem aUp(a:List Nd):∀(b:List Nd) (j:Nat) (k q:bG),aQ a j=true->aQ b j=true->dH a b k=some q->
  ∃m,q=k++m/\∀g∈m,aDd g.1 a/\look k g.1=none:=by
 induction a with
 |nil=>
  intro b j k q _ _ f;cases b with
  |nil=>simp [dH] at f;exact ⟨[],by simp [f],by simp⟩
  |cons p b=>simp [dH] at f
 |cons n r ih=>
  intro b j k q C D f;cases j with
  |zero=>simp [aQ] at C
  |succ j=>
   rw [mI,zy] at C;by_cases y:aL n=true
   ·have G:=aD9 b 1 j (by rw [<-D];congr 1;omega);have F:aQ r j=true:=by simpa [jK y] using C.2
    cases hl:look k n.2 with
    |some t=>
     rw [aDa y hl] at f;by_cases H:t=b.take (aO b 1)
     ·rw [aI H] at f;obtain ⟨m,s,o⟩:=ih _ j k q F G.2 f;exact ⟨m,s,λg hp=>⟨by obtain ⟨p,z,A⟩:=(o g hp).1;exact ⟨p,zw _ z,A⟩,(o g hp).2⟩⟩
     ·rw [aH H] at f;simp at f
    |none=>
     rw [aDb y hl] at f;obtain ⟨m,s,o⟩:=ih _ j _ q F G.2 f;refine ⟨(n.2,b.take (aO b 1))::m,by rw [s];simp,λg hp=>?_⟩;rcases List.mem_cons.1 hp with rfl|hp
     ·exact ⟨⟨n,by simp,y,rfl⟩,hl⟩
     ·refine ⟨by obtain ⟨p,z,A⟩:=(o g hp).1;exact ⟨p,zw _ z,A⟩,?_⟩;have:=(o g hp).2;rw [xZ] at this;cases hh:look k g.1 with
      |none=>rfl
      |some u=>rw [hh] at this;simp at this
   ·have I:aL n=false:=by simpa using y
    cases b with
    |nil=>simp [aQ] at D
    |cons p b=>
     rw [mI,zy] at D;rw [aDc I] at f;by_cases E:n=p
     ·subst E;rw [aI rfl] at f;obtain ⟨m,s,o⟩:=ih _ _ k q C.2 D.2 f;exact ⟨m,s,λg hp=>⟨by obtain ⟨p,z,A⟩:=(o g hp).1;exact ⟨p,zw _ z,A⟩,(o g hp).2⟩⟩
     ·rw [aH E] at f;simp at f
def gN(d c:List Lt)(g:bG):Prop:=∃f,Tm f/\jJ f g/\∀l∈c,(l.1,subst f l.2)∈d
def Tms(c:List Lt):Prop:=∀l∈c,aQ l.2 1=true
def jX(x f:Lt)(g:bG):Option bG:=if x.1=f.1 then dH x.2 f.2 g else none
theorem aDe{x y:Lt}{j k:bG}(o:aQ x.2 1=true)(p:aQ y.2 1=true)(f:jX x y j=some k)(g:Int->List Nd)(q:Tm g):jJ g k↔jJ g j/\(x.1,subst g x.2)=y:=by
 unfold jX at f;by_cases m:x.1=y.1
 ·rw [aI m] at f;rw [(aJ9 x.2 y.2 1 j o p).1 k f g q,Prod.ext_iff];simp [m]
 ·rw [aH m] at f;simp at f
theorem aUr{x f:Lt}{j:bG}(p:aQ x.2 1=true)(q:aQ f.2 1=true)(k:jX x f j=none)(g:Int->List Nd)(s:Tm g)(o:jJ g j):(x.1,subst g x.2)≠f:=by
 unfold jX at k;by_cases m:x.1=f.1
 ·rw [aI m] at k;intro e;exact (aJ9 x.2 f.2 1 j p q).2 k g s o (by rw [<-e])
 ·intro e;exact m (by rw [<-e])
theorem aUs{x y:Lt}{g j:bG}(p:aQ x.2 1=true)(q:aQ y.2 1=true)(f:jX x y g=some j):∃k,j=g++k/\∀o∈k,aDd o.1 x.2/\look g o.1=none:=by
 unfold jX at f;by_cases m:x.1=y.1
 ·rw [aI m] at f;exact aUp x.2 y.2 1 g j p q f
 ·rw [aH m] at f;simp at f
theorem aUt{A:List Lt}{s:bG}{x:Lt}(z:Tms d)(u:aQ x.2 1=true)(q:∀l,l∈c↔l=x\/l∈A):gN d c s↔∃y∈d,∃j,jX x y s=some j/\gN d A j:=by
 constructor
 ·rintro ⟨f,g,o,k⟩;refine ⟨_,k x ((q x).2 (zk rfl)),?_⟩;have m:=z _ (k x ((q x).2 (zk rfl)));cases p:jX x (x.1,subst f x.2) s with
  |none=>exact absurd rfl (aUr u m p f g o)
  |some j=>exact ⟨j,rfl,f,g,(aDe u m p f g).2 ⟨o,rfl⟩,λl hl=>k l ((q l).2 (zo hl))⟩
 ·rintro ⟨y,m,j,p,f,g,o,k⟩;obtain ⟨e,C⟩:=(aDe u (z y m) p f g).1 o;refine ⟨f,g,e,λl hl=>?_⟩;rcases (q l).1 hl with rfl|hl
  ·rw [C];exact m
  ·exact k l hl
def aDf(d c:List Lt)(g:bG):Prop:=∀f,Tm f->jJ f g->∀l∈c,(l.1,subst f l.2)∈d
def kG(c:List Lt)(f k:bG):Prop:=∃g,k=f++g/\∀j∈g,(∃l∈c,aDd j.1 l.2)/\look f j.1=none
def aDg(f:bG)(g r:List Lt):Prop:=∀x∈g,∀j∈r,∀n∈x.2,aL n=true->look f n.2=none->n∉j.2
theorem aJa{j τ:Int->List Nd}(g:∀n∈l,aL n=true->j n.2=τ n.2):subst j l=subst τ l:=by
 induction l with
 |nil=>rfl
 |cons n r ih=>
  rw [nH,nH,ih λm k=>g m (zw _ k)];by_cases f:aL n=true
  ·rw [aI f,aI f,g n (by simp) f]
  ·rw [aH f,aH f]
theorem aUu{f:Nd}(k:aL n=true)(j:aL f=true)(g:n.2=f.2):n=f:=by
 obtain ⟨o,x⟩:=n;obtain ⟨t,p⟩:=f;simp only at g;subst g;have m:o.toList=t.toList:=by simp [aL] at k j;rw [k,j]
 rw [zP.1 m]
theorem kG.refl(c:List Lt)(L:bG):kG c L L:=⟨[],by simp,by simp⟩
theorem kG.trans{c q e:List Lt}{L m o:bG}(z:kG c L m)(k:kG q m o)(A:∀l∈c,l∈e)(C:∀l∈q,l∈e):kG e L o:=by
 obtain ⟨s,rfl,D⟩:=z;obtain ⟨y,rfl,E⟩:=k;refine ⟨s++y,by simp,λp hp=>?_⟩;rcases zs.1 hp with hp|hp
 ·obtain ⟨⟨l,g,j⟩,f⟩:=D p hp;exact ⟨⟨l,A l g,j⟩,f⟩
 ·obtain ⟨⟨l,g,j⟩,f⟩:=E p hp;refine ⟨⟨l,C l g,j⟩,?_⟩;rw [yA] at f;cases hh:look L p.1 with
  |none=>rfl
  |some u=>rw [hh] at f;simp at f
theorem aAn{j:bG}(f:look j x=some t):(x,t)∈j:=by
 unfold look at f;induction j with
 |nil=>simp at f
 |cons p r ih=>
  obtain ⟨k,m⟩:=p;rw [List.lookup_cons] at f;by_cases g:(x==k)=true
  ·rw [g] at f;simp at f g;subst g f;simp
  ·simp only [g] at f;exact zw _ (ih f)
theorem kG.ext{f g:bG}(k:kG c f g){j:Int->List Nd}(m:jJ j g):jJ j f:=by obtain ⟨o,rfl,_⟩:=k;exact m.left
theorem aUv{k r:List Lt}{j f:bG}(z:∀l,l∈c↔l∈k\/l∈r)(F:aDg j k r)(q:kG k j f)(E:∀x t,look f x=some t->aQ t 1=true)(C:aDf d k f):gN d c j↔gN d r f:=by
 constructor
 ·rintro ⟨g,m,o,p⟩;refine ⟨λx=>(look f x).getD (g x),λx=>?_,λx t u=>by simp [u],λl hl=>?_⟩
  ·show aQ ((look f x).getD (g x)) 1=true;cases hh:look f x with
   |none=>exact m x
   |some t=>exact E x t hh
  ·have:=p l ((z l).2 (zo hl));rw [show subst (λx=>(look f x).getD (g x)) l.2=subst g l.2 from ?_]
   ·exact this
   ·refine aJa λn H J=>?_
    cases hh:look j n.2 with
    |some t=>
     obtain ⟨y,rfl,_⟩:=q;show (look (j++y) n.2).getD (g n.2)=g n.2;rw [yA,hh];simp only [Option.some_or,Option.getD_some];exact (o _ _ hh).symm
    |none=>
     cases hk:look f n.2 with
     |none=>simp only [Option.getD_none]
     |some t=>
      exfalso;obtain ⟨y,rfl,D⟩:=q;rw [yA,hh] at hk;obtain ⟨⟨x,u,L,G,A,s⟩,_⟩:=D _ (aAn (by simpa using hk));simp only at s;have I:=aUu A J s;exact F x u l hl L G A (by rw [s];exact hh) (by rw [I];exact H)
 ·rintro ⟨g,m,o,p⟩;refine ⟨g,m,q.ext o,λl hl=>?_⟩;rcases (z l).1 hl with hl|hl
  ·exact C g m o l hl
  ·exact p l hl
theorem aUw{f:bG}(g:∀x t,look f x=some t->aQ t 1=true):gN d [] f:=by
 refine ⟨λx=>(look f x).getD [(⟨#[]⟩,0)],λx=>?_,λx t k=>by simp [k],by simp⟩;show aQ ((look f x).getD [(⟨#[]⟩,0)]) 1=true;cases hh:look f x with
 |none=>
  have j:(⟨#[]⟩ : ByteArray).toList=[]:=by rw [ByteArray.toList_eq]
  simp [aQ,cZ,aX,aL,j]
 |some t=>exact g x t hh
structure mJ(L:bG):Prop where
 keys:∀p∈L,0<=p.1/\p.1<60
 once:(L.map zx).Nodup
 terms:∀p∈L,aQ p.2 1=true/\p.2.length<=60
theorem mJ.nil:mJ []:=⟨by simp,by simp,by simp⟩
theorem mJ.look{f:bG}(g:mJ f):∀x t,look f x=some t->aQ t 1=true:=λ_ _ j=>(g.terms _ (aAn j)).1
theorem aUx{f:bG}(g:look f x=none):x∉f.map zx:=by intro k;obtain ⟨m,j,rfl⟩:=zt.1 k;unfold Go.Proofs.YtmelidkanelpbaaGreatDoor.look at g;have:=List.lookup_eq_none_iff.1 g m j;simp at this
theorem mJ.snoc{f:bG}(g:mJ f)(q:Go.Proofs.YtmelidkanelpbaaGreatDoor.look f x=none)(k:0<=x)(m:x<60)(u:aQ t 1=true)(s:t.length<=60):mJ (f++[(x,t)]):=by
 refine ⟨λp hp=>?_,?_,λp hp=>?_⟩
 ·rcases zs.1 hp with hp|hp
  ·exact g.keys p hp
  ·simp at hp;subst hp;exact ⟨k,m⟩
 ·rw [List.map_append,ze];refine ⟨g.once,by simp,λa o b j e=>aUx q ?_⟩;simp at j;subst j e;exact o
 ·rcases zs.1 hp with hp|hp
  ·exact g.terms p hp
  ·simp at hp;subst hp;exact ⟨u,s⟩
theorem mJ.few{f:bG}(g:mJ f):f.length<=60:=by
 have j:∀x∈f.map zx,x∈(List.range 60).map (λn:Nat=>(n:Int)):=by intro x o;obtain ⟨p,m,rfl⟩:=zt.1 o;have:=g.keys p m;exact zt.2 ⟨p.1.toNat,by simp;omega,by omega⟩
 have k:=List.Nodup.length_le_of_subset g.once j;simpa using k
theorem mJ.left{k m:bG}(f:mJ (k++m)):mJ k:=
 ⟨λj g=>f.keys j (zi _ g),by have:=f.once;rw [List.map_append,ze] at this;exact this.1,λj g=>f.terms j (zi _ g)⟩
theorem aJb(f:cZ n=true)(g:aL n=true):0<=n.2/\n.2<60:=by simpa [cZ,g] using f
theorem aUy(l:List Nd)(f g:Nat)(j:f<l.length):aO (l.drop f) (g+1)=1+aO (l.drop (f+1)) (g+aX l[f]):=by rw [zz j];rfl
theorem aDh(l:List Nd)(f g:Nat)(j:f<l.length):aQ (l.drop f) (g+1)=(cZ l[f] && aQ (l.drop (f+1)) (g+aX l[f])):=by rw [zz j,mI]
theorem aUz(b:List Nd)(g:Nat)(f:bG)(j:g=b.length):dH [] (b.drop g) f=some f:=by subst j;simp [dH]
theorem aV0(a b:List Nd)(g f:Nat)(j:bG)(t:List Nd)(k:g<a.length)(o:aL a[g]=true)(m:look j a[g].2=some t):dH (a.drop g) (b.drop f) j=if t=(b.drop f).take (aO (b.drop f) 1) then dH (a.drop (g+1)) (b.drop (f+aO (b.drop f) 1)) j else none:=by
 rw [zz k,aDa o m,List.drop_drop]
theorem aV1(a b:List Nd)(f g:Nat)(j:bG)(k:f<a.length)(o:aL a[f]=true)(m:look j a[f].2=none):dH (a.drop f) (b.drop g) j=dH (a.drop (f+1)) (b.drop (g+aO (b.drop g) 1)) (j++[(a[f].2,(b.drop g).take (aO (b.drop g) 1))]):=by
 rw [zz k,aDb o m,List.drop_drop]
theorem aV2(a b:List Nd)(f g:Nat)(j:bG)(m:f<a.length)(k:g<b.length)(o:aL a[f]=false):dH (a.drop f) (b.drop g) j=if a[f]=b[g] then dH (a.drop (f+1)) (b.drop (g+1)) j else none:=by
 rw [zz m,zz k,aDc o]
theorem aJc{f q:Nat}(g:aQ (l.drop f) (q+1)=true):f<l.length:=by
 rcases zl f l.length with hk|hk
 ·exact hk
 ·rw [List.drop_eq_nil_of_le hk] at g;simp [aQ] at g
theorem aV3{f:Nat}(j:f<=l.length)(g:aQ (l.drop f) 0=true):f=l.length:=by
 rcases zl f l.length with hl|hl
 ·rw [aC7 l f hl] at g;simp at g
 ·omega
section
variable {P:Program}{ops:Array Oper}{Q:Exit->Act->World->Prop}{md:Region.Mode}{k:Nat}{C D:World->Prop}
def jY(k:Nat)(C D:World->Prop)(f:Array Bool)(w:World):Prop:=(f.getD k true=false->C w)/\D w
def lS(P:Program)(md:Region.Mode)(ops:Array Oper)(Q:Exit->Act->World->Prop)(k:Nat)(C D:World->Prop):Nat->Array Bool->Act->World->Prop
 |0,listed,a,w=>zv md ops listed=[]/\Q .normal a w
 |fuel+1,listed,a,w=>
  (zv md ops listed=[]->Q .normal a w)/\
  ∀i∈zv md ops listed,wpOp P ops Q i (λf w'=>jY k C D (listed.setIfInBounds i true) w'/\lS P md ops Q k C D fuel (listed.setIfInBounds i true) f w') a w
theorem aJd:∀(fuel:Nat) (f:Array Bool) (a:Act) (w:World),lS P md ops Q k C D fuel f a w->wpAny P md ops Q fuel f a w
 |0,_,_,_,h=>h
 |fuel+1,_,_,_,h=>⟨h.1,λi m=>wpOp_mono (λg w' j=>aJd fuel _ g w' j.2) (h.2 i m)⟩
theorem jY.set{f:Array Bool}(i:Nat)(j:jY k C D f w):jY k C D (f.setIfInBounds i true) w:=by
 refine ⟨λg=>j.1 ?_,j.2⟩;by_cases e:i=k
 ·subst e;rcases zl i f.size with h'|h'
  ·simp [h'] at g
  ·simp [h'] at g
 ·rwa [getD_set_ne true e] at g
theorem jY.unset{f:Array Bool}(j:i≠k)(g:jY k C D (f.setIfInBounds i true) w):jY k C D f w:=
 ⟨λm=>g.1 (by rwa [getD_set_ne true j]),g.2⟩
def uB(md:Region.Mode)(ops:Array Oper)(k i:Nat):Bool:=match ops[k]? with
 |none=>false
 |some o=>o.after.any λe=>zr md e && e.on==i
theorem aV4(f:uB md ops k i=true):∃g e,ops[k]?=some g/\e∈g.after/\zr md e=true/\e.on=i:=by
 unfold uB at f;split at f
 ·cases f
 ·rename_i g p;simp only [Array.any_eq_true',zy,beq_iff_eq] at f;obtain ⟨e,m,j,o⟩:=f;exact ⟨g,e,p,m,j,o⟩
theorem aJe{F:World->Prop}(R:ops[i]?=some oi)(a9:i≠k)(a0:∀(f:Nat) (S:Oper) A b,ops[f]?=some S->S.op≠.select A b)
  (a4:∀c a w,Q (.panic c) (a.put oi.dst v) w->Q (.panic c) a w) (a5:(∀w,D w->F w)\/((∀w,C w->D w->F w)/\uB md ops k i=true)):∀(fuel:Nat) (g:Array Bool) (a:Act) (w:World),
   (∀f s,ops[f]?=some s->f≠i->g.getD f true=false->(∀e∈s.after,zr md e=true->e.on≠i)->oi.apart ops s=true)->
   i∈zv md ops g->YieldsIf P ops F oi v a->jY k C D g w->(uB md ops k i=true->g.getD k true=false)->
   lS P md ops Q k C D fuel (g.setIfInBounds i true) (a.put oi.dst v) w->lS P md ops Q k C D (fuel+1) g a w:=by
 have V:∀(L:Array Bool) (w:World),jY k C D L w->(uB md ops k i=true->L.getD k true=false)->F w:=λL w j I=>by
  rcases a5 with o|⟨o,h'⟩
  ·exact o w j.2
  ·exact o w (j.1 (I h')) j.2
 intro fuel;induction fuel with
 |zero=>
  intro g a w _ q J j y z;refine ⟨λo=>(by rw [o] at q;cases q),λf G=>?_⟩;by_cases m:f=i
  ·subst m;exact J.wpOp R (V _ _ j y) ⟨j.set _,z⟩
  ·have:=ready_mono G m;rw [z.1] at this;cases this
 |succ fuel ih=>
  intro g a w W q J j y z;refine ⟨λo=>(by rw [o] at q;cases q),λf G=>?_⟩;by_cases m:f=i
  ·subst m;exact J.wpOp R (V _ _ j y) ⟨j.set _,z⟩
  ·have p:=z.2 f (ready_mono G m);obtain ⟨X,s,H,a6⟩:=mem_ready.1 G;have Y:∀e∈s.after,zr md e=true->e.on≠i:=λe O N a7=>by
    have p:=a6 e O N;have T:=(mem_ready.1 q).1;rw [a7] at p;rcases zl i g.size with h'|h'
    ·simp [h'] at T p;rw [T] at p;cases p
    ·simp [Array.getElem?_eq_none h'] at p
   have a3:=wpOp_putIf H (W f s H m X Y) (λA b=>a0 i oi A b R) (λA b=>a0 f s A b H) a4 J p;have a8:∀k E,ops[k]?=some E->k≠i->(g.setIfInBounds f true).getD k true=false->
     (∀e∈E.after,zr md e=true->e.on≠i)->oi.apart ops E=true:=λk E y b1 a1 b2=>by
    refine W k E y b1 ?_ b2;by_cases u:f=k
    ·subst u;exact X
    ·rw [getD_set_ne true u] at a1;exact a1
   have b0:uB md ops k i=true->(g.setIfInBounds f true).getD k true=false:=λI=>by
    obtain ⟨S,e,Z,O,N,b3⟩:=aV4 I;have u:f≠k:=λu=>by
     subst u;rw [H] at Z;cases Z;exact Y e O N b3
    rw [getD_set_ne true u];exact y I
   refine wpOp_mono (λa2 w' M=>?_) a3;have U:jY k C D (g.setIfInBounds f true) w':=by have:=M.2.1;rw [zn _ _ (Ne.symm m)] at this;exact this.unset a9
   refine ⟨U,ih (g.setIfInBounds f true) a2 w' a8 (ready_mono q (Ne.symm m)) M.1 U b0 ?_⟩;rw [zn _ _ m];exact M.2.2
theorem aDi{d:Option Tmp}{f:Array Bool}(m:ops[i]?=some oi)(u:oi.dst=d)(g:(uB md ops k i && (i != k) && !(f.getD k true))=true)
  (A:zb ops=true) (y:Region.free md ops f i=true) (z:(zv md ops f).contains i=true)
  (s:∀c a w,Q (.panic c) (a.put d v) w->Q (.panic c) a w) (E:YieldsIf P ops (λw=>C w/\D w) oi v a) (j:jY k C D f w)
  (o:jY k C D (f.setIfInBounds i true) w->lS P md ops Q k C D fuel (f.setIfInBounds i true) (a.put d v) w):lS P md ops Q k C D (fuel+1) f a w:=by
 subst u;simp only [zy,bne_iff_ne,ne_eq,zd] at g;exact aJe m g.1.2 (zh A) s (zo ⟨λw p q=>⟨p,q⟩,g.1.1⟩) fuel f a w (zc m y) (by simpa using z) E j (λ_=>g.2) (o (j.set _))
theorem rG{d:Option Tmp}{f:Array Bool}(o:ops[i]?=some oi)(q:oi.dst=d)(j:((i != k) && !(f.getD k true))=true)
  (y:zb ops=true) (s:Region.free md ops f i=true) (u:(zv md ops f).contains i=true)
  (p:∀c a w,Q (.panic c) (a.put d v) w->Q (.panic c) a w) (z:YieldsIf P ops D oi v a) (m:jY k C D f w)
  (g:jY k C D (f.setIfInBounds i true) w->lS P md ops Q k C D fuel (f.setIfInBounds i true) (a.put d v) w):lS P md ops Q k C D (fuel+1) f a w:=by
 subst q;simp only [zy,bne_iff_ne,ne_eq,zd] at j;exact aJe o j.1 (zh y) p (zk (λ_ g=>g)) fuel f a w (zc o s) (by simpa using u) z m (λ_=>j.2) (g (m.set _))
def mK(P:Program)(md:Region.Mode)(ops:Array Oper)(Q:Exit->Act->World->Prop)(k:Nat)(C D:World->Prop)(fuel:Nat)(f:Array Bool)(a:Act)(w:World)(rs:List Nat):Prop:=
 ∀i∈rs,wpOp P ops Q i (λg w'=>jY k C D (f.setIfInBounds i true) w'/\lS P md ops Q k C D fuel (f.setIfInBounds i true) g w') a w
theorem mK.nil{g:Array Bool}:mK P md ops Q k C D fuel g a w []:=λ_ f=>by cases f
theorem mK.cons{fuel:Nat}{g:Array Bool}{a:Act}{w:World}{i:Nat}{o:Oper}{rs:List Nat}(s:ops[i]?=some o)
  (m:∀f:Act->World->Prop,Shut (∀a w,jY k C D (g.setIfInBounds i true) w->lS P md ops Q k C D fuel (g.setIfInBounds i true) a w->f a w)->if zg o (yielded ops a.tmps)=true then Oper.wp P o a w f Q else f (a.put o.dst undef) w)
  (u:mK P md ops Q k C D fuel g a w rs):mK P md ops Q k C D fuel g a w (i::rs):=λj hj=>by
 rcases List.mem_cons.1 hj with rfl|hj
 ·exact wpOp_step s (λf hK=>m f (λa w p q=>hK a w ⟨p,q⟩))
 ·exact u j hj
theorem aDj{rs:List Nat}{f:Array Bool}(g:zv md ops f=rs)(o:rs≠[])
 (j:mK P md ops Q k C D fuel f a w rs):lS P md ops Q k C D (fuel+1) f a w:=⟨λm=>absurd (g▸m) o,g▸j⟩
theorem fR(i:Nat){fuel:Nat}{f:Array Bool}{a:Act}{w:World}{g:Oper}(p:zv md ops f=[i])(o:ops[i]?=some g)
 (m:∀j:Act->World->Prop,Shut (∀a w,jY k C D (f.setIfInBounds i true) w->lS P md ops Q k C D fuel (f.setIfInBounds i true) a w->j a w)->if zg g (yielded ops a.tmps)=true then Oper.wp P g a w j Q else j (a.put g.dst undef) w):lS P md ops Q k C D (fuel+1) f a w:=aDj p (by simp) (mK.cons o m mK.nil)
theorem aDk{j:Array Bool}(g:zv md ops j=[])(f:Q .normal a w):∀fuel,lS P md ops Q k C D fuel j a w
 |0=>⟨g,f⟩
 |_+1=>⟨λ_=>f,by rw [g];simp⟩
theorem aV5{o:Nat}(k:Nat)(C D:World->Prop)(m:P.follows .mixedOrders=true)(g:C w.drew)(j:D w.drew)
  (f:jY k C D (za ops.size false) w.drew->lS P .any ops Q k C D ops.size (za ops.size false) a w.drew):(Code.region o ops true).wp P Q a w:=
 wp_region_any m (aJd _ _ _ _ (f ⟨λ_=>g,j⟩))
end
