import Derived.Test.YthjhkgohninpcaaGreatDoorGLitsM
import Derived.Laws.AppendOwnNone
import Derived.Test.YthjhkgohninpcaaGreatDoorSNam1M
import Derived.Test.YthjhkgohninpcaaGreatDoorSTokM
open List renaming length_append→zz,take_succ_eq_append_getElem→zx,getElem?_eq_getElem→zu,getElem?_cons_succ→zs,take_of_length_le→zr,getElem_cons_succ→zq,length_map→zo,flatMap_append→zk,flatMap_cons→zj,mem_map→zg,getElem?_map→zf,cons_append→ze,getElem_mem→zd,take_length→zc
open Nat renaming le_refl→zy,zero_add→zp,zero_le→zm,le_trans→zh
open Or renaming inr→zn,inl→z0
open Prod renaming fst→zv
namespace Go.Proofs.YthjhkgohninpcaaGreatDoor
open _root_.Go.Proofs.Tryz renaming prog→zt,underlying72→zi
open World renaming ownsRow_nil→zw
open Go.RowKit Go.Shelf Go.WideMaps
set_option maxHeartbeats 4000000
set_option maxRecDepth 100000
variable{cs:List (Nat×List Lt)}{L T:List Tk}{B k pa:Nat}{vB vC vL vP vV:Value}{w wr:World}{st:aY}
abbrev Us:=ByteArray×Bool×Int
def nN(k:Nat)(a:Nd):List Us:=if aM a then [] else [(a.1,decide (k=0),a.2)]
def kH(a:List Nd):Nat->List Us
 |0=>[]
 |k+1=>kH a k++((a[k]?).map (nN k)).getD []
def nO(a:List Lt):Nat->List Us
 |0=>[]
 |k+1=>nO a k++((a[k]?).map λb=>kH b.2 b.2.length).getD []
def rA(a:List Lt):List Us:=nO a a.length
theorem aIi(a:List Nd)(k:Nat)(b:k<a.length):kH a (k+1)=kH a k++nN k a[k]:=by simp [kH,b]
theorem aDk(a:List Lt)(k:Nat)(b:k<a.length):nO a (k+1)=nO a k++kH a[k].2 a[k].2.length:=by simp [nO,b]
theorem aIj(a:List Nd)(k:Nat):(kH a k).length<=k:=by
 induction k with
 |zero=>simp [kH]
 |succ k ih=>
  simp only [kH,zz];have:(((a[k]?).map (nN k)).getD []).length<=1:=by
   cases a[k]? with
   |none=>simp
   |some n=>simp [nN];split<;>simp
  omega
theorem aT4(a:List Lt)(k:Nat):(nO a k).length<=aR (a.take k):=by
 induction k with
 |zero=>simp [nO]
 |succ k ih=>
  by_cases b:k<a.length
  ·rw [aDk a k b,zx b,nT,zz];have:=aIj a[k].2 a[k].2.length;omega
  ·have c:a[k]?=none:=List.getElem?_eq_none (by omega);have d:a.take (k+1)=a.take k:=by rw [zr (by omega),zr (by omega)]
   simp only [nO,c,d];simpa using ih
def aIk(a:List Us):Prop:=∀b (c:b<a.length),a[b].2.2<=5/\∀k (d:k<b),(a[k]'(by omega)).1=a[b].1->(a[k]'(by omega)).2=a[b].2
theorem aT5(a:Nat):((a:Int)==0)=decide (a=0):=by rw [Bool.eq_iff_iff];simp
def nQ(a:Pl):Us:=(a.1,a.2.1,a.2.2.1)
def gS(b:List Us):List Value:=b.flatMap λa=>[.string a.1,.bool a.2.1,.int .i64 a.2.2]
theorem aT6(b:List Us)(a:Us):gS (b++[a])=gS b++[.string a.1,.bool a.2.1,.int .i64 a.2.2]:=by simp [gS]
theorem aDl(a:List Us):∀k (b:k<a.length),(gS a)[k*3]?=some (.string a[k].1)/\(gS a)[k*3+1]?=some (.bool a[k].2.1)/\(gS a)[k*3+2]?=some (.int .i64 a[k].2.2):=by
 induction a with
 |nil=>intro k b;simp at b
 |cons x r ih=>
  intro k b;cases k with
  |zero=>simp [gS]
  |succ k=>
   have:=ih k (by simpa using b);have c:(k+1)*3=k*3+3:=by omega
   rw [c];simp only [gS,zj,ze,List.nil_append,zq] at this ⊢;have d:k*3+3+1=k*3+1+3:=by omega
   have e:k*3+3+2=k*3+2+3:=by omega
   rw [d,e];simp only [zs];exact this
structure aIl(w:World)(a:Option Addr)(U:List Us):Prop where
 few:U.length<=1000000
 short:∀k (h:k<U.length),U[k].1.size<=140737488355328
 cell:∀k (h:k<U.length),∃b,a=some ⟨b,0,none⟩/\w.cell? ⟨b,k*3,none⟩=some (.string U[k].1)/\w.cell? ⟨b,k*3+1,none⟩=some (.bool U[k].2.1)/\w.cell? ⟨b,k*3+2,none⟩=some (.int .i64 U[k].2.2)
theorem aT7{l:Value}{a:List Us}(g:w.ownsRow B 111 3 l a.length (gS a))(i:a.length<=1000000)(j:∀k (g:k<a.length),a[k].1.size<=140737488355328):∃f b,l=.slice f a.length b/\aIl w f a:=by
 obtain ⟨n,⟨rfl,o⟩|⟨d,b,m,rfl,p,r,q,s,u,t⟩⟩:=g
 ·exact ⟨none,0,by rw [o],i,j,λk c=>by omega⟩
 ·have e:w.ownsRow B 111 3 (.slice (some ⟨d,0,none⟩) a.length b) a.length (gS a):=⟨n,zn ⟨d,b,m,rfl,p,r,q,s,u,t⟩⟩;refine ⟨_,_,rfl,i,j,λk c=>⟨d,rfl,?_,?_,?_⟩⟩
  ·rw [e.cellAt (k*3) (by omega),(aDl a k c).1]
  ·rw [e.cellAt (k*3+1) (by omega),(aDl a k c).2.1]
  ·rw [e.cellAt (k*3+2) (by omega),(aDl a k c).2.2]
theorem aIm:(zt.info? 111).map (λa=>(a.zero,a.size,a.bytes))=some (some (.agg #[.string ⟨#[]⟩,.bool false,.int .i64 0]),3,32):=by kernel_rfl
theorem aT8{c b:World}{e f:Value}{a:List Us}{x:Us}(j:c.ownsRow w.heap.size 111 3 e a.length (gS a))(d:aC w c)
  (l:b.ownsRow w.heap.size 111 3 f (a.length+1) (gS a++[.string x.1,.bool x.2.1,.int .i64 x.2.2])) (i:c.grownBy b e.ownBlock):b.ownsRow w.heap.size 111 3 f (a++[x]).length (gS (a++[x]))/\aC w b:=by
 refine ⟨?_,d.grown i d.size λk g=>(bL j k g).1⟩;rw [aT6,zz];exact l
theorem aT9(w:World)(d e x:Value)(g:TypeId)(c:Nat)(f:c=w.heap.size):∀j b,[d,e,x][j]?=some b->(w.alloc (.cells #[d,e,x] g)).cell? ((⟨c,0,none⟩ : Addr).add j)=some b:=by
 subst f;intro j b a;match j,a with
 |0,a=>simp at a;subst a;simp [Addr.add]
 |1,a=>simp at a;subst a;simp [Addr.add]
 |2,a=>simp at a;subst a;simp [Addr.add]
 |j+3,a=>simp at a
theorem aTa(d:ByteArray)(c:Bool)(x:Int):∀b∈[Value.string d,Value.bool c,Value.int .i64 x],b.oneCell'=true:=by intro b a;simp at a;rcases a with rfl|rfl|rfl<;>rfl
theorem aTb(I:Option Addr)(a6:Nat)(b:List Lt)(w:World)(v:bD w I b)(d1:aR b<=100000):Calls zt 52 #[.slice I b.length a6] w λu Y=>∃X,u=.returned X/\Y.ownsRow w.heap.size 111 3 X (rA b).length (gS (rA b))/\aC w Y:=by
 obtain ⟨b6,a9,b0,b1,b2⟩:=info_parts aIm;have d2:=v.few;have a3:=aA v;clear v;go_enter Tryz.func52,Tryz.ntmps52;go_wp2;go_loopw [3,10] (λE C wr=>∃k:Nat,k<=b.length/\C=.int .i64 k/\wr.ownsRow w.heap.size 111 3 E (nO b k).length (gS (nO b k))/\aC w wr) (λ_ C _=>b.length-(intOf C).toNat);case atStart=>exact ⟨0,zm _,rfl,zw _ _ _ _,Below.refl _ _⟩
 case round=>
  obtain ⟨k,d3,rfl,y,l⟩:=hrel;by_cases x:k<b.length
  ·obtain ⟨c9,e0,c7,c8,rfl,J,N,r⟩:=a3.o.cell k x;have a7:=aD l J;have a8:=aD l N;have d:=aDk b k x;have d7:=aT4 b k;have R:=tQ b (k+1);rw [zx x,nT] at R;generalize b[k]=z at *;obtain ⟨e3,c⟩:=z;simp only at a7 a8 r d R;generalize nO b k=U0 at *;have G:=aA d;have a2:=aA r;have d8:=r.few;have b3:=l.size;clear J N r d;go_wp2;go_loopw [3,17] (λE D a0=>∃a:Nat,a<=c.length/\D=.int .i64 a/\a0.ownsRow w.heap.size 111 3 E (U0++kH c a).length (gS (U0++kH c a))/\aC w a0) (λ_ D _=>c.length-(intOf D).toNat);case atStart=>exact ⟨0,zm _,rfl,by simpa [kH] using y.alloc _,l.alloc b3 _⟩
   case round=>
    obtain ⟨a,d5,rfl,m,g⟩:=hrel;by_cases U:a<c.length
    ·obtain ⟨d0,d9,rfl,M,O⟩:=a2.o.cell a U;have b7:=aD g M;have b8:=aD g O;have i:=aIi c a U;have d6:=aIj c a;generalize c[a]=nd at *;obtain ⟨e,j⟩:=nd;simp only at b7 b8;have o:=aA (λc6=>sE e j c6);have Q:=g.size;have q:=aA g;clear M O g;cases hv:e.toList.isEmpty
     ·have d:nN a (e,j)=[(e,((a:Int)==0),j)]:=by simp [nN,aM,hv,aT5]
      rw [d] at i;rw [hv] at o;have t:=aA i;have d4:(U0++kH c a).length<=200000:=by rw [zz];omega
      have a5:aG (U0++kH c (a+1)=(U0++kH c a)++[(e,((a:Int)==0),j)]):=aA (by rw [i,List.append_assoc]);clear i t;generalize U0++kH c a=V at *;clear d hv;go_wp2_with (first
       |(go_at_call 92;refine (aB o _).mono ?_;rintro u Z ⟨rfl,f⟩;obtain ⟨b9,c0,n⟩:=kY f;have A:=bB (m.alloc _) f (zy _);have p:=aA (q.o.trans (n.mono Q));have P:=p.o.size;clear f n)
       |(at_builtin;refine wpList_append_own _ rfl (.tmp 25) (.tmp 33) 72 rfl w.heap.size 111 b6 (.agg #[.string ⟨#[]⟩,.bool false,.int .i64 0]) 3 32 zi a9 b0 b1 b2 rfl (by decide) _ _ _ rfl (A.alloc _) ⟨Z.heap.size,0,none⟩ 1 1 [.string e,.bool ((a:Int)==0),.int .i64 j] rfl rfl ?c1 ?c2 ?c3 ?c4 ?c5 ?_)
       |go_in)
      case c1=>exact aT9 _ _ _ _ _ _ (by simp)
      case c2=>first|exact aTa _ _ _|exact ⟨rfl,rfl,rfl⟩
      case c3=>unfold maxLen;omega
      case c4=>omega
      case c5=>exact zh P (World.grownBy_alloc _ _ none).size
      intro e1 e2 W S _;have H:=aT8 (x:=(e,((a:Int)==0),j)) (A.alloc _) (p.o.alloc P _) W S;have F:=aA H;clear W S A H;go_wp2;go_roundw;case rel=>exact ⟨a+1,by omega,by go_num,by rw [a5.o];exact F.o.1,F.o.2⟩
      case measure=>simp [intOf];omega
     ·have d:nN a (e,j)=[]:=by simp [nN,aM,hv]
      rw [d,List.append_nil] at i;rw [hv] at o;have t:=aA i;have s:=aA m;clear i d hv m;go_wp2_with (first
       |(go_at_call 92;refine (aB o _).mono ?_;rintro u Z ⟨rfl,f⟩;obtain ⟨b9,c0,n⟩:=kY f;have a4:=aA (bB (s.o.alloc _) f (zy _));have p:=aA (q.o.trans (n.mono Q));clear f n)
       |go_in)
      go_roundw;case rel=>exact ⟨a+1,by omega,by go_num,by rw [t.o];exact a4.o,p.o⟩
      case measure=>simp [intOf];omega
    ·have b5:a=c.length:=by omega
     subst b5;rw [<-G.o] at m;have s:=aA m;have q:=aA g;clear m g G;go_wp2;go_roundw;case rel=>exact ⟨k+1,by omega,by go_num,s.o,q.o⟩
     case measure=>simp [intOf];omega
  ·have b4:k=b.length:=by omega
   subst b4;have a1:=aA (And.intro y l);clear y l;go_wp2;go_ret;exact ⟨_,rfl,a1.o⟩
theorem aTc{w:World}{I:Array Oper}{J:List Oper}{n:Oper}{m:Act}{x:Exit->Act->World->Prop}(z:n.guard=none)(o q:Operand)(i:TypeId)
  (D:n.op=.call {callee:=.builtin .append,args:=#[o,q],argTypes:=#[i,i]})
  (f:Nat) (b:TypeId) (c:TypeInfo) (v:Value) (a s:Nat) (G:zt.underlying i=some (.slice b)) (A:zt.info? b=some c) (a3:c.zero=some v) (a0:c.size=a) (U:c.bytes=s) (a4:v.cells.size=a) (a1:0<a)
  (e:Value) (d:Nat) (r:List Value) (F:m.eval o=e) (t:w.ownsRow f b a e d r) (N:Value) (g O:Nat) (l:List Value) (H:m.eval q=N) (E:w.ownsRow O b a N g l) (R:∀M∈l,M.oneCell'=true) (Z:d+g<=maxLen) (V:(d+g)*s<=140737488355328) (S:f<=w.heap.size)
  (y:∀p j,j.ownsRow f b a p (d+g) (r++l)->w.grownBy j e.ownBlock->wpList zt I x J (m.put n.dst p) j):wpList zt I x (n::J) m w:=by
 have W:=E;obtain ⟨X,⟨rfl,Y⟩|⟨Q,P,a7,rfl,a8,a9,b1⟩⟩:=E
 ·subst Y;have a2:l=[]:=List.eq_nil_of_length_eq_zero (by omega);subst a2;refine wpList_append_own_none z o q i D f b c a G A e d r F t H ?_;exact y e w (by simpa using t) (World.grownBy.refl _ _)
 ·refine wpList_append_own w z o q i D f b c v a s G A a3 a0 U a4 a1 e d r F t ⟨Q,0,none⟩ g P l H X (λu M C=>?_) R Z V S (λp j a5 a6 _=>y p j a5 a6);have b0:=(List.getElem?_eq_some_iff.1 C).1;have:=W.cellAt u (by omega);rw [C] at this;cases u with
  |zero=>simpa [Addr.add] using this
  |succ u=>simpa [Addr.add] using this
theorem aAq(a:List Pc):∀k (b:k<a.length),(pW a)[k*2]?=some (.int .i64 a[k].1.1)/\(pW a)[k*2+1]?=some a[k].2:=by
 induction a with
 |nil=>intro k b;simp at b
 |cons x r ih=>
  intro k b;cases k with
  |zero=>simp [pW]
  |succ k=>
   have:=ih k (by simpa using b);have c:(k+1)*2=k*2+2:=by omega
   rw [c];simp only [pW,zj,ze,List.nil_append,zq] at this ⊢;have d:k*2+2+1=k*2+1+2:=by omega
   rw [d];simp only [zs];exact this
theorem aTd(d:List Us):∀c∈gS d,c.oneCell'=true:=by intro c a;unfold gS at a;rw [List.mem_flatMap] at a;obtain ⟨e,_,b⟩:=a;simp at b;rcases b with rfl|rfl|rfl<;>rfl
theorem aTe(a b:List Us):gS (a++b)=gS a++gS b:=by simp [gS]
structure aDm(p:Pc):Prop where
 short:∀q∈p.1.2,dZ q.1.2
 count:aR (p.1.2.map zv)<=100000
 len:p.1.2.length<=100000
def gB(a:List Pc):List Us:=a.flatMap λb=>rA (b.1.2.map zv)
theorem aTf(a:List Pc)(k:Nat)(b:k<a.length):gB (a.take (k+1))=gB (a.take k)++rA (a[k].1.2.map zv):=by rw [zx b];unfold gB;rw [zk,List.flatMap_singleton]
theorem aTg(a:List Pc)(k:Nat):(gB (a.take k)).length<=(gB a).length:=by
 have:gB a=gB (a.take k)++gB (a.drop k):=by unfold gB;rw [<-zk,List.take_append_drop]
 rw [this,zz];omega
theorem aTh{N:Nat}{a:List Pc}(n:gA B w vC a)(b8:w.cell? ⟨N,4,none⟩=some vC)(I:∀b3∈a,aDm b3)(c0:a.length<=1000000)(b7:(gB a).length<=1000000):Calls zt 27 #[.pointer (some ⟨N,0,none⟩)] w λg Q=>∃O,g=.returned O/\Q.ownsRow w.heap.size 111 3 O (gB a).length (gS (gB a))/\aC w Q:=by
 obtain ⟨b0,a1,a2,a3,a4⟩:=info_parts aIm;obtain ⟨c6,c7,rfl⟩:=aW n.row;have d:=aA n;have Y:=aA I;clear n I;go_enter Tryz.func27,Tryz.ntmps27;go_wp2;go_loopw [3,11] (λb2 u wr=>∃k:Nat,k<=a.length/\u=.int .i64 k/\wr.ownsRow w.heap.size 111 3 b2 (gB (a.take k)).length (gS (gB (a.take k)))/\aC w wr) (λ_ u _=>a.length-(intOf u).toNat);case atStart=>exact ⟨0,zm _,rfl,zw _ _ _ _,Below.refl _ _⟩
 case round=>
  obtain ⟨k,b9,rfl,j,b⟩:=hrel;obtain ⟨c1,c2,rfl⟩:=aW j;have a9:=b.size;have v:=aA b;have l:=aA j;by_cases r:k<a.length
  ·have i:a[k]∈a:=zd _;have e:=Y.o _ i;obtain ⟨f,m,J,E⟩:=xB (P:=a[k].1.2) (d.o.each _ i).1 (d.o.each _ i).2 e.short (by have:=e.count;omega) (by have:=e.len;omega);obtain ⟨A,b5,M⟩:=qF d.o.row (by omega);simp at M;obtain ⟨rfl,rfl⟩:=M;have y:w.cell? ⟨A,k*2,none⟩=some (.int .i64 a[k].1.1):=by rw [d.o.row.cellAt _ (by omega),(aAq a k r).1]
   have z:w.cell? ⟨A,k*2+1,none⟩=some (.slice f a[k].1.2.length m):=by rw [d.o.row.cellAt _ (by omega),(aAq a k r).2,J]
   have b6:=aD b y;have a0:=aD b z;have a5:=e.count;have t:=aTf a k r;have a7:=aTg a (k+1);rw [t,zz] at a7;have Z:=aA t;have H:(a[k].1.2.map zv).length=a[k].1.2.length:=by simp
   rw [<-H] at a0;clear y z J e i t H;generalize a[k].1.2.map zv=c at *;generalize a[k].1.1=at0 at *;generalize gB (a.take k)=U0 at *;have R:=aA (λwx (a8:bD wx f c)=>aTb f m c wx a8 a5);have V:=aA (E.below b (zy _));clear j b E;go_wp2_with (first
    |(go_at_call 52;refine (R.o _ (V.o.below ((Below.refl _ _).alloc (zy _) _) (zy _))).mono ?_;rintro g c8 ⟨c4,rfl,s,q⟩;have o:=(v.o.alloc a9 (.cells #[.int .i64 at0,.slice f c.length m] 114));have p:=o.trans (q.mono o.size);have C:=p.size;have G:=bB (l.o.alloc _) q (zy _);have x:=aA G;have W:=aA s;have S:=aA p;obtain ⟨c3,b4,rfl⟩:=aW s;clear G s q o p)
    |(at_builtin;refine aTc rfl (.tmp 15) (.tmp 18) 72 rfl w.heap.size 111 b0 (.agg #[.string ⟨#[]⟩,.bool false,.int .i64 0]) 3 32 zi a1 a2 a3 a4 rfl (by decide) _ _ _ rfl x.o _ _ _ _ rfl W.o (aTd _) (by unfold maxLen;omega) (by omega) C ?_;intro c5 c9 F D;have X:=aA F;have U:=aA D;clear F D)
    |go_in)
   go_roundw;case rel=>exact ⟨k+1,by omega,by go_num,by rw [Z.o,zz,aTe];exact X.o,S.o.grown U.o C (λb1 g=>(bL x.o b1 g).1)⟩
   case measure=>simp [intOf];omega
  ·have a6:k=a.length:=by omega
   subst a6;clear j b;rw [zc] at l;go_wp2;go_ret;exact ⟨_,rfl,by rw [zc];exact l.o,v.o⟩
def RdR(i:ByteArray)(w:World)(f:Ending)(e:World):Prop:=
 ∃d a b c,f=.returned (.tuple #[d,.int .i64 b,.int .i64 c])/\gI i (a.map λg=>g.1.map zv) b c/\lK w.heap.size e d a/\aC w e
theorem aTj{n:Value}{a:List Pl}(b:w.ownsRow B 143 4 n a.length (jN a))(m:a.length<=1000000):∃l d,n=.slice l a.length d/\yQ w l a:=by
 have f:∀(a:List Pl) k (b:k<a.length),(jN a)[k*4]?=some (.string a[k].1)/\(jN a)[k*4+1]?=some (.bool a[k].2.1)/\(jN a)[k*4+2]?=some (.int .i64 a[k].2.2.1)/\(jN a)[k*4+3]?=some (.int .i64 a[k].2.2.2):=by
  intro a;induction a with
  |nil=>intro k b;simp at b
  |cons x r ih=>
   intro k b;cases k with
   |zero=>exact ⟨rfl,rfl,rfl,rfl⟩
   |succ k=>
    obtain ⟨i,j,p,q⟩:=ih k (by simpa using b);rw [aE1,show (k+1)*4=k*4+1+1+1+1 by omega];refine ⟨by simpa using i,?_,?_,?_⟩
    ·rw [show k*4+1+1+1+1+1=k*4+1+1+1+1+1 from rfl];simpa using j
    ·rw [show k*4+1+1+1+1+2=k*4+2+1+1+1+1 by omega];simpa using p
    ·rw [show k*4+1+1+1+1+3=k*4+3+1+1+1+1 by omega];simpa using q
 obtain ⟨i,⟨rfl,j⟩|⟨g,d,o,rfl,s,u,t,v,z,y⟩⟩:=b
 ·exact ⟨none,0,by rw [j],⟨m,λk c=>by omega⟩⟩
 ·have e:w.ownsRow B 143 4 (.slice (some ⟨g,0,none⟩) a.length d) a.length (jN a):=⟨i,zn ⟨g,d,o,rfl,s,u,t,v,z,y⟩⟩;refine ⟨_,_,rfl,⟨m,λk c=>⟨g,0,rfl,?_,?_,?_,?_⟩⟩⟩
  ·rw [zp,e.cellAt _ (by omega),(f a k c).1]
  ·rw [zp,e.cellAt _ (by omega),(f a k c).2.1]
  ·rw [zp,e.cellAt _ (by omega),(f a k c).2.2.1]
  ·rw [zp,e.cellAt _ (by omega),(f a k c).2.2.2]
structure oW(B pa:Nat)(L T:List Tk)(vL:Value)(k:Nat)(wr:World)(st:aY)(cs:List (Nat×List Lt))(CV:List (List (Lt×Value)×Value))(vP vC vB vV:Value):Prop where
 pin:bN B wr pa L st (-1) vL vP vC vB vV
 rest:iQ B wr vC vB CV (cs.map zv)
 same:CV.map (λp=>p.1.map zv)=cs.map (λp=>aU p.2)
 lt:st.i<T.length
 pl:st.pz.length<=st.i
 few:cs.length<=st.i
 small:∀p∈cs,(∀x∈p.2,dZ x.2)/\aR p.2<=T.length/\p.2.length<=T.length
 fuel:T.length<st.i+k
 eq:gJ T (T.length+1) ⟨0,[],[]⟩ []=gJ T k st cs
def aAr(B pa:Nat)(w:World)(L T:List Tk)(vL:Value)(k:Nat)(wr:World):Prop:=
 Below B w wr/\((∃st cs b vP vC vB vV,oW B pa L T vL k wr st cs b vP vC vB vV)\/∃(a:Nat) (c:Nat) (vP vC vB vV:Value),bG wr pa vL c (a:Int) vP vC vB vV/\gJ T (T.length+1) ⟨0,[],[]⟩ []=.error a)
theorem oW.cvlen{a:List (List (Lt×Value)×Value)}(b:oW B pa L T vL k wr st cs a vP vC vB vV):a.length=cs.length:=by have:=congrArg List.length b.same;simpa using this
theorem oW.next{m:Int}(C:TL L T m)(D:sF L T){vL:Value}{k:Nat}{wr w':World}{st:aY}{cs:List (Nat×List Lt)}{c:List (List (Lt×Value)×Value)}{vP vC vB vV:Value}{t:Ending}(u:Below B w wr)(a:oW B pa L T vL (k+1) wr st cs c vP vC vB vV)(j:(aH T st.i).kind≠101)(b:aJ8 B pa wr L T st vL c (cs.map zv) t w'):aAr B pa w L T vL k w':=by
 obtain ⟨_,z,_,b⟩:=b;refine ⟨u.trans z,?_⟩;cases hq:iV T st with
 |error d=>
  rw [hq] at b;obtain ⟨E,g,f,e,i,A⟩:=b;refine zn ⟨d,E,g,f,e,i,A,?_⟩;rw [a.eq,gJ,aI j,hq]
 |ok r=>
  obtain ⟨F,n⟩:=r;rw [hq] at b;obtain ⟨g,f,e,i,l,G,x,v,y⟩:=b;obtain ⟨o,H,p,q,s,I,J⟩:=aDy C D hq a.lt;have M:=a.pl;have N:=a.few;have O:=a.fuel;refine z0 ⟨F,cs++[((aH T st.i).pos,n)],c++[(l,G)],g,f,e,i,x,?_,?_,p,by omega,by simp;omega,?_,by omega,?_⟩
  ·simpa using v
  ·rw [List.map_append,List.map_append,a.same];simp [y]
  ·intro d hp;rcases List.mem_append.1 hp with hp|hp
   ·exact a.small d hp
   ·simp at hp;subst hp;exact ⟨o,q,s⟩
  ·rw [a.eq,gJ,aI j,hq]
theorem lK.of{b:List (List (Lt×Value)×Value)}(n:T.length<=1000000)(a:oW B pa L T vL k wr st cs b vP vC vB vV):lK B wr vC b:=by
 refine ⟨a.rest.cl,λp e=>?_⟩;have d:p.1.map zv∈b.map (λp=>p.1.map zv):=zg.2 ⟨p,e,rfl⟩;rw [a.same] at d;obtain ⟨f,i,c⟩:=zg.1 d;obtain ⟨m,r,s⟩:=a.small f i;obtain ⟨l,o,q⟩:=aDz f.2 m;refine ⟨a.rest.each p e,λg j=>?_,by rw [<-c];omega,?_⟩
 ·exact l g.1 (by rw [c];exact zg.2 ⟨g,j,rfl⟩)
 ·have:=congrArg List.length c;simp at this;omega
theorem oW.below{w':World}{b:List (List (Lt×Value)×Value)}(a:oW B pa L T vL k wr st cs b vP vC vB vV)(c:aC wr w'):oW B pa L T vL k w' st cs b vP vC vB vV:=
 ⟨a.pin.below c,a.rest.below c,a.same,a.lt,a.pl,a.few,a.small,a.fuel,a.eq⟩
theorem oW.at'{c:List (List (Lt×Value)×Value)}{j i:Option Addr}{t s:Nat}(u:T.length<=1000000)(b:oW B pa L T vL k wr st cs c vP (.slice j c.length t) (.slice i cs.length s) vV)(a:Nat)(p:a<cs.length):∃e d g f,j=some ⟨e,0,none⟩/\i=some ⟨f,0,none⟩/\wr.cell? ⟨e,a,none⟩=some (.slice d (aU cs[a].2).length g)/\bD wr d (aU cs[a].2)/\wr.cell? ⟨f,a,none⟩=some (.int .i64 cs[a].1):=by
 have F:=b.cvlen;have q:a<c.length:=by omega
 have r:c[a].1.map zv=aU cs[a].2:=by have:=congrArg (λC=>C[a]?) b.same;simp only [zf,zu q,zu p,Option.map_some,Option.some.injEq] at this;exact this
 obtain ⟨e,D,l⟩:=qF b.rest.cl (by omega);obtain ⟨f,E,m⟩:=qF b.rest.begins (by simp;omega);simp only [Value.slice.injEq] at l m;obtain ⟨rfl,_,rfl⟩:=l;obtain ⟨rfl,_,rfl⟩:=m;obtain ⟨H,y⟩:=lK.of u b;obtain ⟨o,z,v,G⟩:=y c[a] (zd _);obtain ⟨d,g,A,x⟩:=xB o.1 o.2 z v (by omega);have n:=b.rest.begins;rw [zo] at n;refine ⟨e,d,g,f,rfl,rfl,?_,by rw [<-r];exact x,?_⟩
 ·rw [b.rest.cl.cellAt _ (by omega),zf,zu q,Option.map_some,A,<-r,zo]
 ·rw [n.cellAt _ (by omega)];simp [p]
theorem aTk(b:ByteArray)(w:World)(i1:b.size<=140737488355328):Calls zt 21 #[.string b] w λe f3=>RdR b w e f3:=by
 by_cases e3:3000<b.size
 ·have e6:(3000:Int)<(b.size:Int):=by omega
  go_enter Tryz.func21,Tryz.ntmps21;go_wp2;go_returns;exact ⟨_,[],0,1,rfl,z0 ⟨e3,rfl,rfl,rfl⟩,lK.nil _ _,Below.refl _ _⟩
 ·have e6:¬(3000:Int)<(b.size:Int):=by omega
  have t:=aE4 b (by omega);have J:=aB0 b (by omega);have D:=aA (aVb b w (by omega));have a5:(eP (cW b (b.size+1) 0)).length<=1000000:=by have:=aE3 b (b.size+1) 0;unfold eP;split<;>simp<;>omega
  have b0:aG (∀m,gJ (eP (cW b (b.size+1) 0)) ((eP (cW b (b.size+1) 0)).length+1) ⟨0,[],[]⟩ []=m->qC b=m):=aA λm h=>h
  have e4:0<(eP (cW b (b.size+1) 0)).length:=by
   obtain ⟨_,f0,_,_⟩:=aE2 b (b.size+1) 0;unfold eP;cases j:(cW b (b.size+1) 0).2 with
   |none=>obtain ⟨i3,i4,e9,_⟩:=f0 j;rw [e9];simp
   |some l=>simp
  generalize cW b (b.size+1) 0=m at *;obtain ⟨L,c8⟩:=m;simp only at t J;unfold aJf at D;simp only at D;generalize eP (L,c8)=T at *;generalize aBd c8=brk at *;have i2:=aE8;go_enter Tryz.func21,Tryz.ntmps21;go_wp2_with (first
   |(go_at_call 42;refine (aB D).mono ?_;rintro e p ⟨vL,rfl,Y,c1⟩;obtain ⟨a6,a7,rfl⟩:=aW Y;have d5:=aA Y;have b1:=aA (c1.below (zy _));clear Y c1)
   |go_in)
  have g:∀U:Obj,(p.alloc U).heap[p.heap.size]?=some U:=λU=>by show (p.heap.push _)[p.heap.size]?=_;simp
  have c7:=b1.o.size;have b5:aG (aAr w.heap.size p.heap.size w L T (.slice a6 L.length a7) (T.length+1) (p.alloc (.cells #[.slice a6 L.length a7,.int .i64 0,.int .i64 (-1),.slice none 0 0,.slice none 0 0,.slice none 0 0,.slice none 0 0] 98))):=aA ⟨b1.o.alloc c7 _,z0 ⟨⟨0,[],[]⟩,[],[],.slice none 0 0,.slice none 0 0,.slice none 0 0,.slice none 0 0,
   ⟨⟨c7,g _,d5.o.alloc _,zw _ _ _ _,zw _ _ _ _⟩,⟨zw _ _ _ _,λl a4=>by simp at a4,zw _ _ _ _⟩,rfl,e4,zy _,zy _,λl a4=>by simp at a4,by simp,rfl⟩⟩⟩
  clear g D;generalize p.heap.size=pa at *;go_loopg [] (T.length+1) (λk wr=>aAr w.heap.size pa w L T (.slice a6 L.length a7) k wr);case atStart=>exact b5.o
  case round=>
   clear b5;obtain ⟨j,⟨st,cs,E,vP,vC,vB,vV,a⟩|⟨l,M,vP,vC,vB,vV,g,I⟩⟩:=hrel
   ·obtain ⟨A,rfl⟩ : ∃A,gk=A+1:=⟨gk-1,by have:=a.fuel;have:=a.lt;omega⟩;have u:=aA (pA w.heap.size pa st.i (-1) _ vP vC vB vV L wr a.pin.box a.pin.toks);unfold nU at u;obtain ⟨N,o⟩ : ∃N,(aH L st.i).kind=N:=⟨_,rfl⟩;rw [o] at u;rw [t.kind] at o;have d9:=a.pin.box.c2;have R:=aA a;have v:=aA j;by_cases b6:N=101
    ·subst b6;have b4:aG (qC b=.ok (st,cs)):=aA (by rw [b0.o _ a.eq,gJ,aJ o]);have b2:=aA a.cvlen;have g9:=a.few;have h6:=a.lt;obtain ⟨f1,f2,rfl,c4⟩:=aTj a.pin.pz (by have:=a.pl;omega);obtain ⟨f8,f9,rfl⟩:=aW a.rest.cl;obtain ⟨f4,f5,c6⟩:=aW a.rest.begins;rw [zo] at c6;subst c6;have d6:=aA c4;clear a j c4 o;go_wp2_with (first
      |(go_at_call 43;refine (aB u).mono ?_;rintro e a9 ⟨rfl,d⟩;have i:=aA (R.o.below d);have r:=aA (aV v.o d);have g2:=i.o.pin.box.c2;have g3:=i.o.pin.box.c3;have d1:=aA (aUa f1 f2 st.pz a9 (d6.o.below d (zy _)));clear d)
      |(go_at_call 46;refine (aB d1).mono ?_;rintro e O ⟨m,rfl,c5,a1⟩;have H:=aA c5;have x:=aA (i.o.below (aL a1));have F:=aA (aV r.o (aL a1));have g4:=x.o.pin.box.c4;have g5:=x.o.pin.box.c5;clear c5 a1)
      |go_in)
     ·rename_i h0;go_returns;exact ⟨_,[],m,3,rfl,zn ⟨by omega,by rw [b4.o];exact ⟨m,H.o,z0 ⟨by omega,rfl,rfl,rfl⟩⟩⟩,lK.nil _ _,F.o⟩
     ·rename_i h5;have b3:aG (∀a8 V W,tR cs a8 V W->gI b a8 V W):=aA λa8 V W h=>zn ⟨by omega,by rw [b4.o];exact ⟨m,H.o,zn ⟨by omega,h⟩⟩⟩
      go_loopw [9] (λM q=>∃c:Nat,c<=cs.length/\M=.int .i64 c/\(∀n s,n<c->¬jB cs n s)/\q=O) (λM _=>cs.length-(intOf M).toNat);case atStart=>exact ⟨0,zm _,rfl,λn _ s=>by omega,rfl⟩
      case round=>
       obtain ⟨c,h1,rfl,c3,rfl⟩:=hrel;have Q:=aA c3;clear c3;by_cases a3:c<cs.length
       ·have e8:(c:Int)<(E.length:Int):=by have:=b2.o;omega
        have h4:(c:Int)<(cs.length:Int):=by omega
        have h2:(0:Int)<=(c:Int):=by omega
        obtain ⟨g6,d7,d8,g7,rfl,rfl,f6,c2,f7⟩:=x.o.at' a5 c a3;have C:=aA (wY d7 d8 _ _ c2);obtain ⟨z,a2⟩ : ∃z,cD (aU cs[c].2)=z:=⟨_,rfl⟩;rw [a2] at C;clear c2;by_cases f:jB cs c a3
        ·have G:=aA (b3.o [] (cs[c].1:Nat) 4 (z0 ⟨c,a3,f,Q.o,rfl,rfl,rfl⟩));have d:40<=c\/z=false:=by unfold jB at f;rw [a2] at f;exact f
         clear f;by_cases b7:40<=c
         ·have b8:(40:Int)<=(c:Int):=by omega
          go_wp2_with (first
           |(go_at_call 47;refine (aB C).mono ?_;rintro e c9 ⟨rfl,rfl⟩)
           |go_in)
          go_quiet (fail);go_wp2;go_returns;exact ⟨_,[],_,4,rfl,G.o,lK.nil _ _,aV F.o (aL ⟨_,rfl⟩)⟩
         ·have b8:¬(40:Int)<=(c:Int):=by omega
          have e5:z=false:=by
           rcases d with h|h
           ·exact absurd h b7
           ·exact h
          subst e5;go_wp2_with (first
           |(go_at_call 47;refine (aB C).mono ?_;rintro e c9 ⟨rfl,rfl⟩)
           |go_in)
          go_quiet (fail);go_wp2;go_returns;exact ⟨_,[],_,4,rfl,G.o,lK.nil _ _,aV F.o (aL ⟨_,rfl⟩)⟩
        ·have P:=aA f;have d:¬40<=c/\z=true:=by unfold jB at f;rw [a2] at f;simpa using f
         obtain ⟨b7,rfl⟩:=d;have b8:¬(40:Int)<=(c:Int):=by omega
         clear f;go_wp2_with (first
          |(go_at_call 47;refine (aB C).mono ?_;rintro e c9 ⟨rfl,rfl⟩)
          |go_in)
         go_roundw;case rel=>exact ⟨c+1,by omega,by go_num,λn s i0=>by
          by_cases h:n=c
          ·subst h;exact P.o
          ·exact Q.o n s (by omega),by first|rfl|trivial⟩
         case measure=>simp [intOf];omega
       ·have h3:c=cs.length:=by omega
        have e8:¬(c:Int)<(E.length:Int):=by have:=b2.o;omega
        have G:=aA (b3.o (cs.map λl=>aU l.2) 0 0 (zn ⟨λn s=>Q.o n s (by omega),rfl,rfl,rfl⟩));go_wp2;go_returns;exact ⟨_,E,0,0,rfl,by rw [x.o.same];exact G.o,lK.of a5 x.o,F.o⟩
    ·have g8:((N:Int) != 101)=true:=by simp;omega
     have g0:=a.pin.box.c0;have g1:=a.pin.box.c1;by_cases c0:st.i<L.length
     ·have e7:¬(L.length:Int)<=(st.i:Int):=by omega
      have d0:=aA (λq (g:aC wr q)=>aUy w.heap.size pa brk st _ vP vC vB vV L T E (cs.map zv) q t J (λvC vB e2=>aV8 t e2) (a.pin.below g) (a.rest.below g) (zh j.size g.size) c0 a.pl a5 (by have:=a.few;simpa using this) (by have:=a.few;have:=a.cvlen;omega));have d4:=aA (show (aH T st.i).kind≠101 by rw [o];exact b6);clear a j o;go_wp2_with (first
       |(go_at_call 43;refine (aB u).mono ?_;rintro e a9 ⟨rfl,d⟩;have i:=aA (R.o.below d);have r:=aA (aV v.o d);have e0:=i.o.pin.box.c0;have e1:=i.o.pin.box.c1;have y:=aA d;clear d)
       |go_in)
      go_quiet (fail);go_wp2_with (first
       |(go_at_call 45;refine (d0.o _ (y.o.trans ((aL ⟨_,rfl⟩).mono y.o.size))).mono ?_;intro e O a0;have I:=a0.1;subst I;have S:=aA (oW.next t J (aV r.o (aL ⟨_,rfl⟩)) (i.o.below (aL ⟨_,rfl⟩)) d4.o a0);clear a0)
       |go_in)
      go_roundg A;case measure=>omega
      case rel=>exact S.o
     ·have e7:(L.length:Int)<=(st.i:Int):=by omega
      have X:=J.rest _ c0;have f:=t.bad _ a.lt;have d3:aG (gJ T (T.length+1) ⟨0,[],[]⟩ []=.error (aH T st.i).pos):=aA (by rw [a.eq,gJ,aI (by rw [X];decide),aV0 X]);have d2:=aA (λq (g:aC wr q)=>aB6 w.heap.size pa st.i brk _ vP vC vB vV L q (a.pin.below g).box (a.pin.below g).toks);have h9:=a.pin.high;have P:=aA f;clear a j o X f;go_wp2_with (first
       |(go_at_call 43;refine (aB u).mono ?_;rintro e a9 ⟨rfl,d⟩;have i:=aA (R.o.below d);have r:=aA (aV v.o d);have e0:=i.o.pin.box.c0;have e1:=i.o.pin.box.c1;have y:=aA d;clear d)
       |go_in)
      go_quiet (fail);go_wp2_with (first
       |(go_at_call 44;refine (d2.o _ (y.o.trans ((aL ⟨_,rfl⟩).mono y.o.size))).mono ?_;rintro e O ⟨rfl,Z,b9⟩;rw [P.o] at Z;have S:aG (aAr w.heap.size pa w L T _ A O):=aA ⟨(aV r.o (aL ⟨_,rfl⟩)).grown b9 (zh r.o.size (zy _)) (λk e=>by simp at e;omega),zn ⟨_,_,_,_,_,_,Z,d3.o⟩⟩;clear Z b9)
       |go_in)
      go_roundg A;case measure=>omega
      case rel=>exact S.o
   ·have d9:=g.c2;have h7:decide ((l:Int)<0)=false:=by simp
    have h8:(0:Int)<=(l:Int):=by omega
    have H:aG (gI b [] (l:Int) 2):=aA (zn ⟨by omega,by rw [b0.o _ I];exact ⟨rfl,rfl,rfl⟩⟩);have v:=aA j;clear j I g;go_wp2;go_quiet (fail);go_wp2;go_returns;exact ⟨_,[],l,2,rfl,H.o,lK.nil _ _,aV v.o (aL ⟨_,rfl⟩)⟩
