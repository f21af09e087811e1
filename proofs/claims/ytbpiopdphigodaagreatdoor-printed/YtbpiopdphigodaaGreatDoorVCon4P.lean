import Derived.Test.YtbpiopdphigodaaGreatDoorUWrP
import Derived.Handy
open And renaming intro→zt
open Array renaming getElem?_eq_some_iff→zz
open List renaming length_append→zx,append_assoc→zw,getElem_of_mem→zv,mem_append→zu,mem_of_mem_take→zr,mem_of_mem_eraseIdx→zq,length_cons→zp,length_eraseIdx_le→zo,map_append→zn,mem_map→zm,cons_append→zl
open Nat renaming le_refl→zy
namespace Go.Proofs.YtbpiopdphigodaaGreatDoor
open World renaming cell?→zs
open Go.RowKit Go.Shelf Go.WideMaps
set_option maxHeartbeats 8000000
set_option maxRecDepth 100000
variable{R:List (Int×Lt)}
theorem oV.row{f:Option Nat}{w w':World}(t:oV f w w'){B:Nat}{a:TypeId}{s n:Nat}{v:Value}{i:List Value}(q:w.ownsRow B a s v n i)(k:a≠3)(l:a≠191)(p:∀e,v.ownBlock=some e->f≠some e):w'.ownsRow B a s v n i:=by
 obtain ⟨c,⟨rfl,m⟩|⟨g,j,b,rfl,o,d,r⟩⟩:=q
 ·exact ⟨c,Or.inl ⟨rfl,m⟩⟩
 ·exact ⟨c,Or.inr ⟨g,j,b,rfl,o,by rw [t g b a (0,0) d k l (p g rfl)];exact d,r⟩⟩
structure nT(w0:World)(B tb mp:Nat)(M0:List Tg)(a b:Nat)(R:List (Int×Lt))(v:Value)(nb:Option Nat)(ls:List (List Nd))(Q:List (Lt×Value))(wr:World):Prop where
 con:gO B tb mp nb (M0++bL R) a b (eG M0.length R) ls wr
 len:R.length=ls.length
 made:Q.map Prod.fst=cW R ls
 row:wr.ownsRow B 41 2 v Q.length (bC Q)
 atoms:∀q∈Q,vO wr B q.2 q.1.2/\q.1.2.length<=500/\∀k,q.2.ownBlock=some k->nb≠some k
 low:Below B w0 wr
section
variable {w0 wr wb w2 w3 w5:World}{B tb mp:Nat}{M0:List Tg}{a b:Nat}{R:List (Int×Lt)}{v v3 v5:Value}{nb nb':Option Nat}{ls:List (List Nd)}{Q:List (Lt×Value)}{o:Int}{x:Lt}{l:List Nd}
theorem nT.below(c:nT w0 B tb mp M0 a b R v nb ls Q wr)(d:aB wr wb):nT w0 B tb mp M0 a b R v nb ls Q wb:=
 ⟨c.con.below d,c.len,c.made,bF c.row d (zy _),λf e=>⟨bF (c.atoms f e).1 d (zy _),(c.atoms f e).2⟩,c.low.trans (d.mono c.con.big)⟩
theorem nT.rows(c:nT w0 B tb mp M0 a b R v nb ls Q wr)(f:oV nb wr w2):w2.ownsRow B 41 2 v Q.length (bC Q)/\∀d∈Q,vO w2 B d.2 d.1.2:=by refine ⟨f.row c.row (by decide) (by decide) (λm j g=>?_),λd e=>f.row (c.atoms d e).1 (by decide) (by decide) (c.atoms d e).2.2⟩;obtain ⟨k,i⟩:=c.con.nbT g;exact dZ c.row i (by decide) j
theorem nT.add(d:nT w0 B tb mp M0 a b R v nb ls Q wr)(m:Below B wr w2)(n:aJh wr nb nb')(p:oV nb wr w2):(w2.ownsRow B 41 2 v Q.length (bC Q)/\∀c∈Q,vO w2 B c.2 c.1.2/\c.1.2.length<=500/\∀e,c.2.ownBlock=some e->nb'≠some e)/\Below B w0 w2:=by
 obtain ⟨q,r⟩:=d.rows p;refine ⟨⟨q,λc f=>⟨r c f,(d.atoms c f).2.1,λe k i=>?_⟩⟩,d.low.trans m⟩;rcases n with j|⟨g,j,s⟩
 ·exact (d.atoms c f).2.2 e k (by rw [<-j,i])
 ·rw [j] at i;simp at i;have:=(cL (d.atoms c f).1 e k).2;omega
theorem nT.put(w:R.length=ls.length)(M:Q.map Prod.fst=cW R ls)(f:w2.ownsRow B 41 2 v Q.length (bC Q)/\∀c∈Q,vO w2 B c.2 c.1.2/\c.1.2.length<=500/\∀k,c.2.ownBlock=some k->nb≠some k)(L:Below B w0 w2)(m:gO B tb mp nb (M0++bL R++aW o x.2) a b (eG M0.length R) ls w2)
  (j:gO B tb mp nb (M0++bL R++aW o x.2) a b (eG M0.length R++[(M0++bL R).length]) (ls++[l]) w3) (J:Below B w2 w3) (y:oV nb w2 w3) (F:l.length<=500) (t:w3.ownsRow w2.heap.size 43 2 v3 l.length (aV l))
  {i:Obj} (E:w5.ownsRow B 41 2 v5 (Q.length+1) (bC Q++[.bool x.1,v3])) (p:(w3.alloc i).grownBy w5 v.ownBlock):nT w0 B tb mp M0 a b (R++[(o,x)]) v5 nb (ls++[l]) (Q++[((x.1,l),v3)]) w5:=by
 have I:=m.big;have e:aB w3 (w3.alloc i):=(Below.refl _ _).alloc (zy _) i;have N:w3.ownsRow B 41 2 v Q.length (bC Q):=y.row f.1 (by decide) (by decide) (λk q d=>by
  obtain ⟨z,n⟩:=m.nbT d;exact dZ f.1 n (by decide) q)
 have r:=bF N e (zy _);have u:∀{c:Value} {g:List Nd} {s:Nat},w3.ownsRow s 43 2 c g.length (aV g)->w5.ownsRow s 43 2 c g.length (aV g):=λhq=>dT (bF hq e (zy _)) p (fQ (bF hq e (zy _)) r (by decide))
 have A:M0++bL (R++[(o,x)])=M0++bL R++aW o x.2:=by rw [aJm,<-zw]
 have C:eG M0.length (R++[(o,x)])=eG M0.length R++[(M0++bL R).length]:=by rw [aJn,zx]
 refine ⟨by rw [A,C];exact (j.below e).lits r p,by simp [w],?_,?_,?_,?_⟩
 ·rw [zn,M,aXc R ls w];rfl
 ·have D:bC (Q++[((x.1,l),v3)])=bC Q++[.bool x.1,v3]:=by simp [bC]
  rw [D,zx];exact E
 ·intro c hq;rcases zu.1 hq with hq|hq
  ·exact ⟨u (y.row (f.2 c hq).1 (by decide) (by decide) (f.2 c hq).2.2),(f.2 c hq).2⟩
  ·simp at hq;subst hq;refine ⟨gS (u t) I,F,λk q d=>?_⟩;obtain ⟨z,n⟩:=m.nbT d;have O:=(zz.1 n).1;have P:=(cL t k q).1;omega
 ·have G:=L.trans J;have H:=G.trans (e.mono j.big);exact H.grown p (by have:=j.big;simp;omega) (λk d=>(cL r k d).1)
end
theorem aXd{c:List Lt}{out:Nat}:∀(b a:Nat),a+b<=c.length->∃d,iB c out (a+b)=iB c out a++d:=by
 intro b;induction b with
 |zero=>intro a _;exact ⟨[],by simp⟩
 |succ b ih=>
  intro a g;obtain ⟨d,f⟩:=ih a (by omega);by_cases e:a+b=out
  ·refine ⟨d,?_⟩;rw [<-f,show a+(b+1)=a+b+1 by omega,e];exact aJi (by omega)
  ·refine ⟨d++[c[a+b]'(by omega)],?_⟩;rw [show a+(b+1)=a+b+1 by omega,aJj (by omega) e,f,zw]
theorem aXe:∀(a c:List (List Lt×Nat)) (b:Nat),bE b (a++c)=bE b a++bE (b+a.length) c:=by
 intro a;induction a with
 |nil=>intro c b;simp [bE]
 |cons x a ih=>
  intro c b;simp only [zl,bE,ih,zw,zp];rw [show b+1+a.length=b+(a.length+1) by omega]
theorem wQ:∀(a:List (List Lt×Nat)) (c:Nat) (b:Int×Lt),b∈bE c a->∃d∈a,b.2∈d.1:=by
 intro a;induction a with
 |nil=>intro c b h;simp [bE] at h
 |cons d a ih=>
  intro c b h;rcases zu.1 h with h|h
  ·obtain ⟨j,e,rfl⟩:=zm.1 h;exact ⟨d,by simp,zq e⟩
  ·obtain ⟨i,f,g⟩:=ih _ b h;exact ⟨i,by simp [f],g⟩
theorem aJo:∀(a:List (List Lt×Nat)) (c:Nat),(∀b∈a,b.1.length<=8)->(bE c a).length<=8*a.length:=by
 intro a;induction a with
 |nil=>intro c _;simp [bE]
 |cons b a ih=>
  intro c d;have g:=d b (by simp);have i:=ih (c+1) (λf e=>d f (by simp [e]));have j:=zo b.1 b.2;simp only [bE,zx,List.length_map,zp];omega
theorem aXf(c:List Lt)(out a:Nat):(iB c out a).length<=a:=by unfold iB;have:=zo (c.take a) out;simp at this;omega
theorem aXg{b:List (List Lt×Nat)}{a:Nat}(k:a<b.length){j:Nat}(l:j<=b[a].1.length):∃e,bE 0 b=(bE 0 (b.take a)++(iB b[a].1 b[a].2 j).map λd=>((a:Int),d))++e:=by obtain ⟨e,i⟩:=aXd (c:=b[a].1) (out:=b[a].2) (b[a].1.length-j) j (by omega);rw [show j+(b[a].1.length-j)=b[a].1.length by omega,aJk] at i;have f:=aJl b 0 a k;rw [Nat.zero_add] at f;have g:=aXe (b.take (a+1)) (b.drop (a+1)) 0;rw [List.take_append_drop] at g;refine ⟨(e.map λd=>((a:Int),d))++bE (0+(b.take (a+1)).length) (b.drop (a+1)),?_⟩;rw [g,f,i,zn];simp only [zw]
theorem aXh{b:List Tg}{g i:Nat}{a:List (Int×Lt)}{d:List (List Nd)}(n:oX (b++bL R) g i (eG b.length R) d)(t:∀k∈a,aN k.2.2 1=true){f:List Nd}(q:f∈d)(p:500<f.length):jG b g i (R++a) [] false 4:=by
 obtain ⟨j,e⟩:=oX.all a n t;have l:b++bL R++bL a=b++bL (R++a):=by simp [bL]
 have m:eG b.length R++eG (b++bL R).length a=eG b.length (R++a):=by
  have u:∀(R a:List (Int×Lt)) (c:Nat),eG c R++eG (c+(bL R).length) a=eG c (R++a):=by
   intro R;induction R with
   |nil=>intro a c;simp [eG,bL]
   |cons k R ih=>
    intro a c;simp only [zl,eG];rw [<-ih,zS];simp [Nat.add_assoc]
  rw [zx];exact u R a b.length
 rw [l,m] at e;have r:(R++a).length=(d++j).length:=by obtain ⟨_,_,_,_,_,_,o,_⟩:=e;have:=o.length;rw [aJr] at this;exact this
 obtain ⟨v,s⟩:=aJw (R++a) (d++j) r f (zu.2 (Or.inl q));exact e.out.1 (aXu s p)
structure wR(w0:World)(B:Nat)(M0:List Tg)(a b:Nat)(rest:List (Int×Lt))(v:Value)(yes:Bool)(er:Int)(w':World):Prop where
 out:∃out,jG M0 a b rest out yes er/\bN B w' v out/\out.length<=100
 low:Below B w0 w'
def CoQ(l:World)(d:Nat)(e:List Tg)(f g:Nat)(j:List (Int×Lt))(i:Ending)(k:World):Prop:=∃b c a,i=.returned (.tuple #[b,.bool c,.int .i64 a])/\wR l d e f g j b c a k
theorem aJp(b:∀a∈R,a.2.2.length<=60):(bL R).length<=60*R.length:=by
 induction R with
 |nil=>simp [bL]
 |cons a R ih=>
  rw [zS];have e:=b a (by simp);have f:=ih (λd c=>b d (by simp [c]));simp;omega
theorem aXi{b:List (Lt×Value)}(a:(b.map λk=>k.2.ownBlock).Nodup):((b.map Prod.snd).filterMap Value.ownBlock).Nodup:=by rw [List.filterMap_map];unfold List.Nodup at a ⊢;rw [List.pairwise_map] at a;refine List.Pairwise.filterMap _ (λl m j c g n i d=>j ?_) a;subst d;have e:l.2.ownBlock=some c:=g;have f:m.2.ownBlock=some c:=i;rw [e,f]
theorem wS{b:List Lt}{m:Nat}(c:∀a∈b,a.2.length<=m):aS b<=m*b.length:=by
 induction b with
 |nil=>simp [aS]
 |cons a r ih=>
  have g:=c a (by simp);have i:=ih (λf e=>c f (by simp [e]));have d:aS (a::r)=a.2.length+aS r:=by simp [aS]
  rw [d,zp,Nat.mul_add];omega
structure qR(w0:World)(B tb mp:Nat)(M0:List Tg)(a b pb:Nat)(pc:Array Value)(R:List (Int×Lt))(v:Value)(wr:World):Prop where
 st:∃nb ls Q,nT w0 B tb mp M0 a b R v nb ls Q wr
 prem:wr.heap[pb]?=some (.cells pc 178)
theorem qR.below{j wr k:World}{B tb g:Nat}{d:List Tg}{e b c:Nat}{i:Array Value}{v:Value}(a:qR j B tb g d e b c i R v wr)(f:aB wr k):qR j B tb g d e b c i R v k:=by obtain ⟨o,n,l,m⟩:=a.st;exact ⟨⟨o,n,l,m.below f⟩,by rw [f.block c (zz.1 a.prem).1];exact a.prem⟩
theorem oV.at{nb:Option Nat}{w w':World}(i:oV nb w w'){k:Nat}{cs:Array Value}{T:TypeId}(b:w.heap[k]?=some (.cells cs T))(c:T≠3)(d:T≠191)(f:T≠43)(g:∀k,nb=some k->∃cs,w.heap[k]?=some (.cells cs 43)):w'.heap[k]?=some (.cells cs T):=by
 rw [i k cs T (0,0) b c d (λe=>by
  obtain ⟨j,a⟩:=g k e;rw [b] at a;simp at a;exact f a.2)]
 exact b
theorem aJq(C:World)(r Y a8:Nat)(k:List Tg)(L M I o2:Nat)(Q:Array Value)(b5:Nat->Option Addr)(d6:Nat->Nat)(b:List (List Lt×Nat))(k3:World)(d8:qR C r Y a8 k L M I Q [] (.slice none 0 0) k3)(o9:C.heap.size=r)
  (b9:∀a (d8:a<b.length),Q[a*2]?=some (.slice (b5 a) b[a].1.length (d6 a))/\Q[a*2+1]?=some (.int .i64 b[a].2)/\bP C (b5 a) b[a].1/\b[a].2<b[a].1.length/\b[a].1.length<=8/\∀e∈b[a].1,aN e.2 1=true/\e.2.length<=60) (d9:b.length<=2) (p1:k.length<=120):Calls Tryz.prog 127 #[.pointer (some ⟨Y,0,none⟩),.slice (some ⟨I,0,none⟩) b.length o2] k3 λf g6=>CoQ C r k L M (bE 0 b) f g6:=by
 have k7:=aA d8;have S:=aA b9;clear d8 b9;obtain ⟨n8,m4,m5,m6,m7⟩:=info_parts sK;go_enter Tryz.func127,Tryz.ntmps127;go_wp2;go_loopw [7,16] (λg5 n wr=>∃a:Nat,a<=b.length/\n=.int .i64 a/\qR C r Y a8 k L M I Q (bE 0 (b.take a)) g5 wr) (λ_ n _=>b.length-(intOf n).toNat);case atStart=>exact ⟨0,Nat.zero_le _,rfl,by simpa [bE] using k7.o⟩
 case round=>
  obtain ⟨a,i8,rfl,O⟩:=hrel;by_cases f3:a<b.length
  ·obtain ⟨j9,k0,k1,q5,q6,k2⟩:=S.o a f3;have p8:(a:Int)<(b.length:Int):=by omega
   have A:wr.cell? ⟨I,a*2,none⟩=some (.slice (b5 a) b[a].1.length (d6 a)):=by simp [zs,O.prem,j9]
   have E:wr.cell? ⟨I,a*2+1,none⟩=some (.int .i64 b[a].2):=by simp [zs,O.prem,k0]
   have l9:=aA O;have h2:=aA k1;have h8:=aA k2;have h7:=aA (aJl b 0 a f3);rw [Nat.zero_add] at h7;have l6:=aA (λd i6=>aXg f3 (j:=d) i6);generalize b[a].1=c at *;generalize b[a].2=out at *;clear O j9 k0 k1 k2;obtain ⟨b6,i0⟩ : ∃e,b5 a=e:=⟨_,rfl⟩;rw [i0] at A h2;obtain ⟨N,i5⟩ : ∃e,d6 a=e:=⟨_,rfl⟩;rw [i5] at A;clear i0 i5;go_wp2;clear A E;have i1:aB wr (wr.alloc (.cells #[.slice b6 c.length N,.int .i64 out] 178)):=(Below.refl _ _).alloc (zy _) _;have m0:=aA (l9.o.below i1);have i3:(wr.alloc (.cells #[.slice b6 c.length N,.int .i64 out] 178)).heap[wr.heap.size]?=some (.cells #[.slice b6 c.length N,.int .i64 out] 178):=by show (wr.heap.push _)[wr.heap.size]?=_;simp
   have k4:=aA i3;clear i1 i3;go_loopw [7,24] (λg5 n g=>∃d:Nat,d<=c.length/\n=.int .i64 d/\qR C r Y a8 k L M I Q (bE 0 (b.take a)++(iB c out d).map λs=>((a:Int),s)) g5 g/\g.heap[wr.heap.size]?=some (.cells #[.slice b6 c.length N,.int .i64 out] 178)) (λ_ n _=>c.length-(intOf n).toNat);case atStart=>exact ⟨0,Nat.zero_le _,rfl,by simpa [aXb] using m0.o,k4.o⟩
   case round=>
    obtain ⟨d,i6,rfl,F,B⟩:=hrel;rename World=>g
    by_cases e9:d<c.length
    ·have p5:(d:Int)<(c.length:Int):=by omega
     obtain ⟨o0,i,J,o⟩:=F.st;obtain ⟨d5,g4,y,z,rfl,A,d7,b7⟩:=h2.o.cell d e9;have E:=Below.at' o.low (by omega) A;have o8:=Below.at' o.low (by omega) d7;obtain ⟨q9,r0⟩ : g.cell? ⟨wr.heap.size,0,none⟩=some (.slice (some ⟨d5,g4,none⟩) c.length N)/\g.cell? ⟨wr.heap.size,1,none⟩=some (.int .i64 out):=⟨by simp [zs,B],by simp [zs,B]⟩;have n7:wr.heap.size<g.heap.size:=(zz.1 B).1;by_cases i7:d=out
     ·subst i7;have d4:=aA (F.below ((Below.refl g.heap.size g).alloc (zy _) (.cells #[.bool c[d].1,.slice y c[d].2.length z] 41)));have k5:aI ((g.alloc (.cells #[.bool c[d].1,.slice y c[d].2.length z] 41)).heap[wr.heap.size]?=some (.cells #[.slice (some ⟨d5,g4,none⟩) c.length N,.int .i64 d] 178)):=aA (by rw [((Below.refl g.heap.size g).alloc (zy _) _).block _ (zz.1 B).1];exact B);have l5:=aA (aJi e9);clear F B o A d7 b7;go_wp2;go_roundw;case rel=>exact ⟨d+1,by omega,by go_num,by rw [l5.o];exact d4.o,k5.o⟩
      case measure=>simp [intOf];omega
     ·have p6:¬((d:Int)=(out:Int)):=by omega
      obtain ⟨a9,q7⟩:=h8.o c[d] (List.getElem_mem _);have a3:∀x∈bE 0 (b.take a)++(iB c out d).map λs=>((a:Int),s),x.2.2.length<=60:=by
       intro x hr;rcases zu.1 hr with hr|hr
       ·obtain ⟨p,m,a5⟩:=wQ _ _ x hr;obtain ⟨n,v,rfl⟩:=zv (zr m);exact ((S.o n v).2.2.2.2.2 _ a5).2
       ·obtain ⟨s,f0,rfl⟩:=zm.1 hr;exact (h8.o s (zr (zq f0))).2
      have h9:(bE 0 (b.take a)++(iB c out d).map λs=>((a:Int),s)).length<=24:=by
       have V:=aJo (b.take a) 0 (λp m=>by
        obtain ⟨n,v,rfl⟩:=zv (zr m);exact (S.o n v).2.2.2.2.1)
       have d9:=aXf c out d;simp at V ⊢;omega
      have e3:bE 0 (b.take a)++(iB c out (d+1)).map (λs=>((a:Int),s))=(bE 0 (b.take a)++(iB c out d).map λs=>((a:Int),s))++[((a:Int),c[d])]:=by rw [aJj e9 i7,zn,zw];rfl
      obtain ⟨o3,c0⟩:=l6.o (d+1) (by omega);have l4:=aA e3;rw [e3] at c0;have l7:=aA c0;have l8:aI (∀x∈o3,aN x.2.2 1=true):=aA λx hr=>by
       obtain ⟨p,m,a5⟩:=wQ b 0 x (by rw [c0];exact zu.2 (Or.inr hr));obtain ⟨n,v,rfl⟩:=zv m;exact ((S.o n v).2.2.2.2.2 _ a5).1
      have f2:=aJp a3;clear e3 c0 a3;generalize bE 0 (b.take a)++(iB c out d).map (λs=>((a:Int),s))=R at *;have b8:(k++bL R).length<=2000:=by simp;omega
      have a4:aB g (g.alloc (.cells #[.bool c[d].1,.slice y c[d].2.length z] 41)):=(Below.refl _ _).alloc (zy _) _;have e4:=o.below a4;have i2:(g.alloc (.cells #[.bool c[d].1,.slice y c[d].2.length z] 41)).heap[g.heap.size]?=some (.cells #[.bool c[d].1,.slice y c[d].2.length z] 41):=by show (g.heap.push _)[g.heap.size]?=_;simp
      have i4:(g.alloc (.cells #[.bool c[d].1,.slice y c[d].2.length z] 41)).heap[wr.heap.size]?=some (.cells #[.slice (some ⟨d5,g4,none⟩) c.length N,.int .i64 out] 178):=by rw [a4.block _ n7];exact B
      have j4:(g.alloc (.cells #[.bool c[d].1,.slice y c[d].2.length z] 41)).heap[I]?=some (.cells Q 178):=by rw [a4.block _ (zz.1 F.prem).1];exact F.prem
      have q1:0<c[d].2.length:=by
       cases hc0:c[d].2 with
       |nil=>rw [hc0] at a9;simp [aN] at a9
       |cons=>simp
      have c5:=aA (aX9 e4.con (a:Int) y z c[d].2 ((b7.below o.low (by omega)).below a4 (zy _)) a9 (λo1 b9=>by have:=wV b7 a9 o1 b9;omega) (by omega) (by omega));have D:=aA e4;have c8:=aA (zt i2 (zt i4 j4));have q0:(g.alloc (.cells #[.bool c[d].1,.slice y c[d].2.length z] 41)).heap.size=g.heap.size+1:=by simp
      clear F B o A d7 b7 e4 a4 i2 i4 j4 a9;generalize c[d]=e at *;have n3:(k++bL R++aW (a:Int) e.2).length=(k++bL R).length+e.2.length:=by rw [zx,List.length_map]
      have f4:(k++bL R).length<(k++bL R++aW (a:Int) e.2).length:=by omega
      have j0:(k++bL R++aW (a:Int) e.2).length<=1000000:=by omega
      obtain ⟨b4,e2⟩ : ∃b4,(k++bL R).length=b4:=⟨_,rfl⟩;rw [e2] at c5 f4;have h3:=aA (zt f4 j0);have h5:=aA e2;clear n3 f4 j0 b8 f2 e2;go_upto_region 10 with (first
       |(go_at_call 151;refine (aC g8).mono ?_;rintro f l ⟨q8,o5,rfl,G,q4,j6,H,j7,j2⟩;have c9:=aA G;have a1:=aA j6;have m1:=aA j7;have l0:=aA j2;clear G j6 j7 j2)
       |(go_at_call 126;refine (aC c5).mono ?_;rintro f q ⟨rfl,t,e8,e7,j1,a7⟩;have b1:=aA (D.o.add e7 j1 a7);have d0:=aA (zt (a7.at c8.o.1 (by decide) (by decide) (by decide) (λ_ f=>D.o.con.nbT f)) (zt (a7.at c8.o.2.1 (by decide) (by decide) (by decide) (λ_ f=>D.o.con.nbT f)) (a7.at c8.o.2.2 (by decide) (by decide) (by decide) (λ_ f=>D.o.con.nbT f))));have q2:=e7.size;have Z:=aA e8;have g8:=aA (aXa e8 b4 h3.o.1 h3.o.2);clear e7 j1 a7 e8)
       |go_in)
      have c1:=zt (a1.o.at d0.o.1 (by decide) (by decide) (by decide) (λ_ f=>Z.o.nbT f)) (zt (a1.o.at d0.o.2.1 (by decide) (by decide) (by decide) (λ_ f=>Z.o.nbT f)) (a1.o.at d0.o.2.2 (by decide) (by decide) (by decide) (λ_ f=>Z.o.nbT f)));obtain ⟨r1,r2⟩ : l.cell? ⟨g.heap.size,0,none⟩=some (.bool e.1)/\l.cell? ⟨g.heap.size,1,none⟩=some (.slice y e.2.length z):=⟨by simp [zs,c1.1],by simp [zs,c1.1]⟩;have h0:=aA c1;clear c1 g8 c5;cases o5 with
      |false=>
       obtain ⟨g2,j8,X⟩:=l0.o rfl;subst g2;have W:=X.pure;have A:k++bL R++aW (a:Int) e.2=k++bL (R++[((a:Int),e)]):=by rw [aJm,<-zw]
       have E:eG k.length R++[b4]=eG k.length (R++[((a:Int),e)]):=by rw [aJn,<-h5.o,zx]
       rw [A,E] at W;have k9:aI (jG k L M (bE 0 b) [] false 4):=aA (by rw [l7.o];exact aXh W l8.o (zu.2 (Or.inr (List.mem_singleton.2 rfl))) j8);have d1:=aA (b1.o.2.trans c9.o);clear X W A E;go_wp2;go_returns;exact ⟨_,_,_,rfl,⟨⟨[],k9.o,bN.nil _ _,by simp⟩,d1.o⟩⟩
      |true=>
       obtain ⟨g2,j8,X,c2⟩:=m1.o rfl;rw [<-h5.o] at c2;obtain ⟨T,U,rfl⟩:=aY X;have f8:l.ownsRow r 41 2 u7 J.length (bC J):=a1.o.row b1.o.1.1 (by decide) (by decide) (λa i8 f=>by
        obtain ⟨a2,m9⟩:=Z.o.nbT f;exact dZ b1.o.1.1 m9 (by decide) i8)
       have p2:J.length<=24:=by have V:=congrArg List.length D.o.made;have d9:=D.o.len;simp [cW] at V;omega
       obtain ⟨c3,c4,n6⟩:=aY f8;subst n6;have h6:=aA f8;have p0:r<=l.heap.size:=c2.big;have l1:=aA X;have l2:=aA c2;clear f8 X c2;generalize hql:J.length=ql at *;have l3:=aA hql;clear hql;go_wp2_with (first
        |(at_builtin;refine wpList_append_own _ rfl (.tmp 45) (.tmp 50) 29 rfl r 41 n8 (.agg #[.bool false,.slice none 0 0]) 2 32 Tryz.underlying29 m4 m5 m6 m7 rfl (by decide) _ _ _ rfl (h6.o.alloc _) ⟨_,0,none⟩ 1 1 [.bool e.1,.slice T H.length U] rfl rfl (kH l _ _ _ _ rfl) (sL _ _ _ _) (by unfold maxLen;omega) (by omega) (by simp;omega) ?_;intro o4 g7 a6 P _;have a0:=aA a6;have k6:=aA P;clear a6 P)
        |go_in)
       have q3:=c9.o.size;have e1:aB l (l.alloc (.cells #[.bool e.1,.slice T H.length U] 41)):=(Below.refl _ _).alloc (zy _) _;have j5:(l.alloc (.cells #[.bool e.1,.slice T H.length U] 41)).ownsRow r 41 2 (.slice c3 ql c4) ql (bC J):=bF h6.o e1 (zy _);have P:(l.alloc (.cells #[.bool e.1,.slice T H.length U] 41)).grownBy g7 (Value.slice c3 ql c4).ownBlock:=k6.o;have g1:∀{p:Nat} {a2:Array Value},l.heap[p]?=some (.cells a2 178)->g7.heap[p]?=some (.cells a2 178):=by
        intro p a2 m;have f7:(l.alloc (.cells #[.bool e.1,.slice T H.length U] 41)).heap[p]?=some (.cells a2 178):=by rw [e1.block p (zz.1 m).1];exact m
        rw [P.block p (zz.1 f7).1 (λf=>dZ j5 f7 (by decide) f.symm)];exact f7
       have k8:aI (nT C r Y a8 k L M (R++[((a:Int),e)]) o4 t (i++[H]) (J++[((e.1,H),.slice T H.length U)]) g7):=aA (by
        have n2:=D.o.len;have n4:=D.o.made;have e5:=b1.o;have a6:=a0.o;rw [<-l3.o] at e5 a6 P;exact nT.put (x:=e) n2 n4 e5.1 e5.2 Z.o l2.o c9.o a1.o g2 l1.o a6 P)
       have h1:=aA (zt (g1 h0.o.2.1) (g1 h0.o.2.2));clear e1 j5 P g1;go_roundw;case rel=>exact ⟨d+1,by omega,by go_num,⟨⟨_,_,_,by rw [l4.o];exact k8.o⟩,h1.o.2⟩,h1.o.1⟩
       case measure=>simp [intOf];omega
    ·have n0:d=c.length:=by omega
     subst n0;have p4:¬((c.length:Int)<(c.length:Int)):=by omega
     have d4:aI (qR C r Y a8 k L M I Q (bE 0 (b.take (a+1))) u7 g):=aA (by rw [h7.o,<-aJk];exact F);clear F B;go_wp2;go_roundw;case rel=>exact ⟨a+1,by omega,by go_num,d4.o⟩
     case measure=>simp [intOf];omega
  ·have n1:a=b.length:=by omega
   subst n1;have p7:¬((b.length:Int)<(b.length:Int)):=by omega
   rw [List.take_length] at O;obtain ⟨o0,i,J,o⟩:=O.st;have a3:∀x∈bE 0 b,x.2.2.length<=60:=by intro x hr;obtain ⟨p,m,a5⟩:=wQ _ _ x hr;obtain ⟨n,v,rfl⟩:=zv m;exact ((S.o n v).2.2.2.2.2 _ a5).2
   have h9:=aJo b 0 (λp m=>by
    obtain ⟨n,v,rfl⟩:=zv m;exact (S.o n v).2.2.2.2.1)
   have f2:=aJp a3;have b8:(k++bL (bE 0 b)).length<=1000000:=by simp;omega
   have f6:=o.con.nodes b8;have W:=o.con.pure.out;have p3:(cW (bE 0 b) i).length<=16:=by simp [cW];omega
   have f5:∀e∈cW (bE 0 b) i,e.2∈i:=by intro e w;unfold cW at w;rw [List.mem_iff_getElem] at w;obtain ⟨n,v,rfl⟩:=w;simp at v ⊢
   have e0:∀e∈cW (bE 0 b) i,e.2.length<=500:=by intro e w;rw [<-o.made] at w;obtain ⟨p,m,rfl⟩:=zm.1 w;exact (o.atoms p m).2.1
   have m8:=wS e0;have f9:tB (cW (bE 0 b) i):=λe w=>⟨by have:=e0 e w;omega,(f6 e.2 (f5 e w)).2⟩
   obtain ⟨c3,c4,rfl,i9⟩:=aI1 o.made o.row (λp m=>(o.atoms p m).1) (by omega) f9;have g9:=aA (aG6 c3 c4 (cW (bE 0 b) i) wr i9 (λe w=>(f6 e.2 (f5 e w)).1) (by omega) (by omega));have p9:(aT (cW (bE 0 b) i)).length<=16:=by have V:=(rF (cW (bE 0 b) i)).1;have d9:=(rG (bV (cW (bE 0 b) i))).1;unfold aT;omega
   have j3:tB (aT (cW (bE 0 b) i)):=f9.ord;have d3:=aA W;have d1:=aA o.low;have b2:=aA o.con.big;have c6:=aA (λ(q:World) (b0:Value) (t:Nat) (u:List (Lt×Value)) (j:uF wr (cW (bE 0 b) i) b0 t u q)=>(show Calls Tryz.prog 62 #[.slice (some ⟨t,0,none⟩) (aT (cW (bE 0 b) i)).length (aT (cW (bE 0 b) i)).length] q λf g6=>f=.returned (.int .i64 (aS (aT (cW (bE 0 b) i))))/\aB q g6 from by
    have f1:u.length=(aT (cW (bE 0 b) i)).length:=by rw [<-j.made];simp
    obtain ⟨o6,o7,E,f0⟩:=aI1 j.made (by have:=j.row;rw [<-f1] at this;exact this) j.atoms (by omega) j3;simp at E;obtain ⟨rfl,_⟩:=E;exact aBs _ _ _ q f0 (by omega)))
   have h4:=aA (λ(q l:World) (b0:Value) (t:Nat) (u:List (Lt×Value)) (j:uF wr (cW (bE 0 b) i) b0 t u q) (e6:aB q l)=>(show bN r l (.slice (some ⟨t,0,none⟩) (aT (cW (bE 0 b) i)).length (aT (cW (bE 0 b) i)).length) (aT (cW (bE 0 b) i))/\Below r C l from by
    have f1:u.length=(aT (cW (bE 0 b) i)).length:=by rw [<-j.made];simp
    refine ⟨⟨u,j.made,?_,λp m=>gS (bF (j.atoms p m) e6 (zy _)) b2.o,aXi j.once⟩,(d1.o.trans (j.low.mono b2.o)).trans (e6.mono (Nat.le_trans b2.o j.low.size))⟩;have V:=gS (bF j.row e6 (zy _)) b2.o;rw [f1];exact V))
   clear O o W f6 f5 e0 f9 i9 m8 j3 b8 f2 a3 h9;generalize cW (bE 0 b) i=cc at *;obtain ⟨g3,n5⟩ : ∃n9,aS (aT cc)=n9:=⟨_,rfl⟩;rw [n5] at c6 d3;by_cases m2:500<g3
   ·have m3:(500:Int)<(g3:Int):=by omega
    have a0:=aA (d3.o.1 m2);go_wp2_with (first
     |(go_at_call 32;refine (aC g9).mono ?_;rintro f q ⟨b0,t,u,rfl,j⟩;have g0:=j.val;subst g0;have d2:=aA j;have c7:=aA (c6.o q _ t u j);clear j)
     |(go_at_call 62;refine (aC c7).mono ?_;rintro f l ⟨rfl,G⟩;have b3:=aA (h4.o q l _ t u d2.o G);clear G)
     |go_in)
    go_returns;exact ⟨_,_,_,rfl,⟨⟨[],a0.o,bN.nil _ _,by simp⟩,b3.o.2⟩⟩
   ·have m3:¬((500:Int)<(g3:Int)):=by omega
    have a0:=aA (d3.o.2 (by omega));go_wp2_with (first
     |(go_at_call 32;refine (aC g9).mono ?_;rintro f q ⟨b0,t,u,rfl,j⟩;have g0:=j.val;subst g0;have d2:=aA j;have c7:=aA (c6.o q _ t u j);clear j)
     |(go_at_call 62;refine (aC c7).mono ?_;rintro f l ⟨rfl,G⟩;have b3:=aA (h4.o q l _ t u d2.o G);clear G)
     |go_in)
    go_returns;exact ⟨_,_,_,rfl,⟨⟨_,a0.o,b3.o.1,by omega⟩,b3.o.2⟩⟩
