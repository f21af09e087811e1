import Derived.Test.YtmelidkanelpbaaGreatDoorUWrH
import Derived.Test.YtmelidkanelpbaaGreatDoorVClMH
import Derived.Handy
open And renaming intro→zt
open Array renaming getElem?_eq_some_iff→zz
open List renaming length_append→zx,append_assoc→zw,getElem_of_mem→zv,mem_append→zu,mem_of_mem_take→zr,mem_of_mem_eraseIdx→zq,length_cons→zp,length_eraseIdx_le→zo,map_append→zn,mem_map→zm,cons_append→zl
open Nat renaming le_refl→zy
namespace Go.Proofs.YtmelidkanelpbaaGreatDoor
open World renaming cell?→zs
open Go.RowKit Go.Shelf Go.WideMaps
set_option maxHeartbeats 8000000
set_option maxRecDepth 100000
variable{R:List (Int×Lt)}
theorem pZ.row{e:Option Nat}{w w':World}(t:pZ e w w'){B:Nat}{a:TypeId}{s n:Nat}{v:Value}{f:List Value}(q:w.ownsRow B a s v n f)(j:a≠3)(l:a≠165)(p:∀k,v.ownBlock=some k->e≠some k):w'.ownsRow B a s v n f:=by
 obtain ⟨c,⟨rfl,m⟩|⟨g,i,b,rfl,o,d,r⟩⟩:=q
 ·exact ⟨c,Or.inl ⟨rfl,m⟩⟩
 ·exact ⟨c,Or.inr ⟨g,i,b,rfl,o,by rw [t g b a (0,0) d j l (p g rfl)];exact d,r⟩⟩
structure pB(w0:World)(B tb mp:Nat)(M0:List Tg)(a b:Nat)(R:List (Int×Lt))(v:Value)(nb:Option Nat)(ls:List (List Nd))(Q:List (Lt×Value))(wr:World):Prop where
 con:iE B tb mp nb (M0++aW R) a b (cS M0.length R) ls wr
 len:R.length=ls.length
 made:Q.map Prod.fst=bS R ls
 row:wr.ownsRow B 86 2 v Q.length (bF Q)
 atoms:∀q∈Q,yE wr B q.2 q.1.2/\q.1.2.length<=500/\∀k,q.2.ownBlock=some k->nb≠some k
 low:Below B w0 wr
section
variable {w0 wr wb w2 w3 w5:World}{B tb mp:Nat}{M0:List Tg}{a b:Nat}{R:List (Int×Lt)}{v v3 v5:Value}{nb nb':Option Nat}{ls:List (List Nd)}{Q:List (Lt×Value)}{o:Int}{x:Lt}{l:List Nd}
theorem pB.below(c:pB w0 B tb mp M0 a b R v nb ls Q wr)(d:aB wr wb):pB w0 B tb mp M0 a b R v nb ls Q wb:=
 ⟨c.con.below d,c.len,c.made,bG c.row d (zy _),λf e=>⟨bG (c.atoms f e).1 d (zy _),(c.atoms f e).2⟩,c.low.trans (d.mono c.con.big)⟩
theorem pB.rows(c:pB w0 B tb mp M0 a b R v nb ls Q wr)(f:pZ nb wr w2):w2.ownsRow B 86 2 v Q.length (bF Q)/\∀d∈Q,yE w2 B d.2 d.1.2:=by refine ⟨f.row c.row (by decide) (by decide) (λm j g=>?_),λd e=>f.row (c.atoms d e).1 (by decide) (by decide) (c.atoms d e).2.2⟩;obtain ⟨k,i⟩:=c.con.nbT g;exact dZ c.row i (by decide) j
theorem pB.add(d:pB w0 B tb mp M0 a b R v nb ls Q wr)(m:Below B wr w2)(n:aMt wr nb nb')(p:pZ nb wr w2):(w2.ownsRow B 86 2 v Q.length (bF Q)/\∀c∈Q,yE w2 B c.2 c.1.2/\c.1.2.length<=500/\∀e,c.2.ownBlock=some e->nb'≠some e)/\Below B w0 w2:=by
 obtain ⟨q,r⟩:=d.rows p;refine ⟨⟨q,λc f=>⟨r c f,(d.atoms c f).2.1,λe k i=>?_⟩⟩,d.low.trans m⟩;rcases n with j|⟨g,j,s⟩
 ·exact (d.atoms c f).2.2 e k (by rw [<-j,i])
 ·rw [j] at i;simp at i;have:=(cU (d.atoms c f).1 e k).2;omega
theorem pB.put(w:R.length=ls.length)(M:Q.map Prod.fst=bS R ls)(f:w2.ownsRow B 86 2 v Q.length (bF Q)/\∀c∈Q,yE w2 B c.2 c.1.2/\c.1.2.length<=500/\∀k,c.2.ownBlock=some k->nb≠some k)(L:Below B w0 w2)(m:iE B tb mp nb (M0++aW R++aN o x.2) a b (cS M0.length R) ls w2)
  (j:iE B tb mp nb (M0++aW R++aN o x.2) a b (cS M0.length R++[(M0++aW R).length]) (ls++[l]) w3) (J:Below B w2 w3) (y:pZ nb w2 w3) (F:l.length<=500) (t:w3.ownsRow w2.heap.size 117 2 v3 l.length (bB l))
  {i:Obj} (E:w5.ownsRow B 86 2 v5 (Q.length+1) (bF Q++[.bool x.1,v3])) (p:(w3.alloc i).grownBy w5 v.ownBlock):pB w0 B tb mp M0 a b (R++[(o,x)]) v5 nb (ls++[l]) (Q++[((x.1,l),v3)]) w5:=by
 have I:=m.big;have e:aB w3 (w3.alloc i):=(Below.refl _ _).alloc (zy _) i;have N:w3.ownsRow B 86 2 v Q.length (bF Q):=y.row f.1 (by decide) (by decide) (λk q d=>by
  obtain ⟨z,n⟩:=m.nbT d;exact dZ f.1 n (by decide) q)
 have r:=bG N e (zy _);have u:∀{c:Value} {g:List Nd} {s:Nat},w3.ownsRow s 117 2 c g.length (bB g)->w5.ownsRow s 117 2 c g.length (bB g):=λhq=>dQ (bG hq e (zy _)) p (gE (bG hq e (zy _)) r (by decide))
 have A:M0++aW (R++[(o,x)])=M0++aW R++aN o x.2:=by rw [aMy,<-zw]
 have C:cS M0.length (R++[(o,x)])=cS M0.length R++[(M0++aW R).length]:=by rw [aMz,zx]
 refine ⟨by rw [A,C];exact (j.below e).lits r p,by simp [w],?_,?_,?_,?_⟩
 ·rw [zn,M,bBr R ls w];rfl
 ·have D:bF (Q++[((x.1,l),v3)])=bF Q++[.bool x.1,v3]:=by simp [bF]
  rw [D,zx];exact E
 ·intro c hq;rcases zu.1 hq with hq|hq
  ·exact ⟨u (y.row (f.2 c hq).1 (by decide) (by decide) (f.2 c hq).2.2),(f.2 c hq).2⟩
  ·simp at hq;subst hq;refine ⟨iP (u t) I,F,λk q d=>?_⟩;obtain ⟨z,n⟩:=m.nbT d;have O:=(zz.1 n).1;have P:=(cU t k q).1;omega
 ·have G:=L.trans J;have H:=G.trans (e.mono j.big);exact H.grown p (by have:=j.big;simp;omega) (λk d=>(cU r k d).1)
end
theorem bBz{c:List Lt}{out:Nat}:∀(b a:Nat),a+b<=c.length->∃d,iV c out (a+b)=iV c out a++d:=by
 intro b;induction b with
 |zero=>intro a _;exact ⟨[],by simp⟩
 |succ b ih=>
  intro a g;obtain ⟨d,f⟩:=ih a (by omega);by_cases e:a+b=out
  ·refine ⟨d,?_⟩;rw [<-f,show a+(b+1)=a+b+1 by omega,e];exact aMu (by omega)
  ·refine ⟨d++[c[a+b]'(by omega)],?_⟩;rw [show a+(b+1)=a+b+1 by omega,aMv (by omega) e,f,zw]
theorem bC0:∀(a c:List (List Lt×Nat)) (b:Nat),aZ b (a++c)=aZ b a++aZ (b+a.length) c:=by
 intro a;induction a with
 |nil=>intro c b;simp [aZ]
 |cons x a ih=>
  intro c b;simp only [zl,aZ,ih,zw,zp];rw [show b+1+a.length=b+(a.length+1) by omega]
theorem sD:∀(a:List (List Lt×Nat)) (c:Nat) (b:Int×Lt),b∈aZ c a->∃d∈a,b.2∈d.1:=by
 intro a;induction a with
 |nil=>intro c b h;simp [aZ] at h
 |cons d a ih=>
  intro c b h;rcases zu.1 h with h|h
  ·obtain ⟨j,e,rfl⟩:=zm.1 h;exact ⟨d,by simp,zq e⟩
  ·obtain ⟨i,f,g⟩:=ih _ b h;exact ⟨i,by simp [f],g⟩
theorem aBr:∀(a:List (List Lt×Nat)) (c:Nat),(∀b∈a,b.1.length<=8)->(aZ c a).length<=8*a.length:=by
 intro a;induction a with
 |nil=>intro c _;simp [aZ]
 |cons b a ih=>
  intro c d;have g:=d b (by simp);have i:=ih (c+1) (λf e=>d f (by simp [e]));have j:=zo b.1 b.2;simp only [aZ,zx,List.length_map,zp];omega
theorem bC1(c:List Lt)(out a:Nat):(iV c out a).length<=a:=by unfold iV;have:=zo (c.take a) out;simp at this;omega
theorem bC2{b:List (List Lt×Nat)}{a:Nat}(k:a<b.length){j:Nat}(l:j<=b[a].1.length):∃e,aZ 0 b=(aZ 0 (b.take a)++(iV b[a].1 b[a].2 j).map λd=>((a:Int),d))++e:=by obtain ⟨e,i⟩:=bBz (c:=b[a].1) (out:=b[a].2) (b[a].1.length-j) j (by omega);rw [show j+(b[a].1.length-j)=b[a].1.length by omega,aMw] at i;have f:=aMx b 0 a k;rw [Nat.zero_add] at f;have g:=bC0 (b.take (a+1)) (b.drop (a+1)) 0;rw [List.take_append_drop] at g;refine ⟨(e.map λd=>((a:Int),d))++aZ (0+(b.take (a+1)).length) (b.drop (a+1)),?_⟩;rw [g,f,i,zn];simp only [zw]
theorem bC3{b:List Tg}{g i:Nat}{a:List (Int×Lt)}{d:List (List Nd)}(n:qC (b++aW R) g i (cS b.length R) d)(t:∀k∈a,aQ k.2.2 1=true){f:List Nd}(q:f∈d)(p:500<f.length):dU b g i (R++a) [] false 4:=by
 obtain ⟨j,e⟩:=qC.all a n t;have l:b++aW R++aW a=b++aW (R++a):=by simp [aW]
 have m:cS b.length R++cS (b++aW R).length a=cS b.length (R++a):=by
  have u:∀(R a:List (Int×Lt)) (c:Nat),cS c R++cS (c+(aW R).length) a=cS c (R++a):=by
   intro R;induction R with
   |nil=>intro a c;simp [cS,aW]
   |cons k R ih=>
    intro a c;simp only [zl,cS];rw [<-ih,aBt];simp [Nat.add_assoc]
  rw [zx];exact u R a b.length
 rw [l,m] at e;have r:(R++a).length=(d++j).length:=by obtain ⟨_,_,_,_,_,_,o,_⟩:=e;have:=o.length;rw [aN7] at this;exact this
 obtain ⟨v,s⟩:=aNa (R++a) (d++j) r f (zu.2 (Or.inl q));exact e.out.1 (bCh s p)
structure zB(w0:World)(B:Nat)(M0:List Tg)(a b:Nat)(rest:List (Int×Lt))(v:Value)(yes:Bool)(er:Int)(w':World):Prop where
 out:∃out,dU M0 a b rest out yes er/\bR B w' v out/\out.length<=100
 low:Below B w0 w'
def CoQ(l:World)(d:Nat)(e:List Tg)(f g:Nat)(j:List (Int×Lt))(i:Ending)(k:World):Prop:=∃b c a,i=.returned (.tuple #[b,.bool c,.int .i64 a])/\zB l d e f g j b c a k
theorem aN5(b:∀a∈R,a.2.2.length<=60):(aW R).length<=60*R.length:=by
 induction R with
 |nil=>simp [aW]
 |cons a R ih=>
  rw [aBt];have e:=b a (by simp);have f:=ih (λd c=>b d (by simp [c]));simp;omega
theorem bC4{b:List (Lt×Value)}(a:(b.map λk=>k.2.ownBlock).Nodup):((b.map Prod.snd).filterMap Value.ownBlock).Nodup:=by rw [List.filterMap_map];unfold List.Nodup at a ⊢;rw [List.pairwise_map] at a;refine List.Pairwise.filterMap _ (λl m j c g n i d=>j ?_) a;subst d;have e:l.2.ownBlock=some c:=g;have f:m.2.ownBlock=some c:=i;rw [e,f]
theorem zC{b:List Lt}{m:Nat}(c:∀a∈b,a.2.length<=m):aR b<=m*b.length:=by
 induction b with
 |nil=>simp [aR]
 |cons a r ih=>
  have g:=c a (by simp);have i:=ih (λf e=>c f (by simp [e]));have d:aR (a::r)=a.2.length+aR r:=by simp [aR]
  rw [d,zp,Nat.mul_add];omega
structure sE(w0:World)(B tb mp:Nat)(M0:List Tg)(a b pb:Nat)(pc:Array Value)(R:List (Int×Lt))(v:Value)(wr:World):Prop where
 st:∃nb ls Q,pB w0 B tb mp M0 a b R v nb ls Q wr
 prem:wr.heap[pb]?=some (.cells pc 158)
theorem sE.below{j wr k:World}{B tb g:Nat}{c:List Tg}{d e b:Nat}{i:Array Value}{v:Value}(a:sE j B tb g c d e b i R v wr)(f:aB wr k):sE j B tb g c d e b i R v k:=by obtain ⟨o,n,l,m⟩:=a.st;exact ⟨⟨o,n,l,m.below f⟩,by rw [f.block b (zz.1 a.prem).1];exact a.prem⟩
theorem pZ.at{nb:Option Nat}{w w':World}(i:pZ nb w w'){k:Nat}{cs:Array Value}{T:TypeId}(b:w.heap[k]?=some (.cells cs T))(c:T≠3)(d:T≠165)(f:T≠117)(g:∀k,nb=some k->∃cs,w.heap[k]?=some (.cells cs 117)):w'.heap[k]?=some (.cells cs T):=by
 rw [i k cs T (0,0) b c d (λe=>by
  obtain ⟨j,a⟩:=g k e;rw [b] at a;simp at a;exact f a.2)]
 exact b
theorem aN6(C:World)(r Y a8:Nat)(k:List Tg)(L M I o2:Nat)(Q:Array Value)(b5:Nat->Option Addr)(d6:Nat->Nat)(b:List (List Lt×Nat))(k3:World)(d8:sE C r Y a8 k L M I Q [] (.slice none 0 0) k3)(o9:C.heap.size=r)
  (b9:∀a (d8:a<b.length),Q[a*2]?=some (.slice (b5 a) b[a].1.length (d6 a))/\Q[a*2+1]?=some (.int .i64 b[a].2)/\cH C (b5 a) b[a].1/\b[a].2<b[a].1.length/\b[a].1.length<=8/\∀e∈b[a].1,aQ e.2 1=true/\e.2.length<=60) (d9:b.length<=2) (p1:k.length<=120):Calls Tryz.prog 106 #[.pointer (some ⟨Y,0,none⟩),.slice (some ⟨I,0,none⟩) b.length o2] k3 λf g6=>CoQ C r k L M (aZ 0 b) f g6:=by
 have k7:=aA d8;have S:=aA b9;clear d8 b9;obtain ⟨n8,m4,m5,m6,m7⟩:=info_parts tZ;go_enter Tryz.func106,Tryz.ntmps106;go_wp2;go_loopw [7,16] (λg5 n wr=>∃a:Nat,a<=b.length/\n=.int .i64 a/\sE C r Y a8 k L M I Q (aZ 0 (b.take a)) g5 wr) (λ_ n _=>b.length-(intOf n).toNat);case atStart=>exact ⟨0,Nat.zero_le _,rfl,by simpa [aZ] using k7.o⟩
 case round=>
  obtain ⟨a,i8,rfl,O⟩:=hrel;by_cases f3:a<b.length
  ·obtain ⟨j9,k0,k1,q5,q6,k2⟩:=S.o a f3;have p8:(a:Int)<(b.length:Int):=by omega
   have A:wr.cell? ⟨I,a*2,none⟩=some (.slice (b5 a) b[a].1.length (d6 a)):=by simp [zs,O.prem,j9]
   have E:wr.cell? ⟨I,a*2+1,none⟩=some (.int .i64 b[a].2):=by simp [zs,O.prem,k0]
   have l9:=aA O;have h2:=aA k1;have h8:=aA k2;have h7:=aA (aMx b 0 a f3);rw [Nat.zero_add] at h7;have l6:=aA (λd i6=>bC2 f3 (j:=d) i6);generalize b[a].1=c at *;generalize b[a].2=out at *;clear O j9 k0 k1 k2;obtain ⟨b6,i0⟩ : ∃e,b5 a=e:=⟨_,rfl⟩;rw [i0] at A h2;obtain ⟨N,i5⟩ : ∃e,d6 a=e:=⟨_,rfl⟩;rw [i5] at A;clear i0 i5;go_wp2;clear A E;have i1:aB wr (wr.alloc (.cells #[.slice b6 c.length N,.int .i64 out] 158)):=(Below.refl _ _).alloc (zy _) _;have m0:=aA (l9.o.below i1);have i3:(wr.alloc (.cells #[.slice b6 c.length N,.int .i64 out] 158)).heap[wr.heap.size]?=some (.cells #[.slice b6 c.length N,.int .i64 out] 158):=by show (wr.heap.push _)[wr.heap.size]?=_;simp
   have k4:=aA i3;clear i1 i3;go_loopw [7,24] (λg5 n g=>∃d:Nat,d<=c.length/\n=.int .i64 d/\sE C r Y a8 k L M I Q (aZ 0 (b.take a)++(iV c out d).map λs=>((a:Int),s)) g5 g/\g.heap[wr.heap.size]?=some (.cells #[.slice b6 c.length N,.int .i64 out] 158)) (λ_ n _=>c.length-(intOf n).toNat);case atStart=>exact ⟨0,Nat.zero_le _,rfl,by simpa [bBq] using m0.o,k4.o⟩
   case round=>
    obtain ⟨d,i6,rfl,F,B⟩:=hrel;rename World=>g
    by_cases e9:d<c.length
    ·have p5:(d:Int)<(c.length:Int):=by omega
     obtain ⟨o0,i,J,o⟩:=F.st;obtain ⟨d5,g4,y,z,rfl,A,d7,b7⟩:=h2.o.cell d e9;have E:=Below.at' o.low (by omega) A;have o8:=Below.at' o.low (by omega) d7;obtain ⟨q9,r0⟩ : g.cell? ⟨wr.heap.size,0,none⟩=some (.slice (some ⟨d5,g4,none⟩) c.length N)/\g.cell? ⟨wr.heap.size,1,none⟩=some (.int .i64 out):=⟨by simp [zs,B],by simp [zs,B]⟩;have n7:wr.heap.size<g.heap.size:=(zz.1 B).1;by_cases i7:d=out
     ·subst i7;have d4:=aA (F.below ((Below.refl g.heap.size g).alloc (zy _) (.cells #[.bool c[d].1,.slice y c[d].2.length z] 86)));have k5:aM ((g.alloc (.cells #[.bool c[d].1,.slice y c[d].2.length z] 86)).heap[wr.heap.size]?=some (.cells #[.slice (some ⟨d5,g4,none⟩) c.length N,.int .i64 d] 158)):=aA (by rw [((Below.refl g.heap.size g).alloc (zy _) _).block _ (zz.1 B).1];exact B);have l5:=aA (aMu e9);clear F B o A d7 b7;go_wp2;go_roundw;case rel=>exact ⟨d+1,by omega,by go_num,by rw [l5.o];exact d4.o,k5.o⟩
      case measure=>simp [intOf];omega
     ·have p6:¬((d:Int)=(out:Int)):=by omega
      obtain ⟨a9,q7⟩:=h8.o c[d] (List.getElem_mem _);have a3:∀x∈aZ 0 (b.take a)++(iV c out d).map λs=>((a:Int),s),x.2.2.length<=60:=by
       intro x hr;rcases zu.1 hr with hr|hr
       ·obtain ⟨p,m,a5⟩:=sD _ _ x hr;obtain ⟨n,v,rfl⟩:=zv (zr m);exact ((S.o n v).2.2.2.2.2 _ a5).2
       ·obtain ⟨s,f0,rfl⟩:=zm.1 hr;exact (h8.o s (zr (zq f0))).2
      have h9:(aZ 0 (b.take a)++(iV c out d).map λs=>((a:Int),s)).length<=24:=by
       have V:=aBr (b.take a) 0 (λp m=>by
        obtain ⟨n,v,rfl⟩:=zv (zr m);exact (S.o n v).2.2.2.2.1)
       have d9:=bC1 c out d;simp at V ⊢;omega
      have e3:aZ 0 (b.take a)++(iV c out (d+1)).map (λs=>((a:Int),s))=(aZ 0 (b.take a)++(iV c out d).map λs=>((a:Int),s))++[((a:Int),c[d])]:=by rw [aMv e9 i7,zn,zw];rfl
      obtain ⟨o3,c0⟩:=l6.o (d+1) (by omega);have l4:=aA e3;rw [e3] at c0;have l7:=aA c0;have l8:aM (∀x∈o3,aQ x.2.2 1=true):=aA λx hr=>by
       obtain ⟨p,m,a5⟩:=sD b 0 x (by rw [c0];exact zu.2 (Or.inr hr));obtain ⟨n,v,rfl⟩:=zv m;exact ((S.o n v).2.2.2.2.2 _ a5).1
      have f2:=aN5 a3;clear e3 c0 a3;generalize aZ 0 (b.take a)++(iV c out d).map (λs=>((a:Int),s))=R at *;have b8:(k++aW R).length<=2000:=by simp;omega
      have a4:aB g (g.alloc (.cells #[.bool c[d].1,.slice y c[d].2.length z] 86)):=(Below.refl _ _).alloc (zy _) _;have e4:=o.below a4;have i2:(g.alloc (.cells #[.bool c[d].1,.slice y c[d].2.length z] 86)).heap[g.heap.size]?=some (.cells #[.bool c[d].1,.slice y c[d].2.length z] 86):=by show (g.heap.push _)[g.heap.size]?=_;simp
      have i4:(g.alloc (.cells #[.bool c[d].1,.slice y c[d].2.length z] 86)).heap[wr.heap.size]?=some (.cells #[.slice (some ⟨d5,g4,none⟩) c.length N,.int .i64 out] 158):=by rw [a4.block _ n7];exact B
      have j4:(g.alloc (.cells #[.bool c[d].1,.slice y c[d].2.length z] 86)).heap[I]?=some (.cells Q 158):=by rw [a4.block _ (zz.1 F.prem).1];exact F.prem
      have q1:0<c[d].2.length:=by
       cases hc0:c[d].2 with
       |nil=>rw [hc0] at a9;simp [aQ] at a9
       |cons=>simp
      have c5:=aA (bBo e4.con (a:Int) y z c[d].2 ((b7.below o.low (by omega)).below a4 (zy _)) a9 (λo1 b9=>by have:=zE b7 a9 o1 b9;omega) (by omega) (by omega));have D:=aA e4;have c8:=aA (zt i2 (zt i4 j4));have q0:(g.alloc (.cells #[.bool c[d].1,.slice y c[d].2.length z] 86)).heap.size=g.heap.size+1:=by simp
      clear F B o A d7 b7 e4 a4 i2 i4 j4 a9;generalize c[d]=e at *;have n3:(k++aW R++aN (a:Int) e.2).length=(k++aW R).length+e.2.length:=by rw [zx,List.length_map]
      have f4:(k++aW R).length<(k++aW R++aN (a:Int) e.2).length:=by omega
      have j0:(k++aW R++aN (a:Int) e.2).length<=1000000:=by omega
      obtain ⟨b4,e2⟩ : ∃b4,(k++aW R).length=b4:=⟨_,rfl⟩;rw [e2] at c5 f4;have h3:=aA (zt f4 j0);have h5:=aA e2;clear n3 f4 j0 b8 f2 e2;go_upto_region 10 with (first
       |(go_at_call 122;refine (aD g8).mono ?_;rintro f l ⟨q8,o5,rfl,G,q4,j6,H,j7,j2⟩;have c9:=aA G;have a1:=aA j6;have m1:=aA j7;have l0:=aA j2;clear G j6 j7 j2)
       |(go_at_call 105;refine (aD c5).mono ?_;rintro f q ⟨rfl,t,e8,e7,j1,a7⟩;have b1:=aA (D.o.add e7 j1 a7);have d0:=aA (zt (a7.at c8.o.1 (by decide) (by decide) (by decide) (λ_ f=>D.o.con.nbT f)) (zt (a7.at c8.o.2.1 (by decide) (by decide) (by decide) (λ_ f=>D.o.con.nbT f)) (a7.at c8.o.2.2 (by decide) (by decide) (by decide) (λ_ f=>D.o.con.nbT f))));have q2:=e7.size;have Z:=aA e8;have g8:=aA (bBp e8 b4 h3.o.1 h3.o.2);clear e7 j1 a7 e8)
       |go_in)
      have c1:=zt (a1.o.at d0.o.1 (by decide) (by decide) (by decide) (λ_ f=>Z.o.nbT f)) (zt (a1.o.at d0.o.2.1 (by decide) (by decide) (by decide) (λ_ f=>Z.o.nbT f)) (a1.o.at d0.o.2.2 (by decide) (by decide) (by decide) (λ_ f=>Z.o.nbT f)));obtain ⟨r1,r2⟩ : l.cell? ⟨g.heap.size,0,none⟩=some (.bool e.1)/\l.cell? ⟨g.heap.size,1,none⟩=some (.slice y e.2.length z):=⟨by simp [zs,c1.1],by simp [zs,c1.1]⟩;have h0:=aA c1;clear c1 g8 c5;cases o5 with
      |false=>
       obtain ⟨g2,j8,X⟩:=l0.o rfl;subst g2;have W:=X.pure;have A:k++aW R++aN (a:Int) e.2=k++aW (R++[((a:Int),e)]):=by rw [aMy,<-zw]
       have E:cS k.length R++[b4]=cS k.length (R++[((a:Int),e)]):=by rw [aMz,<-h5.o,zx]
       rw [A,E] at W;have k9:aM (dU k L M (aZ 0 b) [] false 4):=aA (by rw [l7.o];exact bC3 W l8.o (zu.2 (Or.inr (List.mem_singleton.2 rfl))) j8);have d1:=aA (b1.o.2.trans c9.o);clear X W A E;go_wp2;go_returns;exact ⟨_,_,_,rfl,⟨⟨[],k9.o,bR.nil _ _,by simp⟩,d1.o⟩⟩
      |true=>
       obtain ⟨g2,j8,X,c2⟩:=m1.o rfl;rw [<-h5.o] at c2;obtain ⟨T,U,rfl⟩:=bA X;have f8:l.ownsRow r 86 2 u7 J.length (bF J):=a1.o.row b1.o.1.1 (by decide) (by decide) (λa i8 f=>by
        obtain ⟨a2,m9⟩:=Z.o.nbT f;exact dZ b1.o.1.1 m9 (by decide) i8)
       have p2:J.length<=24:=by have V:=congrArg List.length D.o.made;have d9:=D.o.len;simp [bS] at V;omega
       obtain ⟨c3,c4,n6⟩:=bA f8;subst n6;have h6:=aA f8;have p0:r<=l.heap.size:=c2.big;have l1:=aA X;have l2:=aA c2;clear f8 X c2;generalize hql:J.length=ql at *;have l3:=aA hql;clear hql;go_wp2_with (first
        |(at_builtin;refine wpList_append_own _ rfl (.tmp 45) (.tmp 50) 51 rfl r 86 n8 (.agg #[.bool false,.slice none 0 0]) 2 32 Tryz.underlying51 m4 m5 m6 m7 rfl (by decide) _ _ _ rfl (h6.o.alloc _) ⟨_,0,none⟩ 1 1 [.bool e.1,.slice T H.length U] rfl rfl (kZ l _ _ _ _ rfl) (uA _ _ _ _) (by unfold maxLen;omega) (by omega) (by simp;omega) ?_;intro o4 g7 a6 P _;have a0:=aA a6;have k6:=aA P;clear a6 P)
        |go_in)
       have q3:=c9.o.size;have e1:aB l (l.alloc (.cells #[.bool e.1,.slice T H.length U] 86)):=(Below.refl _ _).alloc (zy _) _;have j5:(l.alloc (.cells #[.bool e.1,.slice T H.length U] 86)).ownsRow r 86 2 (.slice c3 ql c4) ql (bF J):=bG h6.o e1 (zy _);have P:(l.alloc (.cells #[.bool e.1,.slice T H.length U] 86)).grownBy g7 (Value.slice c3 ql c4).ownBlock:=k6.o;have g1:∀{p:Nat} {a2:Array Value},l.heap[p]?=some (.cells a2 158)->g7.heap[p]?=some (.cells a2 158):=by
        intro p a2 m;have f7:(l.alloc (.cells #[.bool e.1,.slice T H.length U] 86)).heap[p]?=some (.cells a2 158):=by rw [e1.block p (zz.1 m).1];exact m
        rw [P.block p (zz.1 f7).1 (λf=>dZ j5 f7 (by decide) f.symm)];exact f7
       have k8:aM (pB C r Y a8 k L M (R++[((a:Int),e)]) o4 t (i++[H]) (J++[((e.1,H),.slice T H.length U)]) g7):=aA (by
        have n2:=D.o.len;have n4:=D.o.made;have e5:=b1.o;have a6:=a0.o;rw [<-l3.o] at e5 a6 P;exact pB.put (x:=e) n2 n4 e5.1 e5.2 Z.o l2.o c9.o a1.o g2 l1.o a6 P)
       have h1:=aA (zt (g1 h0.o.2.1) (g1 h0.o.2.2));clear e1 j5 P g1;go_roundw;case rel=>exact ⟨d+1,by omega,by go_num,⟨⟨_,_,_,by rw [l4.o];exact k8.o⟩,h1.o.2⟩,h1.o.1⟩
       case measure=>simp [intOf];omega
    ·have n0:d=c.length:=by omega
     subst n0;have p4:¬((c.length:Int)<(c.length:Int)):=by omega
     have d4:aM (sE C r Y a8 k L M I Q (aZ 0 (b.take (a+1))) u7 g):=aA (by rw [h7.o,<-aMw];exact F);clear F B;go_wp2;go_roundw;case rel=>exact ⟨a+1,by omega,by go_num,d4.o⟩
     case measure=>simp [intOf];omega
  ·have n1:a=b.length:=by omega
   subst n1;have p7:¬((b.length:Int)<(b.length:Int)):=by omega
   rw [List.take_length] at O;obtain ⟨o0,i,J,o⟩:=O.st;have a3:∀x∈aZ 0 b,x.2.2.length<=60:=by intro x hr;obtain ⟨p,m,a5⟩:=sD _ _ x hr;obtain ⟨n,v,rfl⟩:=zv m;exact ((S.o n v).2.2.2.2.2 _ a5).2
   have h9:=aBr b 0 (λp m=>by
    obtain ⟨n,v,rfl⟩:=zv m;exact (S.o n v).2.2.2.2.1)
   have f2:=aN5 a3;have b8:(k++aW (aZ 0 b)).length<=1000000:=by simp;omega
   have f6:=o.con.nodes b8;have W:=o.con.pure.out;have p3:(bS (aZ 0 b) i).length<=16:=by simp [bS];omega
   have f5:∀e∈bS (aZ 0 b) i,e.2∈i:=by intro e w;unfold bS at w;rw [List.mem_iff_getElem] at w;obtain ⟨n,v,rfl⟩:=w;simp at v ⊢
   have e0:∀e∈bS (aZ 0 b) i,e.2.length<=500:=by intro e w;rw [<-o.made] at w;obtain ⟨p,m,rfl⟩:=zm.1 w;exact (o.atoms p m).2.1
   have m8:=zC e0;have f9:wG (bS (aZ 0 b) i):=λe w=>⟨by have:=e0 e w;omega,(f6 e.2 (f5 e w)).2⟩
   obtain ⟨c3,c4,rfl,i9⟩:=aKj o.made o.row (λp m=>(o.atoms p m).1) (by omega) f9;have g9:=aA (aKv c3 c4 (bS (aZ 0 b) i) wr i9 (λe w=>(f6 e.2 (f5 e w)).1) (by omega) (by omega));have p9:(aV (bS (aZ 0 b) i)).length<=16:=by have V:=(jW (bS (aZ 0 b) i)).1;have d9:=(pJ (bT (bS (aZ 0 b) i))).1;unfold aV;omega
   have j3:wG (aV (bS (aZ 0 b) i)):=f9.ord;have d3:=aA W;have d1:=aA o.low;have b2:=aA o.con.big;have c6:=aA (λ(q:World) (b0:Value) (t:Nat) (u:List (Lt×Value)) (j:wN wr (bS (aZ 0 b) i) b0 t u q)=>(show Calls Tryz.prog 44 #[.slice (some ⟨t,0,none⟩) (aV (bS (aZ 0 b) i)).length (aV (bS (aZ 0 b) i)).length] q λf g6=>f=.returned (.int .i64 (aR (aV (bS (aZ 0 b) i))))/\aB q g6 from by
    have f1:u.length=(aV (bS (aZ 0 b) i)).length:=by rw [<-j.made];simp
    obtain ⟨o6,o7,E,f0⟩:=aKj j.made (by have:=j.row;rw [<-f1] at this;exact this) j.atoms (by omega) j3;simp at E;obtain ⟨rfl,_⟩:=E;exact aEb _ _ _ q f0 (by omega)))
   have h4:=aA (λ(q l:World) (b0:Value) (t:Nat) (u:List (Lt×Value)) (j:wN wr (bS (aZ 0 b) i) b0 t u q) (e6:aB q l)=>(show bR r l (.slice (some ⟨t,0,none⟩) (aV (bS (aZ 0 b) i)).length (aV (bS (aZ 0 b) i)).length) (aV (bS (aZ 0 b) i))/\Below r C l from by
    have f1:u.length=(aV (bS (aZ 0 b) i)).length:=by rw [<-j.made];simp
    refine ⟨⟨u,j.made,?_,λp m=>iP (bG (j.atoms p m) e6 (zy _)) b2.o,bC4 j.once⟩,(d1.o.trans (j.low.mono b2.o)).trans (e6.mono (Nat.le_trans b2.o j.low.size))⟩;have V:=iP (bG j.row e6 (zy _)) b2.o;rw [f1];exact V))
   clear O o W f6 f5 e0 f9 i9 m8 j3 b8 f2 a3 h9;generalize bS (aZ 0 b) i=cc at *;obtain ⟨g3,n5⟩ : ∃n9,aR (aV cc)=n9:=⟨_,rfl⟩;rw [n5] at c6 d3;by_cases m2:500<g3
   ·have m3:(500:Int)<(g3:Int):=by omega
    have a0:=aA (d3.o.1 m2);go_wp2_with (first
     |(go_at_call 42;refine (aD g9).mono ?_;rintro f q ⟨b0,t,u,rfl,j⟩;have g0:=j.val;subst g0;have d2:=aA j;have c7:=aA (c6.o q _ t u j);clear j)
     |(go_at_call 44;refine (aD c7).mono ?_;rintro f l ⟨rfl,G⟩;have b3:=aA (h4.o q l _ t u d2.o G);clear G)
     |go_in)
    go_returns;exact ⟨_,_,_,rfl,⟨⟨[],a0.o,bR.nil _ _,by simp⟩,b3.o.2⟩⟩
   ·have m3:¬((500:Int)<(g3:Int)):=by omega
    have a0:=aA (d3.o.2 (by omega));go_wp2_with (first
     |(go_at_call 42;refine (aD g9).mono ?_;rintro f q ⟨b0,t,u,rfl,j⟩;have g0:=j.val;subst g0;have d2:=aA j;have c7:=aA (c6.o q _ t u j);clear j)
     |(go_at_call 44;refine (aD c7).mono ?_;rintro f l ⟨rfl,G⟩;have b3:=aA (h4.o q l _ t u d2.o G);clear G)
     |go_in)
    go_returns;exact ⟨_,_,_,rfl,⟨⟨_,a0.o,b3.o.1,by omega⟩,b3.o.2⟩⟩
