import Derived.Test.YthjhkgohninpcaaGreatDoorONumberM
import Derived.Test.YthjhkgohninpcaaGreatDoorXCutM
import Derived.Shelf.RegionOpen
import Derived.OwnWalkIn
import Derived.TacticsInMore
import Derived.LoopNIn
import Derived.LoopIn
open List renaming getElem_mem→zz,getElem?_eq_getElem→zy,prefix_append→zv,prefix_refl→zt,range→zs
open Nat renaming zero_le→zx,le_refl→zw
namespace Go.Proofs.YthjhkgohninpcaaGreatDoor
set_option maxHeartbeats 8000000
set_option maxRecDepth 100000
open Go.RowKit Go.Shelf Go.WideMaps
variable{c d:List Lt}{B tp:Nat}{Bs:Nat->Nat->Prop}{Q:Tb}{v:Value}{w wr:World}
structure Sh(P Q:Tb):Prop where
 len:Q.length=P.length
 row:∀i (h:i<P.length) (h':i<Q.length),Q[i].2=P[i].2/\Q[i].1.parts=P[i].1.parts/\Q[i].1.node=P[i].1.node
theorem Sh.refl(P:Tb):Sh P P:=⟨rfl,λ_ _ _=>⟨rfl,rfl,rfl⟩⟩
theorem Sh.join{g:Tb}(b:Sh g Q)(e f:Nat):Sh g (gH Q e f):=by
 refine ⟨by rw [lZ,b.len],λa i o=>?_⟩;have j:a<Q.length:=by rw [b.len];exact i
 rw [oV Q e f a j];obtain ⟨k,l,c⟩:=wP e f Q[a];obtain ⟨d,m,n⟩:=b.row a i j;exact ⟨k.trans d,l.trans m,c.trans n⟩
structure oD(w:World)(B tp:Nat)(v:Value)(P0:Tb)(Bs:Nat->Nat->Prop)(Q:Tb)(wr:World):Prop where
 tab:cU wr B tp v Q
 inv:rZ P0 Bs Q
 sh:Sh P0 Q
 far:w.grownBy wr v.ownBlock
theorem aKj{b:World}{g:Option Nat}(a:aC w b):w.grownBy b g:=⟨a.os,a.tape,a.output,a.size,λf e _=>a.block f e⟩
theorem oD.below{b:Tb}{wx:World}(a:oD w B tp v b Bs Q wr)(k:aC wr wx):oD w B tp v b Bs Q wx:=⟨a.tab.below k,a.inv,a.sh,a.far.trans (aKj k)⟩
theorem oD.join{e:Tb}{g:World}(f:oD w B tp v e Bs Q wr){a b:Nat}(i:a<Q.length)(j:b<Q.length)(k:Cl (bC e) Bs a b)(m:cU g B tp v (gH Q Q[a].1.cls Q[b].1.cls))(l:wr.grownBy g v.ownBlock):oD w B tp v e Bs (gH Q Q[a].1.cls Q[b].1.cls) g:=
 ⟨m,f.inv.join i j k,f.sh.join _ _,f.far.trans l⟩
def cN(a:Nat)(Q:Tb):Nat:=yJ a (Q.map λb=>b.1.cls)
def pI(a:Nat)(b Q:Tb)(e:Bool)(f:Prop):Prop:=cN a Q<=cN a b/\(e=true->cN a Q<cN a b)/\(e=false->Q=b/\f)
theorem pI.start(e:Nat)(Q:Tb){a:Prop}(b:a):pI e Q Q false a:=⟨zw _,by simp,λ_=>⟨rfl,b⟩⟩
theorem pI.imp{j:Nat}{b:Tb}{i:Bool}{f g:Prop}(a:pI j b Q i f)(k:Q=b->f->g):pI j b Q i g:=⟨a.1,a.2.1,λe=>⟨(a.2.2 e).1,k (a.2.2 e).1 (a.2.2 e).2⟩⟩
theorem pI.join{e:Nat}{b:Tb}{g:Bool}{f F':Prop}(i:pI e b Q g f)(r:hH Q)(q:Q.length=e){u v:Nat}(k:u<Q.length)(l:v<Q.length)(s:Q=b->f->bI Q u v->F'):pI e b (gH Q Q[u].1.cls Q[v].1.cls) (g || decide (Q[u].1.cls≠Q[v].1.cls)) F':=by
 by_cases a:Q[u].1.cls=Q[v].1.cls
 ·have m:gH Q Q[u].1.cls Q[v].1.cls=Q:=by rw [a,aI0]
  rw [m];simp only [a,ne_eq,not_true_eq_false,decide_false,Bool.or_false];exact i.imp λj n=>s j n ((bI.iff k l).2 a)
 ·have p:=aS6 r k l a;rw [q] at p;have j:=i.1;refine ⟨?_,λ_=>?_,λo=>?_⟩
  ·unfold cN at *;omega
  ·unfold cN at *;omega
  ·simp [a] at o
def aBo(w:World)(a e:Nat):List Nat:=(zs e).map λb=>match w.cell? ⟨a,b*4+3,none⟩ with|some (.int _ x)=>x.toNat|_=>0
theorem aKk{f b j:Nat}(k:cU w B tp (.slice (some ⟨f,0,none⟩) b j) Q)(s:Q.length=b):aBo w f b=Q.map λo=>o.1.cls:=by
 obtain ⟨p,q,e,m⟩:=k.shape;simp at e;obtain ⟨rfl,_⟩:=e;apply List.ext_getElem?;intro a;by_cases i:a<b
 ·obtain ⟨r,g,_,_,_,l⟩:=m a (by omega);simp at g;subst g;simp [aBo,i,l,show a<Q.length by omega]
 ·have n:Q.length<=a:=by omega
  simp [aBo,i,n]
structure aXk(P:Tb)(B tp:Nat)(v:Value)(Bs:Nat->Nat->Prop)(r:Value)(w':World):Prop where
 yes:∃b:Bool,r=.bool b/\(b=true↔eS (bC P) (Cl (bC P) Bs)/\∀i,i<P.length->bK (bC P) (Cl (bC P) Bs) i)/\
  (b=true->∃Q,cU w' B tp v Q/\Sh P Q/\bC Q=bC P/\hH Q/\∀i j,bI Q i j↔Cl (bC P) Bs i j)
theorem bK.iff{g:Gr}{e f:Nat->Nat->Prop}(j:∀a b,e a b↔f a b){a:Nat}:bK g e a↔bK g f a:=by
 have i:e=f:=by funext a b;exact propext (j a b)
 rw [i]
theorem oD.closed{f:Tb}(b:oD w B tp v f Bs Q wr)(m:∀a i,i<a->a<Q.length->kF Q a i):yL Q:=by
 obtain ⟨g,k⟩:=b.inv.done m;intro a e o n p;have l:=b.inv.ok.arity;rw [b.inv.gr] at *;have j:bI Q=Cl (bC f) Bs:=by funext a e;exact propext (g a e)
 rw [j] at *;exact wN (Cl.isDown _ _) k l ((g a e).1 o) n p
def jR(e:Tb)(f g a b:Nat):Prop:=(a=f/\b=g)\/bI e a b
theorem aXl{a:Tb}(i:hH a){b e:Nat}(f:b<a.length)(g:e<a.length):rZ a (jR a b e) (gH a a[b].1.cls a[e].1.cls):=by
 refine ⟨aI2 _ _ _,lZ _ _ _,i.join _ _ (i.cls b f),aI3 (C:=Cl (bC a) (jR a b e)) (λj k h=>Cl.base (Or.inr h)) (λ_ _=>Cl.symm) (λ_ _ _=>Cl.trans) f g (Cl.base (Or.inl ⟨rfl,rfl⟩)),?_⟩;rintro j k (⟨rfl,rfl⟩|h)
 ·exact aS5 f g
 ·exact aI4 h
theorem aXm(w:World)(f g i j k l m n:Value)(e:TypeId):∃b a,b=w.alloc (.cells #[f,g,i,j] e)/\a=b.alloc (.cells #[k,l,m,n] e)/\aC w b/\
  a.cell? ⟨w.heap.size,0,none⟩=some f/\a.cell? ⟨w.heap.size,1,none⟩=some g/\a.cell? ⟨w.heap.size,2,none⟩=some i/\a.cell? ⟨w.heap.size,3,none⟩=some j/\
  a.cell? ⟨w.heap.size+1,0,none⟩=some k/\a.cell? ⟨w.heap.size+1,1,none⟩=some l/\a.cell? ⟨w.heap.size+1,2,none⟩=some m/\a.cell? ⟨w.heap.size+1,3,none⟩=some n:=by
 refine ⟨_,_,rfl,rfl,(Below.refl _ _).alloc (zw _) _,?_,?_,?_,?_,?_,?_,?_,?_⟩<;>simp
theorem aXn(B tp:Nat)(v:Value)(a:Tb)(u A:Nat)(e3:u<a.length)(h3:A<a.length)(w:World)(h:cU w B tp v a)(i0:hH a)(l7:a.length<=1000000)(i1:∀C∈a,C.1.parts.length<=1000000):Calls Tryz.prog 143 #[.pointer (some ⟨tp,0,none⟩),.int .i64 u,.int .i64 A] w λm z=>∃a7,m=.returned a7/\aXk a B tp v (jR a u A) a7 z/\w.grownBy z v.ownBlock:=by
 obtain ⟨r7,c6,rfl,a5⟩:=h.shape;obtain ⟨E,rfl,n6,n7,n8,n9⟩:=a5 u e3;clear a5 n6 n7 n8 n9;have j1:=aA (aI1 B tp _ a u A e3 h3 w h l7);have j8:=aA (aXl i0 e3 h3);have d5:=aA i1;clear h i0 i1;go_enter Tryz.func143,Tryz.ntmps143;go_wp2_with (first
  |(go_at_call 156;refine (aB j1).mono ?_;rintro m r9 ⟨rfl,c9,H⟩;have O:=aA (oD.mk (w:=w) c9 j8.o ((Sh.refl a).join _ _) H);clear c9 H)
  |go_in)
 generalize gH a a[u].1.cls a[A].1.cls=Q1 at *;go_loopw [7] (λI wr=>∃(j:Bool) (Q:Tb),I=.bool j/\oD w B tp (.slice (some ⟨E,0,none⟩) a.length c6) a (jR a u A) Q wr/\(j=false->∀b e,e<b->b<Q.length->kF Q b e)) (λI wr=>2*yJ a.length (aBo wr E a.length)+wQ I);case atStart=>exact ⟨true,Q1,rfl,O.o,by simp⟩
 case round=>
  rename World=>wo
  obtain ⟨j,Q,rfl,G,e1⟩:=hrel;have q6:=G.sh.len;cases j with
  |true=>
   have r:=aA G;clear G e1;go_wp2;go_loopw [7,8] (λI b i9=>∃(j:Bool) (e:Nat) (k:Tb),e<=a.length/\I=.bool j/\b=.int .i64 e/\oD w B tp (.slice (some ⟨E,0,none⟩) a.length c6) a (jR a u A) k i9/\pI a.length Q k j (∀i f,f<i->i<e->kF Q i f)) (λ_ b _=>a.length-(intOf b).toNat);case atStart=>exact ⟨false,0,Q,zx _,rfl,rfl,r.o,pI.start _ _ (λi f n p=>by omega)⟩
   case round=>
    rename World=>i9
    obtain ⟨j,b,k,a6,rfl,rfl,l,F⟩:=hrel;have a1:=l.tab.cell;by_cases b9:b<a.length
    ·have m3:(b:Int)<(a.length:Int):=by omega
     have O:=aA l;have b5:=aA F;clear l F;go_wp2;go_loopw [7,9] (λI f4 s=>∃(j:Bool) (e:Nat) (k:Tb),e<=b/\I=.bool j/\f4=.int .i64 e/\oD w B tp (.slice (some ⟨E,0,none⟩) a.length c6) a (jR a u A) k s/\pI a.length Q k j ((∀i f,f<i->i<b->kF Q i f)/\∀f,f<e->kF Q b f)) (λ_ f4 _=>b-(intOf f4).toNat);case atStart=>exact ⟨j,0,k,zx _,rfl,rfl,O.o,b5.o.imp λ_ h=>⟨h,λf h=>by omega⟩⟩
     case round=>
      rename World=>s
      obtain ⟨j,e,k,q2,rfl,rfl,l,F⟩:=hrel;have a1:=l.tab.cell;by_cases q4:e<b
      ·have l9:(e:Int)<(b:Int):=by omega
       have b8:e<a.length:=by omega
       have q5:(e:Int)<(a.length:Int):=by omega
       have r2:=l.sh.len;obtain ⟨r8,p3,h1,a5⟩:=l.tab.shape;simp at h1;obtain ⟨rfl,m7,rfl⟩:=h1;obtain ⟨p6,h8,f2,f3,i4,m9⟩:=a5 b (by omega);obtain ⟨p7,h9,d2,d3,f5,i5⟩:=a5 e (by omega);simp at h8 h9;subst h8;subst h9;clear a5 m7;obtain ⟨a8,Y,a9⟩:=l.sh.row b b9 (by omega);obtain ⟨b0,Z,b1⟩:=l.sh.row e b8 (by omega);obtain ⟨o0,i6,f6⟩:=r.o.sh.row b b9 (by omega);obtain ⟨o1,i7,f7⟩:=r.o.sh.row e b8 (by omega);have M:=l.tab.parts k[b] (zz _);have N:=l.tab.parts k[e] (zz _);rw [a8,Y] at M;rw [b0,Z] at N;obtain ⟨d7,a2,U,_⟩:=tN M;obtain ⟨d8,a3,V,_⟩:=tN N;have q7:=d5.o a[b] (zz _);have q8:=d5.o a[e] (zz _);have h2:aM a[b].1.node=false->aM a[e].1.node=false->a[b].1.node=a[e].1.node->a[b].1.parts.length=a[e].1.parts.length:=λk4 k5 k6=>by
        have i8:=l.inv.ok.ary b (by omega) (by rw [a9];exact k4);have o2:=l.inv.ok.ary e (by omega) (by rw [b1];exact k5);rw [Y,a9] at i8;rw [Z,b1] at o2;rw [k6] at i8;omega
       have j6:=aA (show k[b].1.cls≠k[e].1.cls->k=Q->kF Q b e from λm4 m=>by
        subst m;intro _ _ b6;exact absurd b6 m4)
       have g4:=aA (show aM a[b].1.node=true\/aM a[e].1.node=true->kF Q b e from λm5 _ _ _ b6 e0=>by
        rw [f6] at b6;rw [f7] at e0;rcases m5 with h|h
        ·rw [h] at b6;cases b6
        ·rw [h] at e0;cases e0)
       have j7:=aA (show a[b].1.node=a[e].1.node->(∀C g a7:Nat,a[b].1.parts[C]?=some g->a[e].1.parts[C]?=some a7->bI Q g a7)->kF Q b e from λe6 e8 _ _ _ _ _=>by
        rw [f6,f7,i6,i7];exact ⟨e6,e8⟩)
       have j5:=aA (show k[b].1.cls=k[e].1.cls->aM a[b].1.node=false->aM a[e].1.node=false->a[b].1.node≠a[e].1.node->¬eS (bC a) (Cl (bC a) (jR a u A)) from λm f8 f9 e6=>l.inv.clash (by omega) (by omega) m (by rw [a9];exact f8) (by rw [b1];exact f9) (by rw [a9,b1];exact e6));have j4:=aA (show k[b].1.cls=k[e].1.cls->aM a[b].1.node=false->aM a[e].1.node=false->∀g o v:Nat,a[b].1.parts[g]?=some o->a[e].1.parts[g]?=some v->Cl (bC a) (jR a u A) o v from λm f8 f9 g o v n p=>Cl.down (l.inv.sound b e ((bI.iff (by omega) (by omega)).2 m)) (aAo b9 f8) (aAo b8 f9) (by rw [qY a b b9];exact n) (by rw [qY a e b8];exact p));have q1:E<s.heap.size:=aDf l.tab.row rfl;have b4:=aA (λ(n4 n5:Obj)=>l.below (((Below.refl s.heap.size s).alloc (zw _) n4).alloc (by simp) n5));rw [a9] at f2 f3;rw [b1] at d2 d3;rw [a8,U] at i4;rw [b0,V] at f5;have g8:=aA U;have g9:=aA V;have j2:=aA h2;have g6:=aA l;have a0:=aA F;clear a8 Y a9 b0 Z b1 o0 i6 f6 o1 i7 f7 M N U V h2 l F;generalize k[b].1.cls=cli at *;generalize k[e].1.cls=clk at *;generalize hni:a[b].1.node=ni at *;generalize hnk:a[e].1.node=nk at *;obtain ⟨W,b2⟩:=ni;obtain ⟨X,b3⟩:=nk;simp only at f2 f3 d2 d3;clear hni hnk;generalize hpli:a[b].1.parts=li at *;generalize hplk:a[e].1.parts=lk at *;obtain ⟨o3,o4,l4,l5,a4,o7,o8,k7,o9,p0,p1,k8,p2⟩:=aXm s (.string W) (.int .i64 b2) (.slice d7 li.length a2) (.int .i64 cli) (.string X) (.int .i64 b3) (.slice d8 lk.length a3) (.int .i64 clk) 206;subst l5;subst l4;have h0:=aD a4 a1;have n0:=aD a4 d2;have n1:=aD a4 d3;have n2:=aD a4 f5;have n3:=aD a4 i5;clear a4;have c5:aG (∀(g1:kF Q b e) (h:(∀i f,f<i->i<b->kF Q i f)/\∀f,f<e->kF Q b f),(∀i f,f<i->i<b->kF Q i f)/\∀f,f<e+1->kF Q b f):=aA (λg1 h=>⟨h.1,λf q3=>by
        by_cases m0:f<e
        ·exact h.2 f m0
        ·have:f=e:=by omega
         subst this;exact g1⟩)
       by_cases h5:cli=clk
       ·subst h5;by_cases i2:W.toList.isEmpty=true
        ·go_wp2;go_roundw;case rel=>exact ⟨j,e+1,k,by omega,rfl,by go_num,b4.o _ _,a0.o.imp λm h=>c5.o (g4.o (Or.inl i2)) h⟩
         case measure=>simp [intOf];omega
        ·by_cases i3:X.toList.isEmpty=true
         ·go_wp2;go_roundw;case rel=>exact ⟨j,e+1,k,by omega,rfl,by go_num,b4.o _ _,a0.o.imp λm h=>c5.o (g4.o (Or.inr i3)) h⟩
          case measure=>simp [intOf];omega
         ·have c2:aM (W,b2)=false:=by simpa [aM] using i2
          have c3:aM (X,b3)=false:=by simpa [aM] using i3
          have r6:=wD W X b2 b3;have e7:=wC (W,b2) (X,b3);simp only at e7;by_cases S:(W,b2)=(X,b3)
          ·rw [eI S] at e7;have m2:=j2.o c2 c3 S;have q9:li.length<=lk.length:=by omega
           have r0:lk.length<=li.length:=by omega
           clear m2;have j3:=aA (j4.o rfl c2 c3);have d4:=aA (j7.o S);have k3:=aA (b4.o (.cells #[.string W,.int .i64 b2,.slice d7 li.length a2,.int .i64 cli] 206) (.cells #[.string X,.int .i64 b3,.slice d8 lk.length a3,.int .i64 cli] 206));clear S c2 c3;go_wp2;clear n0 n1 n2 n3 f2 f3 i4 m9 d2 d3 f5 i5;go_loopw [7,12] (λI C D=>∃(j:Bool) (g:Nat) (t:Tb),g<=li.length/\I=.bool j/\C=.int .i64 g/\oD w B tp (.slice (some ⟨E,0,none⟩) a.length c6) a (jR a u A) t D/\pI a.length Q t j (((∀i f,f<i->i<b->kF Q i f)/\∀f,f<e->kF Q b f)/\∀y,y<g->∀o v:Nat,li[y]?=some o->lk[y]?=some v->bI Q o v)/\D.cell? ⟨s.heap.size,2,none⟩=some (.slice d7 li.length a2)/\D.cell? ⟨s.heap.size+1,2,none⟩=some (.slice d8 lk.length a3)) (λ_ C _=>li.length-(intOf C).toNat);case atStart=>exact ⟨j,0,k,zx _,rfl,rfl,k3.o,a0.o.imp λ_ h=>⟨h,λy h=>by omega⟩,k7,k8⟩
           case round=>
            rename World=>D
            obtain ⟨j,g,t,r3,rfl,rfl,q,c7,l0,l1⟩:=hrel;by_cases e9:g<li.length
            ·have m8:(g:Int)<(li.length:Int):=by omega
             have r5:(g:Int)<(lk.length:Int):=by omega
             have m1:=q.sh.len;obtain ⟨a8,Y,_⟩:=q.sh.row b b9 (by omega);obtain ⟨b0,Z,_⟩:=q.sh.row e b8 (by omega);have M:=q.tab.parts t[b] (zz _);have N:=q.tab.parts t[e] (zz _);have f0:=q.inv.ok.parts b (by omega);have V:=q.inv.ok.parts e (by omega);rw [a8,Y,hpli] at M;rw [b0,Z,hplk] at N;rw [Y,hpli] at f0;rw [Z,hplk] at V;obtain ⟨o5,p4,U,h6⟩:=tN M;obtain ⟨o6,p5,f1,h7⟩:=tN N;rw [g8.o] at U;rw [g9.o] at f1;simp at U f1;obtain ⟨rfl,rfl⟩:=U;obtain ⟨rfl,rfl⟩:=f1;have e4:=bW M q.tab.row (by decide);have e5:=bW N q.tab.row (by decide);obtain ⟨P,rfl,l2⟩:=h6 g e9;obtain ⟨R,rfl,l3⟩:=h7 g (by omega);have d0:=f0 li[g] (zz _);have d1:=V lk[g] (zz _);have b7:=j3.o g li[g] lk[g] (zy e9) (zy (by omega));have g0:=aA (λ(J:World) (c1:∃x,J=D.drewN x)=>aI1 B tp _ t li[g] lk[g] d0 d1 J (by obtain ⟨x,rfl⟩:=c1;exact q.tab.drewN x) (by omega));have g7:=aA (λ(J L:World) (c1:∃x,J=D.drewN x) (c9:cU L B tp _ _) (H:J.grownBy L _)=>(q.below (aL c1)).join d0 d1 b7 c9 H);have g5:=aA (c7.join (F':=((∀i f,f<i->i<b->kF Q i f)/\∀f,f<e->kF Q b f)/\∀y,y<g+1->∀o v:Nat,li[y]?=some o->lk[y]?=some v->bI Q o v) q.inv.ok m1 d0 d1 (λm h c8=>⟨h.1,λy r1 o v n p=>by
              by_cases m6:y<g
              ·exact h.2 y m6 o v n p
              ·have:y=g:=by omega
               subst this;rw [zy e9] at n;rw [zy (by omega)] at p;simp at n p;subst n;subst p;rw [<-m];exact c8⟩))
             generalize hnn:decide (t[li[g]].1.cls≠t[lk[g]].1.cls)=nn at *;generalize gH t t[li[g]].1.cls t[lk[g]].1.cls=Q4 at *;generalize li[g]=o at *;generalize lk[g]=v at *;have p9:P≠E:=by rintro rfl;rw [g8.o] at e4;simp [Value.ownBlock] at e4
             have q0:R≠E:=by rintro rfl;rw [g9.o] at e5;simp [Value.ownBlock] at e5
             clear e4 e5;have g3:=aA (show ∀J L,(∃x,J=D.drewN x)->J.grownBy L (some E)->L.cell? ⟨s.heap.size,2,none⟩=some (.slice (some ⟨P,0,none⟩) li.length a2)/\L.cell? ⟨s.heap.size+1,2,none⟩=some (.slice (some ⟨R,0,none⟩) lk.length a3)/\L.cell? ⟨P,g,none⟩=some (.int .i64 o)/\L.cell? ⟨R,g,none⟩=some (.int .i64 v) from λJ L c1 H=>by
              obtain ⟨x,rfl⟩:=c1;exact ⟨H.cell (w:=D.drewN x) l0 (by simp;omega),H.cell (w:=D.drewN x) l1 (by simp;omega),H.cell (w:=D.drewN x) l2 (by simp;omega),H.cell (w:=D.drewN x) l3 (by simp;omega)⟩)
             clear hnn M N f0 V h6 h7 a8 Y b0 Z q c7 b7 d0 d1;cases j with
             |true=>
              go_wp2_with fail;go_region_held3 (λz=>z.cell? ⟨s.heap.size,2,none⟩=some (.slice (some ⟨P,0,none⟩) li.length a2)/\z.cell? ⟨s.heap.size+1,2,none⟩=some (.slice (some ⟨R,0,none⟩) lk.length a3)/\z.cell? ⟨P,g,none⟩=some (.int .i64 o)/\z.cell? ⟨R,g,none⟩=some (.int .i64 v)) (go_keep)
               ((go_at_call 156;refine (aB g0 _ (by first|exact ⟨0,rfl⟩|exact ⟨1,rfl⟩|exact ⟨_,rfl⟩)).mono ?_;rintro m c4 ⟨rfl,c0,T⟩;have d6:=aA (g7.o _ c4 (by first|exact ⟨0,rfl⟩|exact ⟨1,rfl⟩|exact ⟨_,rfl⟩) c0 T);obtain ⟨d9,a1,h0,k9⟩:=g3.o _ c4 (by first|exact ⟨0,rfl⟩|exact ⟨1,rfl⟩|exact ⟨_,rfl⟩) T;clear c0 T))
              all_goals
               go_wp2;go_roundw;case rel=>exact ⟨true,g+1,Q4,by omega,rfl,by go_num,d6.o,by simpa using g5.o,d9,a1⟩
               case measure=>simp [intOf];omega
             |false=>
              go_wp2_with fail;go_region_held3 (λz=>z.cell? ⟨s.heap.size,2,none⟩=some (.slice (some ⟨P,0,none⟩) li.length a2)/\z.cell? ⟨s.heap.size+1,2,none⟩=some (.slice (some ⟨R,0,none⟩) lk.length a3)/\z.cell? ⟨P,g,none⟩=some (.int .i64 o)/\z.cell? ⟨R,g,none⟩=some (.int .i64 v)) (go_keep)
               ((go_at_call 156;refine (aB g0 _ (by first|exact ⟨0,rfl⟩|exact ⟨1,rfl⟩|exact ⟨_,rfl⟩)).mono ?_;rintro m c4 ⟨rfl,c0,T⟩;have d6:=aA (g7.o _ c4 (by first|exact ⟨0,rfl⟩|exact ⟨1,rfl⟩|exact ⟨_,rfl⟩) c0 T);obtain ⟨d9,a1,h0,k9⟩:=g3.o _ c4 (by first|exact ⟨0,rfl⟩|exact ⟨1,rfl⟩|exact ⟨_,rfl⟩) T;clear c0 T))
              all_goals
               go_wp2;go_roundw;case rel=>exact ⟨nn,g+1,Q4,by omega,rfl,by go_num,d6.o,by simpa using g5.o,d9,a1⟩
               case measure=>simp [intOf];omega
            ·have m8:¬((g:Int)<(li.length:Int)):=by omega
             have k2:=aA q;have k0:=aA c7;have r4:g=li.length:=by omega
             clear q c7;go_wp2;go_roundw;case rel=>exact ⟨j,e+1,t,by omega,rfl,by go_num,k2.o,k0.o.imp λm h=>c5.o (d4.o λC o v n p=>h.2 C (by
              have:=(List.getElem?_eq_some_iff.1 n).1;omega) o v n p) h.1⟩
             case measure=>simp [intOf];omega
          ·rw [dE S] at e7;have j9:=aA (j5.o rfl c2 c3 S);clear S c2 c3;go_wp2;go_ret;exact ⟨_,rfl,⟨false,rfl,⟨by simp,λh=>absurd h.1 j9.o⟩,by simp⟩,(b4.o _ _).far⟩
       ·have p8:¬((cli:Int)=(clk:Int)):=by omega
        go_wp2;go_roundw;case rel=>exact ⟨j,e+1,k,by omega,rfl,by go_num,b4.o _ _,a0.o.imp λm h=>c5.o (j6.o h5 m) h⟩
        case measure=>simp [intOf];omega
      ·have l9:¬((e:Int)<(b:Int)):=by omega
       have g6:=aA l;have a0:=aA F;clear l F;go_wp2;go_roundw;case rel=>
        refine ⟨j,b+1,k,by omega,rfl,by go_num,g6.o,a0.o.imp λ_ h i f n p=>?_⟩;by_cases l8:i<b
        ·exact h.1 i f n l8
        ·have:i=b:=by omega
         subst this;exact h.2 f (by omega)
       case measure=>simp [intOf];omega
    ·have m3:¬((b:Int)<(a.length:Int)):=by omega
     have O:=aA l;have b5:=aA F;clear l F;go_wp2;go_roundw;case rel=>exact ⟨j,k,rfl,O.o,λm i f n p=>by
      obtain ⟨rfl,h⟩:=b5.o.2.2 m;exact h i f n (by omega)⟩
     case measure=>
      rw [aKk r.o.tab r.o.sh.len,aKk O.o.tab O.o.sh.len];have n:=b5.o.1;unfold cN at n;cases j with
      |true=>have p:=b5.o.2.1 rfl;unfold cN at p;simp [wQ];omega
      |false=>simp [wQ];omega
  |false=>
   have e2:=e1 rfl;have b7:=G.closed e2;have j0:=aA (aSd B tp _ Q wo G.tab (by omega) G.inv.ok b7 (λC e8=>by
    obtain ⟨b,a6,rfl⟩:=List.getElem_of_mem e8;rw [(G.sh.row b (by omega) a6).2.1];exact d5.o _ (zz _)))
   have r:=aA G;have d4:=aA e2;clear G e1 e2 b7;go_wp2_with (first
    |(go_at_call 157;refine (aB j0).mono ?_;rintro m s0 ⟨a7,rfl,c8,h4⟩;have k1:=aA c8;have g2:=aA h4;clear c8 h4)
    |go_in)
   go_ret;obtain ⟨j,rfl,l6⟩:=k1.o;obtain ⟨n,p⟩:=r.o.inv.done d4.o;refine ⟨_,rfl,⟨j,rfl,?_,λ_=>⟨Q,r.o.tab.below g2.o,r.o.sh,r.o.inv.gr,r.o.inv.ok,n⟩⟩,r.o.far.trans (aKj g2.o)⟩;rw [l6,r.o.inv.gr,r.o.inv.len];exact ⟨λh=>⟨p,λb a6=>(bK.iff n).1 (h b a6)⟩,λh b a6=>(bK.iff n).2 (h.2 b a6)⟩
attribute [local go_sem] Oper.semAt_some
def oE(c:List Lt)(i:Nat):Option Nd:=(c[i]?).bind λa=>a.2[0]?
def mT(c d:List Lt)(i a:Nat):List (Nat×Nat):=((zs a).filter λj=>decide (oE c i=oE d j)).map λj=>(i,j)
def oF(c d:List Lt)(a:Nat):List (Nat×Nat):=(zs a).flatMap λi=>mT c d i d.length
def lP(c d:List Lt):List (Nat×Nat):=oF c d c.length
theorem aF1(c d:List Lt)(a:Nat):oF c d (a+1)=oF c d a++mT c d a d.length:=by simp [oF,List.range_succ]
theorem aBp(c d:List Lt)(a b:Nat):mT c d a (b+1)=mT c d a b++if oE c a=oE d b then [(a,b)] else []:=by
 unfold mT;rw [List.range_succ,List.filter_append,List.map_append];congr 1
 by_cases e:oE c a=oE d b<;>simp [e]
theorem aXo(c d:List Lt){b e:Nat}(f:b<=e):oF c d b <+: oF c d e:=by
 obtain ⟨a,rfl⟩ : ∃a,e=b+a:=⟨e-b,by omega⟩;clear f;induction a with
 |zero=>exact zt _
 |succ a ih=>rw [<-Nat.add_assoc,aF1];exact ih.trans (zv _ _)
theorem aXp(c d:List Lt)(f:Nat){b e:Nat}(g:b<=e):mT c d f b <+: mT c d f e:=by
 obtain ⟨a,rfl⟩ : ∃a,e=b+a:=⟨e-b,by omega⟩;clear g;induction a with
 |zero=>exact zt _
 |succ a ih=>rw [<-Nat.add_assoc,aBp];exact ih.trans (zv _ _)
theorem aXq{a b:Nat}(k:a<c.length)(l:b<d.length)(j:oE c a=oE d b):(lP c d)[(oF c d a++mT c d a b).length]?=some (a,b):=by have e:mT c d a (b+1) <+: mT c d a d.length:=aXp c d a (by omega);have f:oF c d (a+1) <+: lP c d:=aXo c d (by omega);rw [aBp,aJ j] at e;rw [aF1] at f;obtain ⟨m,g⟩:=e;obtain ⟨n,i⟩:=f;rw [<-i,<-g];simp
def cM:List TypeId:=[83,127,80]
structure qM(B:Nat)(W:World)(b1 b2:Nat)(v1 v2:Value)(c d:List Lt):Prop where
 x1:Boxed W b1 41 v1
 x2:Boxed W b2 41 v2
 m1:bZ B W v1 c
 m2:bZ B W v2 d
theorem qM.kept{W b:World}{e f:Nat}{g i:Value}(a:qM B W e f g i c d)(k:dT cM W b):qM B b e f g i c d:=
 ⟨k.boxed a.x1 (by decide),k.boxed a.x2 (by decide),k.clause a.m1 (by decide) (by decide),k.clause a.m2 (by decide) (by decide)⟩
theorem qM.drawn{a:World}{b e:Nat}{g i:Value}(j:qM B a b e g i c d)(f:Nat):qM B (a.drewN f) b e g i c d:=
 j.kept (Mv.of_below (S:=cM) (B:=0) (aL ⟨f,rfl⟩)).kps
theorem aKl{a:Nat->World->Prop}{e:Nat}(g:OwnFrom e a){b:Nat}{w:World}(i:a b w)(d:Nat):a b (w.drewN d):=
 g b w _ none i ⟨rfl,rfl,rfl,zw _,λ_ _ _=>rfl⟩ (λj f=>by cases f)
theorem aKm{a:Nat}(e:a<c.length)(b:0<c[a].2.length):oE c a=some c[a].2[0]:=by unfold oE;rw [zy e];simp [zy b]
theorem aKn(W n o B:Nat)(b6 b7:Value)(c d:List Lt)(e3:1<=W)(s:kG c)(t:kG d)(H:World)(k:qM B H n o b6 b7 c d):vY Fence.wide W Tryz.prog 150 #[.pointer (some ⟨n,0,none⟩),.pointer (some ⟨o,0,none⟩)] (λ(Y:Nat×Nat) args _=>args=#[.int .i64 Y.1,.int .i64 Y.2]) cM (lP c d) H:=by
 intro e8 G b8 P d6 R a4;have d7:=s.len;have d8:=t.len;have a0:=aA R;have F:=aA P;clear R P;refine callsIn_of_wp Tryz.func150 rfl trivial ?_;simp only [Tryz.ntmps150,List.size_toArray,List.length_cons,List.length_nil,Nat.reduceAdd,Nat.reduceSub,Array.replicate_succ,Array.replicate_zero,List.push_toArray,List.append_toArray,List.nil_append,List.cons_append];obtain ⟨I,L,rfl,_,l,_⟩:=k.m1.lits s;obtain ⟨J,M,rfl,_,m,_⟩:=k.m2.lits t;have O:=k.x1.cell;have Z:=aA k;clear k l m;gi_wp2
 clear O;gi_loopw [8] (λi wr=>∃a:Nat,a<=c.length/\i=.int .i64 a/\qM B wr n o (.slice I c.length L) (.slice J d.length M) c d/\G (oF c d a).length wr) (λi _=>c.length-(intOf i).toNat)
 case atStart=>exact ⟨0,zx _,by go_num,Z.o,by simpa [oF] using a4⟩
 case round=>
  obtain ⟨a,d9,rfl,e,g⟩:=hrel;have a3:=e.x2.cell;have j:=aA e;have f:=aA g;clear e g;by_cases q:a<c.length
  ·have a8:(a:Int)<(c.length:Int):=by omega
   gi_wp2
   clear a3;gi_loopw [13] (λi wr=>∃b:Nat,b<=d.length/\i=.int .i64 b/\qM B wr n o (.slice I c.length L) (.slice J d.length M) c d/\G (oF c d a++mT c d a b).length wr) (λi _=>d.length-(intOf i).toNat)
   case atStart=>exact ⟨0,zx _,by go_num,j.o,by simpa [mT] using f.o⟩
   case round=>
    obtain ⟨b,e0,rfl,e,g⟩:=hrel;by_cases r:b<d.length
    ·have a9:(b:Int)<(d.length:Int):=by omega
     obtain ⟨c0,c8,a1,_,l,_⟩:=e.m1.lits s;obtain ⟨c1,c9,a2,_,m,_⟩:=e.m2.lits t;cases a1;cases a2;obtain ⟨d2,e9,c2,c3,rfl,b0,e7,V⟩:=l.cell a q;obtain ⟨d3,f0,c5,c6,rfl,b1,f3,X⟩:=m.cell b r;have y:=(s.nodes (zz q)).2.1;have z:=(t.nodes (zz r)).2.1;obtain ⟨d4,f1,rfl,b2,b3⟩:=V.cell 0 y;obtain ⟨d5,f2,rfl,b4,b5⟩:=X.cell 0 z;have T:=aKm q y;have U:=aKm r z;have O:=e.x1.cell;have d0:=e.x2.cell;generalize hxe:c[a].2[0]=xe at *;generalize hye:d[b].2[0]=ye at *;obtain ⟨C,A⟩:=xe;obtain ⟨E,D⟩:=ye;simp only [Nat.zero_mul,Nat.add_zero] at b2 b3 b4 b5;have e1:(0:Int)<(c[a].2.length:Int):=by omega
     have e2:(0:Int)<(d[b].2.length:Int):=by omega
     clear hxe hye y z V X l m;generalize c[a].2.length=m1 at *;generalize d[b].2.length=m2 at *;have e5:=wD C E A D;have e4:=xX;have x:=wC (C,A) (E,D);simp only at x;have j:=aA e;have f:=aA g;clear e g b0 b1;by_cases p:(C,A)=(E,D)
     ·rw [eI p] at x;have u:Tryz.prog.follows .mixedOrders=true:=by kernel_rfl
      have S:oE c a=oE d b:=by rw [T,U,p]
      gi_wp2
      refine aFk [_,_,_,_,_,_,_,_,_,_,_,_,_,_,_,_,_,_,_] [_,_,_] rfl (aLx rfl) u (by kernel_rfl) (by kernel_rfl) ?_;repeat (gi_big_quiet_step (fail))
      refine wpQuietIn_nil ?_;rintro _ ⟨nq,rfl⟩;obtain ⟨d1,f4,c4,c7,e6,a5⟩:=a0.o _ (a,b) #[.int .i64 a,.int .i64 b] (wr.drewN nq) (aXq q r S) (aKl F.o f.o nq) rfl;refine wpAnyIn_ready (rs:=[19]) (by kernel_rfl) (by simp) ?_;refine AllReadyIn.cons rfl (λK hK=>?_) AllReadyIn.nil;go_simp;refine a5.mono ?_;rintro N b9 (⟨rfl,hJ3,hk3⟩|⟨rfl,hJx3,_⟩)
      ·refine hK _ _ ?_;clear hK K;refine wpAnyIn_ready (rs:=[20]) (by kernel_rfl) (by simp) ?_;refine AllReadyIn.cons rfl (λK hK=>?_) AllReadyIn.nil;go_simp;refine hK _ _ ?_;clear hK K;refine wpAnyIn_ready (rs:=[21]) (by kernel_rfl) (by simp) ?_;refine AllReadyIn.cons rfl (λK hK=>?_) AllReadyIn.nil;go_simp;refine hK _ _ ?_;clear hK K;refine wpAnyIn_done (by kernel_rfl) ?_ _;gi_wp2
       go_roundw;case rel=>exact ⟨b+1,by omega,by go_num,(j.o.drawn nq).kept hk3.1,by rw [aBp,aJ S,<-List.append_assoc,List.length_append];exact hJ3⟩
       case measure=>simp [intOf];omega
      ·refine hK _ _ ?_;clear hK K;refine wpAnyIn_ready (rs:=[20]) (by kernel_rfl) (by simp) ?_;refine AllReadyIn.cons rfl (λK hK=>?_) AllReadyIn.nil;go_simp;refine hK _ _ ?_;clear hK K;refine wpAnyIn_ready (rs:=[21]) (by kernel_rfl) (by simp) ?_;refine AllReadyIn.cons rfl (λK hK=>?_) AllReadyIn.nil;go_simp;refine hK _ _ ?_;clear hK K;refine wpAnyIn_done (by kernel_rfl) ?_ _;gi_wp2
       refine bodyPost_ret (results_none rfl _ _ _) rfl ?_;exact ⟨⟨_,rfl⟩,.inr ⟨_,hJx3⟩⟩
     ·rw [dE p] at x;have u:Tryz.prog.follows .mixedOrders=true:=by kernel_rfl
      gi_wp2
      refine aFk [_,_,_,_,_,_,_,_,_,_,_,_,_,_,_,_,_,_,_] [_,_,_] rfl (aLx rfl) u (by kernel_rfl) (by kernel_rfl) ?_;repeat (gi_big_quiet_step (fail))
      refine wpQuietIn_nil ?_;rintro _ ⟨nq,rfl⟩;refine wpAnyIn_ready (rs:=[19]) (by kernel_rfl) (by simp) ?_;refine AllReadyIn.cons rfl (λK hK=>?_) AllReadyIn.nil;go_simp;refine ⟨λ_ _=>trivial,hK _ _ ?_⟩;clear hK K;refine wpAnyIn_ready (rs:=[20]) (by kernel_rfl) (by simp) ?_;refine AllReadyIn.cons rfl (λK hK=>?_) AllReadyIn.nil;go_simp;refine hK _ _ ?_;clear hK K;refine wpAnyIn_ready (rs:=[21]) (by kernel_rfl) (by simp) ?_;refine AllReadyIn.cons rfl (λK hK=>?_) AllReadyIn.nil;go_simp;refine hK _ _ ?_;clear hK K;refine wpAnyIn_done (by kernel_rfl) ?_ _;gi_wp2
      go_roundw;case rel=>exact ⟨b+1,by omega,by go_num,j.o.drawn nq,by rw [aBp,aI (by rw [T,U];intro N;exact p (Option.some.inj N)),List.append_nil];exact aKl F.o f.o nq⟩
      case measure=>simp [intOf];omega
    ·have a9:¬(b:Int)<(d.length:Int):=by omega
     have a7:b=d.length:=by omega
     have j:=aA e;have f:=aA g;clear e g;gi_wp2
     go_roundw;case rel=>exact ⟨a+1,by omega,by go_num,j.o,by rw [aF1,<-a7];exact f.o⟩
     case measure=>simp [intOf];omega
  ·have a8:¬(a:Int)<(c.length:Int):=by omega
   have a6:a=c.length:=by omega
   gi_wp2
   go_end0;exact ⟨⟨_,rfl⟩,.inl (by unfold lP;rw [<-a6];exact f.o)⟩
