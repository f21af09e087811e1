import Derived.Test.YtmelidkanelpbaaGreatDoorSMemG
open List renaming getElem?_eq_getElem→zv,take_of_length_le→zr,map_append→zq,length_append→zm,getElem?_map→zl
open Nat renaming le_refl→zy,le_trans→zs
namespace Go.Proofs.YtmelidkanelpbaaGreatDoor
open _root_.Go.Proofs.Tryz renaming underlying138→zw,prog→zu,results61→zt
open Value renaming int→zp
open World renaming cell?→zz,frozen?→zx,setCell→zn,ownsRow_nil→zk
open Go.RowKit
set_option maxHeartbeats 3000000
set_option maxRecDepth 100000
variable{w w':World}
theorem nM(a:aB w w')(d:Option Nat):w.grownBy w' d:=⟨a.os,a.tape,a.output,a.size,λc b _=>a.block c b⟩
structure WLp(w1:World)(s:ByteArray)(p:Nat)(v:Value)(q:Nat)(wr:World):Prop where
 le:p+q<=s.size
 low:∀i,i<q->aE s (p+i)<128
 run:eB s p=eB s (p+q)
 row:wr.ownsRow w1.heap.size 21 1 v q ((oX s p q).map (zp .i32))
 far:aB w1 wr
theorem WLp.next{w1:World}{d:ByteArray}{c:Nat}{j v':Value}{a:Nat}{wr:World}{X Y:Obj}(b:WLp w1 d c j a wr)(n:c+a<d.size)(g:fD (aE d (c+a))=true)(m:w'.ownsRow w1.heap.size 21 1 v' (a+1) ((oX d c a).map (zp .i32)++[.int .i32 (aE d (c+a))]))(l:((wr.alloc X).alloc Y).grownBy w' j.ownBlock):WLp w1 d c v' (a+1) w':=by
 have f:=(b.far.alloc b.far.size X).alloc (zs b.far.size (by simp)) Y;refine ⟨by omega,λi o=>?_,?_,?_,?_⟩
 ·by_cases e:i=a
  ·subst e;exact aEq _ g
  ·exact b.low i (by omega)
 ·rw [b.run,yO n g];rfl
 ·rw [aLx,zq];exact m
 ·exact f.grown l f.size (λk e=>(cO b.row k e).1)
theorem aI3{W:World}{i:Nat}{d f:Nat}{c:ByteArray}{b a:Nat}(l:W.ownsRow i 21 1 (.slice (some ⟨d,0,none⟩) a f) a ((oX c b a).map (zp .i32)))(k:runesBytes (oX c b a)=c.extract b (b+a)):(convert 138 9 (.slice (some ⟨d,0,none⟩) a f)).run zu W=.ok (.string (c.extract b (b+a))) W:=by
 have m:(oX c b a).length=a:=by simp [oX]
 have j:=run_convert_runes (P:=zu) W 138 9 21 ⟨d,0,none⟩ a f (oX c b a) (by omega) zw (by kernel_rfl) (by kernel_rfl) (λe g=>by
  have:=l.cellAt e (by omega);rw [zl,zv g,Option.map_some] at this;rw [show (⟨d,0,none⟩ : Addr).add e=⟨d,e,none⟩ by simp [Addr.add];omega,this];simp [List.getD,g])
 rw [j,zr (by omega),k]
section
variable {B:Nat}{pb:Nat}{s:ByteArray}{p g j m c:Nat}{k a:Int}{wd:ByteArray}{vC vP vM:Value}
def aRz(B pb:Nat)(s:ByteArray)(p g j m c:Nat)(k a:Int)(wd:ByteArray)(vC vP vM:Value)(f:Int)(w:World)(b:Ending)(w':World):Prop:=
 w.grownBy w' (some pb)/\
  if eB s p-p > 20 then b=.returned (fW (-2) p ⟨#[]⟩)/\bN B w' pb s p g j m c k a wd vC vP vM
  else b=.returned (fW f p (s.extract p (eB s p)))/\∃e i d,bN B w' pb s (eB s p) g e i d k a wd vC vP vM
theorem jB{b d:Nat}{f v:Value}(e:w.cell? ⟨b,d,none⟩=some f):(w.setCell ⟨b,d,none⟩ v).cell? ⟨b,d,none⟩=some v:=World.cell?_setCell_same _ _ _ e
theorem aA9(r:Int)(J:bN B w pb s p g j m c k a wd vC vP vM)(i8:s.size<=3000)(f0:p<s.size)(e0:fD (aE s p)=true):Calls zu 59 #[.pointer (some ⟨pb,0,none⟩),.int .i32 r] w λx w'=>aRz B pb s p g j m c k a wd vC vP vM r w x w':=by
 obtain ⟨f8,e2,e3,e4,e5⟩:=info_parts aLw;have b2:=J.box.c0;have d9:∀e,(w.alloc e).cell? ⟨pb,0,none⟩=some (.slice (some ⟨g,j*2,none⟩) (m+1) (c+1)):=λe=>aC ((Below.refl _ w).alloc (zy _) e) b2
 have a0:aM (∀e,aB w (w.alloc e)):=aA λe=>(Below.refl _ _).alloc (zy _) e
 have a9:aM (∀e,(w.alloc e).heap[w.heap.size]?=some e/\(w.alloc e).heap.size=w.heap.size+1):=aA λe=>⟨by show (w.heap.push _)[w.heap.size]?=_;simp,by simp⟩
 have I:=aA J;have f1:=J.box.lt;clear J b2;go_enter Tryz.func59,Tryz.ntmps59;go_wp2;have S:=a0.o (.cells #[.int .i32 0,.int .i64 0,.string ⟨#[]⟩] 58);have a6:=aA (I.o.below S);obtain ⟨c2,f6⟩:=a9.o (.cells #[.int .i32 0,.int .i64 0,.string ⟨#[]⟩] 58);have a1:=aA S;have b0:=aA c2;clear S c2 a0 a9;generalize w.alloc (.cells #[.int .i32 0,.int .i64 0,.string ⟨#[]⟩] 58)=w1 at *;have b9:w.heap.size<w1.heap.size:=by omega
 obtain ⟨f,N⟩ : ∃f,w.heap.size=f:=⟨_,rfl⟩;rw [N] at b9 b0 f1;simp only [N];have a4:=aA N;clear N f6 d9;go_loopw [5,14] (λv t wr=>∃b:Nat,t=.int .i64 b/\WLp w1 s p v b wr) (λ_ t _=>s.size+1-(intOf t).toNat);case atStart=>exact ⟨0,rfl,by omega,λt h7=>by omega,rfl,zk _ _ _ _,Below.refl _ _⟩
 case round=>
  obtain ⟨b,rfl,i⟩:=hrel;have G:=i.le;obtain ⟨M,f5⟩:=a6.o.letters b G i.low;have E:=a6.o.below i.far;obtain ⟨d8,h2⟩:=E.cells b (p+b) M G f5;have i6:(b:Int)<((m+1:Nat):Int):=by omega
  have i3:(0:Int)<=(b:Int):=by omega
  have U:=aYm s (p+b);have y:=aA (λg4=>aYh (aT s (p+b)) g4);rw [U] at y;obtain ⟨j6,j8,rfl⟩:=aZ i.row;have a3:=aA i;have e8:=i.far.size;by_cases q:p+b<s.size/\fD (aE s (p+b))=true
  ·have b8:=(mR s (p+b) q.1 (aEq _ q.2)).1;rw [q.2,fA q.1] at y;rw [b8] at y d8;have d2:=aA (λ(g1:Value) (w':World) (d7 n:Obj) ho hg=>a3.o.next q.1 q.2 (v':=g1) (w':=w') (X:=d7) (Y:=n) ho hg);have H:=aA (i.row);have i2:p+b<s.size:=q.1;clear i U b8 q E M a3;generalize aE s (p+b)=bb at *;go_wp2_with (first
    |(go_at_call 88;refine (aD y _).mono ?_;rintro x c5 ⟨rfl,rfl⟩)
    |(at_builtin;refine wpList_append_own _ rfl (.tmp 22) (.tmp 25) 138 rfl w1.heap.size 21 f8 (.int .i32 0) 1 4 zw e2 e3 e4 e5 rfl (by decide) _ _ _ rfl ((H.o.alloc _).alloc _) ⟨_,0,none⟩ 1 1 [.int .i32 bb] rfl rfl (tU _ _ _ _ (by simp)) (aEp _) (by unfold maxLen;omega) (by omega) (by simp;omega) ?_;intro j5 C V b7 _;have d3:=aA (d2.o _ _ _ _ V b7);obtain ⟨j7,k0,rfl⟩:=aZ V;clear V b7)
    |go_in)
   go_roundw;case rel=>exact ⟨b+1,by go_num,d3.o⟩
   case measure=>simp [intOf];omega
  ·have c0:eB s (p+b)=p+b:=aKy q;have a5:aM (eB s p=p+b):=aA (by rw [i.run,c0]);have i4:1<=b:=by
    apply Classical.byContradiction;intro i0;obtain rfl:b=0:=by omega
    exact q ⟨f0,e0⟩
   have b6:(decide (p+b<s.size) && fD (aE s (p+b)))=false:=by
    rw [Bool.and_eq_false_iff];by_cases x:p+b<s.size
    ·right;cases hb:fD (aE s (p+b))
     ·rfl
     ·exact absurd ⟨x,hb⟩ q
    ·left;simpa using x
   rw [b6] at y;have a8:aM (runesBytes (oX s p b)=s.extract p (p+b)):=aA (aYl s p b G i.low);have H:=aA i.row;have d1:=aA i.far;have a2:=aA M;have a7:=aA E;have Y:=i.far.block f b9;rw [b0.o] at Y;have d6:=aA Y;have h9:=E.mc;clear i U E M b6 c0 q Y;have O:aM (∀e,aB w (wr.alloc e)):=aA λe=>((bD a1.o d1.o).alloc (zs a1.o.size e8) e)
   have b1:aM (∀e,(wr.alloc e).heap[f]?=some (.cells #[.int .i32 0,.int .i64 0,.string ⟨#[]⟩] 58)):=aA λe=>by
    rw [((Below.refl wr.heap.size wr).alloc (zy _) e).block f (by omega)];exact d6.o
   by_cases i5:20<b
   ·have f4:(20:Int)<(b:Int):=by omega
    have Z:=aA (λe=>wW (a7.o.below ((Below.refl wr.heap.size wr).alloc (zy _) e)));unfold fW at Z;go_wp2_with (first
     |(go_at_call 88;refine (aD y _).mono ?_;rintro x c5 ⟨rfl,rfl⟩)
     |(go_at_call 64;refine (aD Z _).mono ?_;rintro x C ⟨rfl,T⟩;have A:=(T.block f (by simp;omega)).trans (b1.o _);have c9:=aA T;have h0:=aA A;have f9:C.cell? ⟨f,0,none⟩=some (.int .i32 0):=(by simp [zz,A]);have c3:C.cell? ⟨f,1,none⟩=some (.int .i64 0):=(by simp [zz,A]);have c4:C.cell? ⟨f,2,none⟩=some (.string ⟨#[]⟩):=(by simp [zz,A]);have g0:=jB (v:=.int .i32 (-2)) f9;have j1:=jB (v:=.int .i64 p) c3;have j2:=jB (v:=.string ⟨#[]⟩) c4;have j0:∀t,C.frozen? ⟨f,t,none⟩=false:=(λt=>by simp [zx,A]);clear T A)
     |go_in)
    refine bodyPost_ret (by simp [results,Tryz.results59,go_sem,g0,c3,c4];try rfl) rfl ?_;have e7:aB w C:=(O.o _).trans (c9.o.mono (O.o _).size);have z:w.heap.size<=f:=by rw [a4.o];exact zy _
    have F:=fG (fG (fG e7 (p:=⟨f,0,none⟩) z (.int .i32 (-2))) (p:=⟨f,1,none⟩) z (.int .i64 p)) (p:=⟨f,2,none⟩) z (.string ⟨#[]⟩);refine ⟨nM F _,?_⟩;rw [aI (by rw [a5.o];omega)];exact ⟨rfl,I.o.below F⟩
   ·have f4:¬(20:Int)<(b:Int):=by omega
    obtain ⟨h3,j9,c1⟩:=wX H.o (by omega);simp only [Value.slice.injEq] at c1;obtain ⟨rfl,_,rfl⟩:=c1;obtain ⟨l,rfl⟩ : ∃l,m=l+b:=⟨m-b,by omega⟩;obtain ⟨o,rfl⟩ : ∃o,c=o+b:=⟨c-b,by omega⟩;go_upto_region 10 with (first
     |(go_at_call 88;refine (aD y _).mono ?_;rintro x c5 ⟨rfl,rfl⟩)
     |go_in)
    have L:=a7.o.below ((Below.refl wr.heap.size wr).alloc (zy _) (.cells #[.int .i32 (aT s (p+b)),.int .i64 ((p:Int)+b)] 120));have P:=H.o.alloc (.cells #[.int .i32 (aT s (p+b)),.int .i64 ((p:Int)+b)] 120);have b3:=O.o (.cells #[.int .i32 (aT s (p+b)),.int .i64 ((p:Int)+b)] 120);have b4:=b1.o (.cells #[.int .i32 (aT s (p+b)),.int .i64 ((p:Int)+b)] 120);have f7:f<(wr.alloc (.cells #[.int .i32 (aT s (p+b)),.int .i64 ((p:Int)+b)] 120)).heap.size:=by simp;omega
    generalize wr.alloc (.cells #[.int .i32 (aT s (p+b)),.int .i64 ((p:Int)+b)] 120)=W at *;have g2:=L.box.c0;have g3:=L.at0.2;have j3:∀e,(W.alloc e).cell? ⟨pb,0,none⟩=some (.slice (some ⟨g,j*2,none⟩) (l+b+1) (o+b+1)):=λe=>aC ((Below.refl W.heap.size W).alloc (zy _) e) g2
    have j4:∀e,(W.alloc e).cell? ⟨g,j*2+1,none⟩=some (.int .i64 p):=λe=>aC ((Below.refl W.heap.size W).alloc (zy _) e) g3
    have h5:=aI3 (W:=W.drew) P a8.o;have h6:=λe=>aI3 (W:=(W.alloc e).drew) (World.ownsRow.alloc (w:=W) P e) a8.o
    have i1:(0:Int)<(l:Int)+b+1:=by omega
    have d4:=aA L;have c8:=aA b3;have d5:=aA b4;clear L b3 b4 P;go_region;have X:aB W (W.alloc (.cells #[.int .i32 r,.int .i64 p,.string (s.extract p (p+b))] 58)).drew:=((Below.refl W.heap.size W).alloc (zy _) _).trans ((aR (w1:=(W.alloc (.cells #[.int .i32 r,.int .i64 p,.string (s.extract p (p+b))] 58)).drew) ⟨1,rfl⟩).mono (by simp));have D:=d4.o.below X;have R:=(X.block f f7).trans d5.o;have Q:(W.alloc (.cells #[.int .i32 r,.int .i64 p,.string (s.extract p (p+b))] 58)).drew.heap[W.heap.size]?=some (.cells #[.int .i32 r,.int .i64 p,.string (s.extract p (p+b))] 58):=by show (W.heap.push _)[W.heap.size]?=_;simp
    have b5:=bD c8.o X;have i9:W.heap.size<(W.alloc (.cells #[.int .i32 r,.int .i64 p,.string (s.extract p (p+b))] 58)).drew.heap.size:=by show W.heap.size<(W.heap.push _).size;simp
    generalize (W.alloc (.cells #[.int .i32 r,.int .i64 p,.string (s.extract p (p+b))] 58)).drew=n at *;generalize W.heap.size=tb at *;have k1:=D.box.c0;have k2:=D.box.soft 0;have g8:=aA D;have h1:=aA R;have g9:=aA Q;have d0:=aA b5;have i7:f≠tb:=by omega
    have f2:pb≠f:=by omega
    have f3:pb≠tb:=by omega
    have g7:=aA (bN.jump b (p+b) l o D a2.o G);have u:∀d,(n.setCell ⟨pb,0,none⟩ d).heap[f]?=some (.cells #[.int .i32 0,.int .i64 0,.string ⟨#[]⟩] 58)/\(n.setCell ⟨pb,0,none⟩ d).heap[tb]?=some (.cells #[.int .i32 r,.int .i64 p,.string (s.extract p (p+b))] 58):=λd=>⟨by rw [Below.heap_setCell _ _ _ _ f2.symm];exact R,by rw [Below.heap_setCell _ _ _ _ f3.symm];exact Q⟩
    have g5:∀d,(n.setCell ⟨pb,0,none⟩ d).cell? ⟨f,0,none⟩=some (.int .i32 0):=λd=>by simp [zz,(u d).1]
    have c6:∀d,(n.setCell ⟨pb,0,none⟩ d).cell? ⟨f,1,none⟩=some (.int .i64 0):=λd=>by simp [zz,(u d).1]
    have c7:∀d,(n.setCell ⟨pb,0,none⟩ d).cell? ⟨f,2,none⟩=some (.string ⟨#[]⟩):=λd=>by simp [zz,(u d).1]
    have k3:∀d t,(n.setCell ⟨pb,0,none⟩ d).frozen? ⟨f,t,none⟩=false:=λd t=>by simp [zx,(u d).1]
    have k4:∀d,(n.setCell ⟨pb,0,none⟩ d).cell? ⟨tb,0,none⟩=some (.int .i32 r):=λd=>by simp [zz,(u d).2]
    have k5:∀d,(n.setCell ⟨pb,0,none⟩ d).cell? ⟨tb,1,none⟩=some (.int .i64 p):=λd=>by simp [zz,(u d).2]
    have k6:∀d,(n.setCell ⟨pb,0,none⟩ d).cell? ⟨tb,2,none⟩=some (.string (s.extract p (p+b))):=λd=>by simp [zz,(u d).2]
    clear u D R Q b5;have h8:l+b+1-b=l+1:=by omega
    have h4:o+b+1-b=o+1:=by omega
    have g6:=λd=>jB (v:=.int .i32 r) (g5 d)
    have k7:=λd=>jB (v:=.int .i64 p) (c6 d)
    have k8:=λd=>jB (v:=.string (s.extract p (p+b))) (c7 d)
    go_wp2;refine bodyPost_ret (by simp [results,Tryz.results59,go_sem,g6,c6,c7];try rfl) rfl ?_;have e6:Below (w.setCell ⟨pb,0,none⟩ (.slice (some ⟨g,j*2+b*2,none⟩) (l+1) (o+1))).heap.size (w.setCell ⟨pb,0,none⟩ (.slice (some ⟨g,j*2+b*2,none⟩) (l+1) (o+1))) (n.setCell ⟨pb,0,none⟩ (.slice (some ⟨g,j*2+b*2,none⟩) (l+1) (o+1))):=aEb d0.o (I.o.box.lt) _;have z:(w.setCell ⟨pb,0,none⟩ (.slice (some ⟨g,j*2+b*2,none⟩) (l+1) (o+1))).heap.size<=f:=by rw [<-a4.o];simp [zn]
    have F:=fG (fG (fG e6 (p:=⟨f,0,none⟩) z (.int .i32 r)) (p:=⟨f,1,none⟩) z (.int .i64 p)) (p:=⟨f,2,none⟩) z (.string (s.extract p (p+b)));have e1:=(bN.jump b (p+b) l o I.o a2.o G).below F;have e9:w.grownBy (w.setCell ⟨pb,0,none⟩ (.slice (some ⟨g,j*2+b*2,none⟩) (l+1) (o+1))) (some pb):=cM _ _ _;refine ⟨e9.trans (nM F _),?_⟩;rw [a5.o,aH (by omega)];exact ⟨rfl,_,_,_,e1⟩
end
structure pL(B:Nat)(w:World)(s:ByteArray)(p g j m c:Nat):Prop where
 row:w.ownsRow B 120 2 (.slice (some ⟨g,0,none⟩) (j+m+1) (j+c+1)) (j+m+1) (nZ (bY s 0))
 len:(bY s 0).length=j+m+1
 drop:(bY s 0).drop j=bY s p
 le:p<=s.size
section
variable {B:Nat}{w w':World}{pb:Nat}{s:ByteArray}{p g j m c:Nat}{k a:Int}{wd:ByteArray}{vC vP vM:Value}
theorem bN.gl(b:bN B w pb s p g j m c k a wd vC vP vM):pL B w s p g j m c:=⟨b.row,b.len,b.drop,b.le⟩
theorem pL.below(b:pL B w s p g j m c)(d:aB w w'):pL B w' s p g j m c:=⟨bK b.row d (zy _),b.len,b.drop,b.le⟩
theorem pL.at0(b:pL B w s p g j m c):w.cell? ⟨g,j*2,none⟩=some (.int .i32 (aT s p))/\w.cell? ⟨g,j*2+1,none⟩=some (.int .i64 p):=by
 obtain ⟨o,n⟩:=aEa s p b.le;have l:j<(bY s 0).length:=by have:=b.len;omega
 have i:(bY s 0)[j]=(aT s p,p):=by
  have d:((bY s 0).drop j)[0]?=some (aT s p,p):=by rw [b.drop,n];rfl
  rw [List.getElem?_drop,zv (by omega)] at d;simpa using d
 obtain ⟨e,f⟩:=aE5 (bY s 0) j l;rw [i] at e f;exact ⟨by rw [b.row.cellAt _ (by omega),e],by rw [b.row.cellAt _ (by omega),f]⟩
theorem pL.more(e:pL B w s p g j m c)(i:p<s.size):∃d b,m=d+1/\c=b+1/\pL B w s (p+iC s p) g (j+1) d b:=by
 have y:=e.len;have n:=congrArg List.length e.drop;rw [List.length_drop,tF i,List.length_cons] at n;have v:=(aAu s _ (p+(Utf8.decode s p).2) (zy _)).1;obtain ⟨_,o⟩:=e.row;rcases o with ⟨f,_⟩|⟨u,r,t,f,_,_,x,_⟩
 ·simp at f
 ·simp at f;obtain ⟨_,rfl⟩:=f;have q:=e.row;obtain ⟨d,rfl⟩ : ∃d,m=d+1:=⟨m-1,by omega⟩;obtain ⟨b,rfl⟩ : ∃b,c=b+1:=⟨c-1,by omega⟩;refine ⟨d,b,rfl,rfl,?_,by omega,?_,yS s p i⟩
  ·rw [show j+1+d+1=j+(d+1)+1 by omega,show j+1+b+1=j+(b+1)+1 by omega];exact q
  ·have l:(bY s 0).drop (j+1)=((bY s 0).drop j).drop 1:=by rw [List.drop_drop]
   rw [l,e.drop,tF i];rfl
theorem bN.put(e:bN B w pb s p g j m c k a wd vC vP vM){l f i d:Nat}(b:pL B w s l g f i d):bN B (w.setCell ⟨pb,0,none⟩ (.slice (some ⟨g,f*2,none⟩) (i+1) (d+1))) pb s l g f i d k a wd vC vP vM:=
 ⟨e.box.set0 _,e.high,e.box.row b.row (by decide) _ _,b.len,b.drop,b.le⟩
end
structure Qlp(B:Nat)(w w1:World)(s:ByteArray)(p g:Nat)(v rest:Value)(f q j m c:Nat)(rs:List Int)(wr:World):Prop where
 gl:pL B w s q g j m c
 rst:rest=.slice (some ⟨g,j*2,none⟩) (m+1) (c+1)
 row:wr.ownsRow w1.heap.size 21 1 v rs.length (rs.map (zp .i32))
 far:aB w1 wr
 quo:oR s p=fE s f (runesBytes rs) q
 fuel:s.size<=q+f
 ok:rT rs
 few:rs.length<=q
theorem aI4{W:World}{f:Nat}{b d:Nat}{a:List Int}(i:W.ownsRow f 21 1 (.slice (some ⟨b,0,none⟩) a.length d) a.length (a.map (zp .i32))):(convert 138 9 (.slice (some ⟨b,0,none⟩) a.length d)).run zu W=.ok (.string (runesBytes a)) W:=by
 have g:=run_convert_runes (P:=zu) W 138 9 21 ⟨b,0,none⟩ a.length d a (by omega) zw (by kernel_rfl) (by kernel_rfl) (λc e=>by
  have:=i.cellAt c (by omega);rw [zl,zv e,Option.map_some] at this;rw [show (⟨b,0,none⟩ : Addr).add c=⟨b,c,none⟩ by simp [Addr.add];omega,this];simp [List.getD,e])
 rw [g,zr (by omega)]
def uB(d b:Nat)(c:ByteArray)(a g q s o:Nat)(i e:Int)(m:ByteArray)(j l k:Value)(w:World)(f:Ending)(w':World):Prop:=
 w.grownBy w' (some b)/\
  match oR c a with
  |none=>f=.returned (fW (-2) a ⟨#[]⟩)/\bN d w' b c a g q s o i e m j l k
  |some (n,e')=>f=.returned (fW 97 a n)/\∃r t p,bN d w' b c e' g r t p i e m j l k
theorem uB.bad{a j:Nat}{s:ByteArray}{p d f i c:Nat}{g b:Int}{n:ByteArray}{k m l:Value}(o:bN a w j s p d f i c g b n k m l)(e:aB w w')(q:oR s p=none):uB a j s p d f i c g b n k m l w (.returned (fW (-2) p ⟨#[]⟩)) w':=by refine ⟨nM e _,?_⟩;rw [q];exact ⟨rfl,o.below e⟩
section
variable {B:Nat}{pb:Nat}{s:ByteArray}{p g j m c:Nat}{k a:Int}{wd:ByteArray}{vC vP vM:Value}
theorem aI5(a4:bN B w pb s p g j m c k a wd vC vP vM)(k5:s.size<=3000)(d3:aT s p=39):Calls zu 61 #[.pointer (some ⟨pb,0,none⟩)] w λe w'=>uB B pb s p g j m c k a wd vC vP vM w e w':=by
 have c5:p<s.size:=Classical.byContradiction λz=>by rw [oS s p z] at d3;omega
 have h3:iC s p=1:=(mR s p c5 (by have:=(eX s p c5 39 (by omega)).1 d3;omega)).2;obtain ⟨e7,d6,d7,d8,d9⟩:=info_parts aLw;obtain ⟨b1,b8,rfl,rfl,b9⟩:=a4.gl.more c5;rw [h3] at b9;have d2:=a4.box.c0;have g1:∀q,(w.alloc q).cell? ⟨pb,0,none⟩=some (.slice (some ⟨g,j*2,none⟩) (b1+1+1) (b8+1+1)):=λq=>aC ((Below.refl _ w).alloc (zy _) q) d2
 have c9:aM (∀q,aB w (w.alloc q)):=aA λq=>(Below.refl _ _).alloc (zy _) q
 have d0:aM (∀q,(w.alloc q).heap[w.heap.size]?=some q/\(w.alloc q).heap.size=w.heap.size+1):=aA λq=>⟨by show (w.heap.push _)[w.heap.size]?=_;simp,by simp⟩
 have M:=aA a4;have g9:=a4.box.lt;have f1:=aA b9;clear a4 d2 b9;go_enter Tryz.func61,Tryz.ntmps61;go_wp2;have c2:=c9.o (.cells #[.int .i32 0,.int .i64 0,.string ⟨#[]⟩] 58);have f3:=aA (M.o.below c2);obtain ⟨e6,h6⟩:=d0.o (.cells #[.int .i32 0,.int .i64 0,.string ⟨#[]⟩] 58);have b2:=aA c2;have d1:=aA e6;clear c2 e6 c9 d0;generalize w.alloc (.cells #[.int .i32 0,.int .i64 0,.string ⟨#[]⟩] 58)=w1 at *;have e5:w.heap.size<w1.heap.size:=by omega
 obtain ⟨b,b0⟩ : ∃b,w.heap.size=b:=⟨_,rfl⟩;rw [b0] at e5 d1 g9;simp only [b0];have a2:=aA b0;clear b0 h6 g1;go_loopg [3,4] s.size (λg4 i2 i1 wr=>∃d h8 h9 f9 n,Qlp B w w1 s p g i2 i1 g4 d h8 h9 f9 n wr);case atStart=>exact ⟨p+1,j+1,b1,b8,[],f1.o,by rw [show (j+1)*2=j*2+2 by omega],zk _ _ _ _,Below.refl _ _,rfl,by omega,rT.nil,by simp⟩
 case round=>
  obtain ⟨d,u,k7,j6,n,f⟩:=hrel;have h2:=f.rst;subst h2;have O:=(f.gl.below b2.o).below f.far;have b7:=O.at0.1;have k3:=f.gl.le;have e3:=f.fuel;have k0:=f.few;have k1:=f.far.size;have G:=aA f;have a0:aM (aB w wr):=aA (bD b2.o f.far);have a3:aM (wr.heap[b]?=some (.cells #[.int .i32 0,.int .i64 0,.string ⟨#[]⟩] 58)):=aA ((f.far.block b e5).trans d1.o);have Z:=aA (f3.o.below f.far);by_cases E:aT s d=39
  ·obtain ⟨y,a9⟩:=aYo (rs:=n) e3 E;have a8:=f.ok.name;rw [E] at b7;by_cases z:1<=n.length/\n.length<=20
   ·have f4:aM (oR s p=some (runesBytes n,d+1)):=aA (by rw [f.quo,a9,a8,fA z.1,fA z.2];rfl);obtain ⟨J,H,rfl,rfl,x⟩:=f.gl.more y;have c6:iC s d=1:=(mR s d y (by have:=(eX s d y 39 (by omega)).1 E;omega)).2;rw [c6] at x;obtain ⟨j7,l0,rfl⟩:=wX f.row (by omega);have e4:((n.length:Int)==0)=false:=by rw [beq_eq_false_iff_ne];omega
    have g8:decide ((20:Int)<(n.length:Int))=false:=by simp;omega
    have i3:=Z.o.box.c0;have i4:=Z.o.at0.2;have k8:∀q,(wr.alloc q).cell? ⟨pb,0,none⟩=some (.slice (some ⟨g,j*2,none⟩) (b1+1+1) (b8+1+1)):=λq=>aC ((Below.refl wr.heap.size wr).alloc (zy _) q) i3
    have k9:∀q,(wr.alloc q).cell? ⟨g,j*2+1,none⟩=some (.int .i64 p):=λq=>aC ((Below.refl wr.heap.size wr).alloc (zy _) q) i4
    have j8:=aI4 (W:=wr.drew) f.row;have j9:=λq=>aI4 (W:=(wr.alloc q).drew) (World.ownsRow.alloc (w:=wr) f.row q)
    have k2:(0:Int)<(b1:Int)+1+1:=by omega
    have b3:=aA x;have h7:b<wr.heap.size:=by omega
    clear f O x a9 a8;go_upto_region 18 with (fail);go_region;have c7:aB wr (wr.alloc (.cells #[.int .i32 97,.int .i64 p,.string (runesBytes n)] 58)).drew:=((Below.refl wr.heap.size wr).alloc (zy _) _).trans ((aR (w1:=(wr.alloc (.cells #[.int .i32 97,.int .i64 p,.string (runesBytes n)] 58)).drew) ⟨1,rfl⟩).mono (by simp));have c1:=Z.o.below c7;have e1:=(c7.block b h7).trans a3.o;have e0:(wr.alloc (.cells #[.int .i32 97,.int .i64 p,.string (runesBytes n)] 58)).drew.heap[wr.heap.size]?=some (.cells #[.int .i32 97,.int .i64 p,.string (runesBytes n)] 58):=by show (wr.heap.push _)[wr.heap.size]?=_;simp
    have e2:=bD a0.o c7;generalize (wr.alloc (.cells #[.int .i32 97,.int .i64 p,.string (runesBytes n)] 58)).drew=Y at *;generalize wr.heap.size=tb at *;have l1:=c1.box.c0;have l2:=c1.box.soft 0;have f0:=aA e2;have k4:b≠tb:=by omega
    have h0:pb≠b:=by omega
    have h1:pb≠tb:=by omega
    have I:∀i,(Y.setCell ⟨pb,0,none⟩ i).heap[b]?=some (.cells #[.int .i32 0,.int .i64 0,.string ⟨#[]⟩] 58)/\(Y.setCell ⟨pb,0,none⟩ i).heap[tb]?=some (.cells #[.int .i32 97,.int .i64 p,.string (runesBytes n)] 58):=λi=>⟨by rw [Below.heap_setCell _ _ _ _ h0.symm];exact e1,by rw [Below.heap_setCell _ _ _ _ h1.symm];exact e0⟩
    have j0:∀i,(Y.setCell ⟨pb,0,none⟩ i).cell? ⟨b,0,none⟩=some (.int .i32 0):=λi=>by simp [zz,(I i).1]
    have j1:∀i,(Y.setCell ⟨pb,0,none⟩ i).cell? ⟨b,1,none⟩=some (.int .i64 0):=λi=>by simp [zz,(I i).1]
    have j2:∀i,(Y.setCell ⟨pb,0,none⟩ i).cell? ⟨b,2,none⟩=some (.string ⟨#[]⟩):=λi=>by simp [zz,(I i).1]
    have l3:∀i v,(Y.setCell ⟨pb,0,none⟩ i).frozen? ⟨b,v,none⟩=false:=λi v=>by simp [zx,(I i).1]
    have l4:∀i,(Y.setCell ⟨pb,0,none⟩ i).cell? ⟨tb,0,none⟩=some (.int .i32 97):=λi=>by simp [zz,(I i).2]
    have l5:∀i,(Y.setCell ⟨pb,0,none⟩ i).cell? ⟨tb,1,none⟩=some (.int .i64 p):=λi=>by simp [zz,(I i).2]
    have l6:∀i,(Y.setCell ⟨pb,0,none⟩ i).cell? ⟨tb,2,none⟩=some (.string (runesBytes n)):=λi=>by simp [zz,(I i).2]
    clear I c1 e1 e0 e2;have j3:=λi=>jB (v:=.int .i32 97) (j0 i)
    go_wp2;refine bodyPost_ret (by simp [results,zt,go_sem,j3,j1,j2];try rfl) rfl ?_;have d5:=M.o.put b3.o;rw [show (u+1)*2=u*2+2 by omega] at d5;have g5:Below (w.setCell ⟨pb,0,none⟩ (.slice (some ⟨g,u*2+2,none⟩) (J+1) (H+1))).heap.size (w.setCell ⟨pb,0,none⟩ (.slice (some ⟨g,u*2+2,none⟩) (J+1) (H+1))) (Y.setCell ⟨pb,0,none⟩ (.slice (some ⟨g,u*2+2,none⟩) (J+1) (H+1))):=aEb f0.o (M.o.box.lt) _;have r:(w.setCell ⟨pb,0,none⟩ (.slice (some ⟨g,u*2+2,none⟩) (J+1) (H+1))).heap.size<=b:=by rw [<-a2.o];simp [zn]
    have C:=fG (fG (fG g5 (p:=⟨b,0,none⟩) r (.int .i32 97)) (p:=⟨b,1,none⟩) r (.int .i64 p)) (p:=⟨b,2,none⟩) r (.string (runesBytes n));have g6:w.grownBy (w.setCell ⟨pb,0,none⟩ (.slice (some ⟨g,u*2+2,none⟩) (J+1) (H+1))) (some pb):=cM _ _ _;refine ⟨g6.trans (nM C _),?_⟩;rw [f4.o];exact ⟨rfl,_,_,_,d5.below C⟩
   ·have V:aM (oR s p=none):=aA (by
     rw [f.quo,a9,a8,aH];intro e;simp only [Bool.and_eq_true,decide_eq_true_eq] at e;exact z e)
    have D:=aA (wW Z.o);unfold fW at D;obtain ⟨e8,e9,rfl⟩:=aZ f.row;clear f O a9 a8;by_cases h5:n.length=0
    ·have e4:((n.length:Int)==0)=true:=by rw [h5];rfl
     go_wp2_with (first
      |(go_at_call 64;refine (aD D).mono ?_;rintro e l ⟨rfl,t⟩;have o:=(t.block b (by omega)).trans a3.o;have L:=aA t;have R:l.cell? ⟨b,0,none⟩=some (.int .i32 0):=(by simp [zz,o]);have S:l.cell? ⟨b,1,none⟩=some (.int .i64 0):=(by simp [zz,o]);have T:l.cell? ⟨b,2,none⟩=some (.string ⟨#[]⟩):=(by simp [zz,o]);have U:=jB (v:=.int .i32 (-2)) R;have c8:∀v,l.frozen? ⟨b,v,none⟩=false:=(λv=>by simp [zx,o]);clear t o)
      |go_in)
     refine bodyPost_ret (by simp [results,zt,go_sem,U,S,T];try rfl) rfl ?_;have P:aB w l:=bD a0.o L.o;have r:w.heap.size<=b:=by rw [a2.o];exact zy _
     have C:=fG (fG (fG P (p:=⟨b,0,none⟩) r (.int .i32 (-2))) (p:=⟨b,1,none⟩) r (.int .i64 p)) (p:=⟨b,2,none⟩) r (.string ⟨#[]⟩);exact uB.bad M.o C V.o
    ·have e4:((n.length:Int)==0)=false:=by rw [beq_eq_false_iff_ne];omega
     have g8:(20:Int)<(n.length:Int):=by omega
     go_wp2_with (first
      |(go_at_call 64;refine (aD D).mono ?_;rintro e l ⟨rfl,t⟩;have o:=(t.block b (by omega)).trans a3.o;have L:=aA t;have R:l.cell? ⟨b,0,none⟩=some (.int .i32 0):=(by simp [zz,o]);have S:l.cell? ⟨b,1,none⟩=some (.int .i64 0):=(by simp [zz,o]);have T:l.cell? ⟨b,2,none⟩=some (.string ⟨#[]⟩):=(by simp [zz,o]);have U:=jB (v:=.int .i32 (-2)) R;have c8:∀v,l.frozen? ⟨b,v,none⟩=false:=(λv=>by simp [zx,o]);clear t o)
      |go_in)
     refine bodyPost_ret (by simp [results,zt,go_sem,U,S,T];try rfl) rfl ?_;have P:aB w l:=bD a0.o L.o;have r:w.heap.size<=b:=by rw [a2.o];exact zy _
     have C:=fG (fG (fG P (p:=⟨b,0,none⟩) r (.int .i32 (-2))) (p:=⟨b,1,none⟩) r (.int .i64 p)) (p:=⟨b,2,none⟩) r (.string ⟨#[]⟩);exact uB.bad M.o C V.o
  ·by_cases A:aT s d=92
   ·have y:d<s.size:=Classical.byContradiction λz=>by rw [oS s d z] at A;omega
    obtain ⟨J,H,rfl,rfl,x⟩:=f.gl.more y;obtain ⟨F,rfl⟩ : ∃F,gk=F+1:=⟨gk-1,by omega⟩;have c6:iC s d=1:=(mR s d y (by have:=(eX s d y 92 (by omega)).1 A;omega)).2;rw [c6] at x;have X:=aA (aYr (rs:=n) (f:=F) y A);have f5:=((x.below b2.o).below f.far).at0.1;rw [show (u+1)*2=u*2+2 by omega] at f5;have a7:=aA (λi9=>aYi (aT s (d+1)) i9);rw [A] at b7;cases hesc:oW (aT s (d+1))
    ·rw [hesc] at a7 X;have V:aM (oR s p=none):=aA (by rw [f.quo,X.o];rfl);have D:=aA (wW Z.o);unfold fW at D;clear f O x E A hesc;generalize aT s (d+1)=cc at *;go_wp2_with (first
      |(go_at_call 89;refine (aD a7 _).mono ?_;rintro e i8 ⟨rfl,rfl⟩)
      |(go_at_call 64;refine (aD D).mono ?_;rintro e l ⟨rfl,t⟩;have o:=(t.block b (by omega)).trans a3.o;have L:=aA t;have R:l.cell? ⟨b,0,none⟩=some (.int .i32 0):=(by simp [zz,o]);have S:l.cell? ⟨b,1,none⟩=some (.int .i64 0):=(by simp [zz,o]);have T:l.cell? ⟨b,2,none⟩=some (.string ⟨#[]⟩):=(by simp [zz,o]);have U:=jB (v:=.int .i32 (-2)) R;have c8:∀v,l.frozen? ⟨b,v,none⟩=false:=(λv=>by simp [zx,o]);clear t o)
      |go_in)
     refine bodyPost_ret (by simp [results,zt,go_sem,U,S,T];try rfl) rfl ?_;have P:aB w l:=bD a0.o L.o;have r:w.heap.size<=b:=by rw [a2.o];exact zy _
     have C:=fG (fG (fG P (p:=⟨b,0,none⟩) r (.int .i32 (-2))) (p:=⟨b,1,none⟩) r (.int .i64 p)) (p:=⟨b,2,none⟩) r (.string ⟨#[]⟩);exact uB.bad M.o C V.o
    ·rw [hesc] at a7 X;have d4:aT s (d+1)=39\/aT s (d+1)=92:=by unfold oW at hesc;simpa using hesc
     have a6:d+1<s.size:=Classical.byContradiction λz=>by rw [oS s (d+1) z] at d4;omega
     obtain ⟨i0,g0,rfl,rfl,c0⟩:=x.more a6;have h4:iC s (d+1)=1:=(mR s (d+1) a6 (by have g2:=eX s (d+1) a6 39 (by omega);have g3:=eX s (d+1) a6 92 (by omega);rcases d4 with e|e;have:=g2.1 e;omega;have:=g3.1 e;omega)).2;rw [h4] at c0;have b6:=aA (f.ok.more a6 (by omega) (by omega));obtain ⟨e8,e9,rfl⟩:=aZ f.row;have a1:=aA f.row;have b4:=aA c0;clear f O x c0 E A hesc;generalize aT s (d+1)=cc at *;have f7:(cc==10)=false:=by rw [beq_eq_false_iff_ne];omega
     have f8:(cc==-2)=false:=by rw [beq_eq_false_iff_ne];omega
     have f6:(cc==-1)=false:=by rw [beq_eq_false_iff_ne];omega
     go_wp2_with (first
      |(go_at_call 89;refine (aD a7 _).mono ?_;rintro e i8 ⟨rfl,rfl⟩)
      |(at_builtin;refine wpList_append_own _ rfl (.tmp 37) (.tmp 39) 138 rfl w1.heap.size 21 e7 (.int .i32 0) 1 4 zw d6 d7 d8 d9 rfl (by decide) _ _ _ rfl (a1.o.alloc _) ⟨_,0,none⟩ 1 1 [.int .i32 cc] rfl rfl (tU _ _ _ _ rfl) (aEp _) (by unfold maxLen;omega) (by omega) (by simp;omega) ?_;intro i5 l Q a5 _;have b5:=aA Q;have f2:=aA a5;obtain ⟨i6,i7,rfl⟩:=aZ Q;clear Q a5)
      |go_in)
     go_roundg F;case measure=>omega
     case rel=>exact ⟨d+1+1,u+1+1,i0,g0,n++[cc],b4.o,by rw [show (u+1+1)*2=u*2+2+2 by omega],by rw [zq,zm];exact b5.o,(G.o.far.alloc G.o.far.size _).grown f2.o (zs G.o.far.size (by simp)) (λk e=>(cO a1.o k e).1),by rw [G.o.quo,X.o];rfl,by omega,b6.o,by simp;omega⟩
   ·by_cases N:aT s d=10\/aT s d=-2\/aT s d=-1
    ·have V:aM (oR s p=none):=aA (by rw [f.quo,aYp e3 E A N]);have D:=aA (wW Z.o);unfold fW at D;clear f O;rcases N with e|e|e;all_goals
      rw [e] at b7;clear e E A;go_wp2_with (first
       |(go_at_call 64;refine (aD D).mono ?_;rintro e l ⟨rfl,t⟩;have o:=(t.block b (by omega)).trans a3.o;have L:=aA t;have R:l.cell? ⟨b,0,none⟩=some (.int .i32 0):=(by simp [zz,o]);have S:l.cell? ⟨b,1,none⟩=some (.int .i64 0):=(by simp [zz,o]);have T:l.cell? ⟨b,2,none⟩=some (.string ⟨#[]⟩):=(by simp [zz,o]);have U:=jB (v:=.int .i32 (-2)) R;have c8:∀v,l.frozen? ⟨b,v,none⟩=false:=(λv=>by simp [zx,o]);clear t o)
       |go_in)
      refine bodyPost_ret (by simp [results,zt,go_sem,U,S,T];try rfl) rfl ?_;have P:aB w l:=bD a0.o L.o;have r:w.heap.size<=b:=by rw [a2.o];exact zy _
      have C:=fG (fG (fG P (p:=⟨b,0,none⟩) r (.int .i32 (-2))) (p:=⟨b,1,none⟩) r (.int .i64 p)) (p:=⟨b,2,none⟩) r (.string ⟨#[]⟩);exact uB.bad M.o C V.o
    ·have y:d<s.size:=Classical.byContradiction λz=>N (Or.inr (Or.inr (oS s d z)))
     obtain ⟨J,H,rfl,rfl,x⟩:=f.gl.more y;obtain ⟨F,rfl⟩ : ∃F,gk=F+1:=⟨gk-1,by omega⟩;have c3:aT s d≠10:=λe=>N (Or.inl e)
     have c4:aT s d≠-2:=λe=>N (Or.inr (Or.inl e))
     have g7:aT s d≠-1:=λe=>N (Or.inr (Or.inr e))
     have X:=aA (aYq (rs:=n) (f:=F) y E A c3 c4);have b6:=aA (f.ok.more y c4 c3);have k6:=yR s d;obtain ⟨e8,e9,rfl⟩:=aZ f.row;have a1:=aA f.row;have b3:=aA x;clear f O x N;generalize aT s d=cc at *;have j4:(cc != 39)=true:=by simpa using E
     have j5:(cc==92)=false:=by simpa using A
     have f7:(cc==10)=false:=by simpa using c3
     have f8:(cc==-2)=false:=by simpa using c4
     have f6:(cc==-1)=false:=by simpa using g7
     go_wp2_with (first
      |(at_builtin;refine wpList_append_own _ rfl (.tmp 37) (.tmp 39) 138 rfl w1.heap.size 21 e7 (.int .i32 0) 1 4 zw d6 d7 d8 d9 rfl (by decide) _ _ _ rfl (a1.o.alloc _) ⟨_,0,none⟩ 1 1 [.int .i32 cc] rfl rfl (tU _ _ _ _ rfl) (aEp _) (by unfold maxLen;omega) (by omega) (by simp;omega) ?_;intro i5 l Q a5 _;have b5:=aA Q;have b4:=aA a5;obtain ⟨i6,i7,rfl⟩:=aZ Q;clear Q a5)
      |go_in)
     go_roundg F;case measure=>omega
     case rel=>exact ⟨d+iC s d,u+1,J,H,n++[cc],b3.o,by rw [show (u+1)*2=u*2+2 by omega],by rw [zq,zm];exact b5.o,(G.o.far.alloc G.o.far.size _).grown b4.o (zs G.o.far.size (by simp)) (λk e=>(cO a1.o k e).1),by rw [G.o.quo,X.o],by omega,b6.o,by simp;omega⟩
end
abbrev fB:ByteArray:=⟨#[36,102,97,108,115,101]⟩
def uC(b:ByteArray)(a:Nat):Prop:=a+6<=b.size/\b.extract a (a+6)=fB
theorem aAa:∀a,a<6->aE fB a<128:=by
 have:∀a:Fin 6,aE fB a.1<128:=by decide
 exact λa b=>this ⟨a,b⟩
theorem aI6{c:ByteArray}{b:Nat}:uC c b↔b+6<=c.size/\∀a,a<6->aE c (b+a)=aE fB a:=by
 unfold uC;constructor
 ·rintro ⟨d,e⟩;refine ⟨d,λa m=>?_⟩;have:aE (c.extract b (b+6)) a=aE fB a:=by rw [e]
  rw [<-this,nD (c.extract b (b+6)) a (by rw [ByteArray.size_extract];omega),nD c (b+a) (by omega),ByteArray.getElem_extract]
 ·rintro ⟨d,e⟩;refine ⟨d,?_⟩;apply ByteArray.ext;apply Array.ext
  ·have:(c.extract b (b+6)).size=6:=by rw [ByteArray.size_extract];omega
   exact this
  ·intro a k l;have g:a<6:=l;have f:=e a g;rw [nD c (b+a) (by omega),nD fB a g] at f;have i:(c.extract b (b+6))[a]'k=c[b+a]'(by omega):=ByteArray.getElem_extract ..;have j:=UInt8.toNat_inj.1 f;exact i.trans j
def aS1(d c:Nat)(b:ByteArray)(a g p r n:Nat)(i e:Int)(m:ByteArray)(j l k:Value)(w:World)(f:Ending)(w':World):Prop:=
 w.grownBy w' (some c)/\((uC b a/\f=.returned (fW 36 a ⟨#[]⟩)/\∃q s o,bN d w' c b (a+6) g q s o i e m j l k)\/(¬uC b a/\f=.returned (fW (-2) a ⟨#[]⟩)/\bN d w' c b a g p r n i e m j l k))
section
variable {B:Nat}{pb:Nat}{s:ByteArray}{p g j m c:Nat}{k a:Int}{wd:ByteArray}{vC vP vM:Value}
theorem aI7(u:bN B w pb s p g j m c k a wd vC vP vM):Calls zu 62 #[.pointer (some ⟨pb,0,none⟩)] w λN w'=>aS1 B pb s p g j m c k a wd vC vP vM w N w':=by
 have M:=u.box.c0;have a5:=u.at0.2;have c1:∀f,(w.alloc f).cell? ⟨pb,0,none⟩=some (.slice (some ⟨g,j*2,none⟩) (m+1) (c+1)):=λf=>aC ((Below.refl _ w).alloc (zy _) f) M
 have c2:∀f,(w.alloc f).cell? ⟨g,j*2+1,none⟩=some (.int .i64 p):=λf=>aC ((Below.refl _ w).alloc (zy _) f) a5
 have Y:aM (∀f l,aB w ((w.alloc f).alloc l)):=aA λf l=>((Below.refl _ _).alloc (zy _) f).alloc (by simp) l
 have a3:aM (∀f l,((w.alloc f).alloc l).heap[w.heap.size]?=some f/\((w.alloc f).alloc l).heap[w.heap.size+1]?=some l/\((w.alloc f).alloc l).heap.size=w.heap.size+2):=aA λf l=>⟨by show ((w.heap.push _).push _)[w.heap.size]?=_;simp [Array.getElem?_push],by
  show ((w.heap.push f).push l)[w.heap.size+1]?=_;have u:((w.heap.push f).push l)[(w.heap.push f).size]?=some l:=by rw [Array.getElem?_push];exact aI rfl
  rwa [Array.size_push] at u,by simp⟩
 have C:=aA u;have d5:=u.box.lt;clear u M a5;go_enter Tryz.func62,Tryz.ntmps62;go_wp2;have S:=Y.o (.cells #[.int .i32 0,.int .i64 0,.string ⟨#[]⟩] 58) (.cells #[.int .i32 36,.int .i64 p,.string ⟨#[]⟩] 58);have Q:=aA (C.o.below S);obtain ⟨a9,b0,b1⟩:=a3.o (.cells #[.int .i32 0,.int .i64 0,.string ⟨#[]⟩] 58) (.cells #[.int .i32 36,.int .i64 p,.string ⟨#[]⟩] 58);have Z:=aA S;have R:=aA a9;have a4:=aA b0;clear S a9 b0 Y a3 c1 c2;generalize (w.alloc (.cells #[.int .i32 0,.int .i64 0,.string ⟨#[]⟩] 58)).alloc (.cells #[.int .i32 36,.int .i64 p,.string ⟨#[]⟩] 58)=w2 at *;obtain ⟨d,P⟩ : ∃d,w.heap.size=d:=⟨_,rfl⟩;rw [P] at b1 R a4 d5;simp only [P];have a1:=aA P;clear P;go_loopg [] 6 (λd8 wr=>∃b:Nat,d8+b=6/\wr.heap[d+2]?=some (.stringIter fB b)/\aB w2 wr/\p+b<=s.size/\∀i,i<b->aE s (p+i)=aE fB i);case atStart=>
  refine ⟨0,rfl,?_,(Below.refl _ w2).alloc (zy _) _,C.o.le,λi W=>by omega⟩;have:=World.iter_heap w2 fB 0;rw [b1] at this;simpa using this
 case round=>
  obtain ⟨b,f6,x,t,O,D⟩:=hrel;have e7:=aA x;have b2:=aA D;have a2:=aA t;have d2:∀i,i<b->aE s (p+i)<128:=λi W=>by rw [D i W];exact aAa i (by omega)
  obtain ⟨E,d1⟩:=Q.o.letters b O d2;have b4:=aA E;by_cases I:b<6
  ·have y:b<fB.size:=I;have c8:(fB[b]'y).toNat<128:=by have:=aAa b I;rw [nD fB b y] at this;exact this
   have a8:∀A,(Instr.next (.pointer (some ⟨d+2,0,none⟩)) true A).run zu wr=_:=λA=>Lib.run_next_ascii_at wr (d+2) fB b A x y c8
   have b5:=aA (Lib.iterAt_heap wr (d+2) fB b (b+1) x);have H:=Lib.below_iterAt t (k:=d+2) (by omega) fB (b+1);have q:=Q.o.below H;have c0:=(q.cells b (p+b) E O d1).1;have M:=q.box.c0;have b7:=aA q;have a0:=aA H;have b8:aM ((wr.iterAt (d+2) fB (b+1)).heap[d]?=some (.cells #[.int .i32 0,.int .i64 0,.string ⟨#[]⟩] 58)):=aA ((H.block d (by omega)).trans R.o);have U:(fB[b]'y).toNat=aE fB b:=(nD fB b y).symm;have f2:(b:Int)<(m:Int)+1:=by omega
   have f1:(0:Int)<=(b:Int):=by omega
   by_cases F:aT s (p+b)=(aE fB b:Int)
   ·have d3:p+b<s.size:=Classical.byContradiction λd4=>by rw [oS s _ d4] at F;omega
    have c7:=(eX s (p+b) d3 (aE fB b) (aAa b I)).1 F;rw [F,<-U] at c0;clear x D t E q H;go_wp2;go_roundg (6-(b+1));case measure=>omega
    case rel=>exact ⟨b+1,by omega,b5.o,a0.o,by omega,λi W=>by
     by_cases N:i=b
     ·subst N;exact c7
     ·exact b2.o i (by omega)⟩
   ·have b6:aM (¬uC s p):=aA λc4=>by
     obtain ⟨e9,c3⟩:=aI6.1 c4;exact F ((eX s (p+b) (by omega) (aE fB b) (aAa b I)).2 (c3 b I))
    have X:=aA (wW b7.o);unfold fW at X;rw [U] at a8;generalize aT s (p+b)=cc at *;have f5:(cc != (aE fB b:Int))=true:=by simpa using F
    clear x D t E q H U;go_wp2_with (first
     |(go_at_call 64;refine (aD X).mono ?_;rintro N L ⟨rfl,T⟩;have J:=(T.block d (by have:=a2.o.size;simp only [Lib.iterAt_size];omega)).trans b8.o;have b3:=aA T;have d9:L.cell? ⟨d,0,none⟩=some (.int .i32 0):=(by simp [zz,J]);have e0:L.cell? ⟨d,1,none⟩=some (.int .i64 0):=(by simp [zz,J]);have e1:L.cell? ⟨d,2,none⟩=some (.string ⟨#[]⟩):=(by simp [zz,J]);have e2:=jB (v:=.int .i32 (-2)) d9;have f7:∀b,L.frozen? ⟨d,b,none⟩=false:=(λb=>by simp [zx,J]);clear T J)
     |go_in)
    refine bodyPost_ret (by simp [results,Tryz.results62,go_sem,e2,e0,e1];try rfl) rfl ?_;have V:aB w (wr.iterAt (d+2) fB (b+1)):=bD Z.o a0.o;have c9:aB w L:=bD V b3.o;have z:w.heap.size<=d:=by rw [a1.o];exact zy _
    have G:=fG (fG (fG c9 (p:=⟨d,0,none⟩) z (.int .i32 (-2))) (p:=⟨d,1,none⟩) z (.int .i64 p)) (p:=⟨d,2,none⟩) z (.string ⟨#[]⟩);exact ⟨nM G _,Or.inr ⟨b6.o,rfl,C.o.below G⟩⟩
  ·obtain rfl:b=6:=by omega
   have y:¬6<fB.size:=by decide
   have a8:∀A,(Instr.next (.pointer (some ⟨d+2,0,none⟩)) true A).run zu wr=_:=λA=>Lib.run_next_end_at wr (d+2) fB 6 A x y
   have b9:aM (uC s p):=aA (aI6.2 ⟨O,D⟩);have q:=Q.o.below t;have M:=q.box.c0;have e8:=q.box.soft 0;have a7:=(t.block d (by omega)).trans R.o;have a6:=(t.block (d+1) (by omega)).trans a4.o;obtain ⟨n,rfl⟩ : ∃n,m=n+6:=⟨m-6,by omega⟩;obtain ⟨o,rfl⟩ : ∃o,c=o+6:=⟨c-6,by have:=C.o.mc;omega⟩;have d6:pb≠d:=by omega
   have d7:pb≠d+1:=by omega
   have r:∀e,(wr.setCell ⟨pb,0,none⟩ e).heap[d]?=some (.cells #[.int .i32 0,.int .i64 0,.string ⟨#[]⟩] 58)/\(wr.setCell ⟨pb,0,none⟩ e).heap[d+1]?=some (.cells #[.int .i32 36,.int .i64 p,.string ⟨#[]⟩] 58):=λe=>⟨by rw [Below.heap_setCell _ _ _ _ d6.symm];exact a7,by rw [Below.heap_setCell _ _ _ _ d7.symm];exact a6⟩
   have e3:∀e,(wr.setCell ⟨pb,0,none⟩ e).cell? ⟨d,0,none⟩=some (.int .i32 0):=λe=>by simp [zz,(r e).1]
   have e4:∀e,(wr.setCell ⟨pb,0,none⟩ e).cell? ⟨d,1,none⟩=some (.int .i64 0):=λe=>by simp [zz,(r e).1]
   have e5:∀e,(wr.setCell ⟨pb,0,none⟩ e).cell? ⟨d,2,none⟩=some (.string ⟨#[]⟩):=λe=>by simp [zz,(r e).1]
   have f8:∀e b,(wr.setCell ⟨pb,0,none⟩ e).frozen? ⟨d,b,none⟩=false:=λe b=>by simp [zx,(r e).1]
   have f9:∀e,(wr.setCell ⟨pb,0,none⟩ e).cell? ⟨d+1,0,none⟩=some (.int .i32 36):=λe=>by simp [zz,(r e).2]
   have g0:∀e,(wr.setCell ⟨pb,0,none⟩ e).cell? ⟨d+1,1,none⟩=some (.int .i64 p):=λe=>by simp [zz,(r e).2]
   have g1:∀e,(wr.setCell ⟨pb,0,none⟩ e).cell? ⟨d+1,2,none⟩=some (.string ⟨#[]⟩):=λe=>by simp [zz,(r e).2]
   have e6:=λe=>jB (v:=.int .i32 36) (e3 e)
   have f4:n+6+1-6=n+1:=by omega
   have f0:o+6+1-6=o+1:=by omega
   have f3:(6:Int)<=(n:Int)+6+1:=by omega
   clear r x D t E q a7 a6;go_wp2;refine bodyPost_ret (by simp [results,Tryz.results62,go_sem,e6,e4,e5];try rfl) rfl ?_;have c5:=bN.jump 6 (p+6) n o C.o b4.o O;have V:aB w wr:=bD Z.o a2.o;have c6:Below (w.setCell ⟨pb,0,none⟩ (.slice (some ⟨g,j*2+6*2,none⟩) (n+1) (o+1))).heap.size (w.setCell ⟨pb,0,none⟩ (.slice (some ⟨g,j*2+6*2,none⟩) (n+1) (o+1))) (wr.setCell ⟨pb,0,none⟩ (.slice (some ⟨g,j*2+6*2,none⟩) (n+1) (o+1))):=aEb V (C.o.box.lt) _;have z:(w.setCell ⟨pb,0,none⟩ (.slice (some ⟨g,j*2+6*2,none⟩) (n+1) (o+1))).heap.size<=d:=by rw [<-a1.o];simp [zn]
   have G:=fG (fG (fG c6 (p:=⟨d,0,none⟩) z (.int .i32 36)) (p:=⟨d,1,none⟩) z (.int .i64 p)) (p:=⟨d,2,none⟩) z (.string ⟨#[]⟩);have d0:w.grownBy (w.setCell ⟨pb,0,none⟩ (.slice (some ⟨g,j*2+6*2,none⟩) (n+1) (o+1))) (some pb):=cM _ _ _;exact ⟨d0.trans (nM G _),Or.inl ⟨b9.o,rfl,_,_,_,c5.below G⟩⟩
end
