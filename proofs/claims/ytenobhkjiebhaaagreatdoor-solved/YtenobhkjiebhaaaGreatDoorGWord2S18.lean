import Derived.Test.YtenobhkjiebhaaaGreatDoorGScan0S18
import Derived.Test.YtenobhkjiebhaaaGreatDoorSInS18
import Derived.Deep.DeepCutAuto
open Bool renaming and_eq_false_iff->zn,true->zk,and_eq_true->z7,false->yz
open List renaming length->zt,getElem?_eq_getElem->zj,take_of_length_le->zh,map_append->zg,length_append->zc,getElem?_map->zb
open Nat renaming le_refl->zp,le_trans->zi
open Option renaming some->V,none->zf,map_some->z8
namespace Go.Proofs.YtenobhkjiebhaaaGreatDoor
open Go renaming World->zu,Value->zs
open _root_.Go.Proofs.Tryz renaming prog->zr,results49->zq,underlying187->zo,results83->zl
open Value renaming int->ze
open World renaming cell?->Z,setCell->U,frozen?->zw,grownBy->zv,ownsRow->zm,ownsRow_nil->za
open Go.RowKit
set_option maxHeartbeats 3000000
set_option maxRecDepth 100000
variable{w:zu}
theorem pC{b:zu}(a:aB w b)(e:Option Nat):zv w b e:=⟨a.os,a.tape,a.output,a.size,λd c _=>a.block d c⟩
structure WLp(w1:zu)(s:ByteArray)(p:Nat)(v:zs)(q:Nat)(wr:zu):Prop where
 le:p+q<=s.size
 low:∀i,i<q->aG s (p+i)<128
 run:fG s p=fG s (p+q)
 row:zm wr w1.heap.size 21 1 v q ((qM s p q).map (ze .i32))
 far:aB w1 wr
theorem WLp.next{w1:zu}{d:ByteArray}{c:Nat}{j v':zs}{a:Nat}{wr w':zu}{X Y:Obj}(b:WLp w1 d c j a wr)(n:c+a<d.size)(g:iE (aG d (c+a))=zk)(m:zm w' w1.heap.size 21 1 v' (a+1) ((qM d c a).map (ze .i32)++[.int .i32 (aG d (c+a))]))(l:zv ((wr.alloc X).alloc Y) w' (Value.ownBlock j)):WLp w1 d c v' (a+1) w':=by
 have f:=(b.far.alloc b.far.size X).alloc (zi b.far.size (by simp)) Y;refine⟨by omega,λi o=>?_,?_,?_,?_⟩
 .by_cases e:i=a
  .subst e;exact aG4 _ g
  exact b.low i (by omega)
 .rw[b.run,aBn n g];rfl
 .rw[aLa,zg];exact m
 exact f.grown l f.size (λk e=>(bS b.row k e).1)
theorem aM8{W:zu}{i:Nat}{d f:Nat}{c:ByteArray}{b a:Nat}(l:zm W i 21 1 (sQ d a f) a ((qM c b a).map (ze .i32)))(k:runesBytes (qM c b a)=c.extract b (b+a)):(convert 187 9 (sQ d a f)).run zr W=.ok (.string (c.extract b (b+a))) W:=by
 have m:zt (qM c b a)=a:=by simp[qM]
 have j:=run_convert_runes (P:=zr) W 187 9 21 (aQ d 0) a f (qM c b a) (by omega) zo (by kernel_rfl) (by kernel_rfl) (λe g=>by
  have:=l.cellAt e (by omega);rw[zb,zj g,z8]at this;rw[show ((aQ d 0):Addr).add e=(aQ d e) by simp[Addr.add];omega,this];simp[List.getD,g])
 rw[j,zh (by omega),k]
section
variable {B:Nat}{pb:Nat}{s:ByteArray}{p g j m c:Nat}{k a:Int}{wd:ByteArray}{vC vP vM:zs}
def aX9(B pb:Nat)(s:ByteArray)(p g j m c:Nat)(k a:Int)(wd:ByteArray)(vC vP vM:zs)(i:Int)(w:zu)(d:Ending)(b:zu):Prop:=
 zv w b (V pb)/\
  if fG s p-p > 20 then d=.returned (iM (-2) p ⟨#[]⟩)/\cG B b pb s p g j m c k a wd vC vP vM
  else d=.returned (iM i p (s.extract p (fG s p)))/\∃f l e,cG B b pb s (fG s p) g f l e k a wd vC vP vM
theorem kV{b d:Nat}{f v:zs}(e:cQ w b d f):Z (U w (aQ b d) v) (aQ b d)=V v:=World.cell?_setCell_same _ _ _ e
theorem aDa(r:Int)(J:cG B w pb s p g j m c k a wd vC vP vM)(i9:s.size<=3000)(f2:p<s.size)(e6:iE (aG s p)=zk):Calls zr 81 #[pQ pb,.int .i32 r] w λx a3=>aX9 B pb s p g j m c k a wd vC vP vM r w x a3:=by
 have b8:=J.box.c0;have e5:∀e,Z (w.alloc e) (aQ pb 0)=V (.slice (V (aQ g (j*2))) (m+1) (c+1)):=λe=>aC (aI w e) b8
 have a6:aE (∀e,aB w (w.alloc e)):=O λe=>aI _ e
 have b5:aE (∀e,(w.alloc e).heap[w.heap.size]?=V e/\(w.alloc e).heap.size=w.heap.size+1):=O λe=>⟨by show (w.heap.push _)[w.heap.size]?=_;simp,by simp⟩
 have I:=O J;have f3:=J.box.lt;clear J b8;go_enter Tryz.func81,Tryz.ntmps81;go_wp2;have T:=a6.o (.cells #[.int .i32 0,iQ 0,.string ⟨#[]⟩] 67);have b2:=O (I.o.below T);obtain⟨c8,f8⟩:=b5.o (.cells #[.int .i32 0,iQ 0,.string ⟨#[]⟩] 67);have a7:=O T;have b6:=O c8;clear T c8 a6 b5;generalize w.alloc (.cells #[.int .i32 0,iQ 0,.string ⟨#[]⟩] 67)=w1 at *;have c5:w.heap.size<w1.heap.size:=by omega
 obtain⟨f,N⟩:∃f,w.heap.size=f:=⟨_,rfl⟩;rw[N]at c5 b6 f3;simp only[N];have b0:=O N;clear N f8 e5;go_loopw[5,14] (λv t wr=>∃b:Nat,t=iQ b/\WLp w1 s p v b wr) (λ_ t _=>s.size+1-(intOf t).toNat);exact⟨0,rfl,by omega,λt h8=>by omega,rfl,za _ _ _ _,dP⟩;obtain⟨b,rfl,i⟩:=hrel;have G:=i.le;obtain⟨M,f7⟩:=b2.o.letters b G i.low;have E:=b2.o.below i.far;obtain⟨e4,h3⟩:=E.cells b (p+b) M G f7;have i7:(b:Int)<((m+1:Nat):Int):=by omega
 have i4:(0:Int)<=(b:Int):=by omega
 have a0:=aUw s (p+b);have y:=O (λg5=>aUr (bG s (p+b)) g5);rw[a0]at y;obtain⟨j7,j9,rfl⟩:=aZ i.row;have a9:=O i;have f0:=i.far.size;by_cases q:p+b<s.size/\iE (aG s (p+b))=zk
 .have c4:=(oO s (p+b) q.1 (aG4 _ q.2)).1;rw[q.2,fL q.1]at y;rw[c4]at y e4;have d8:=O (λ(g2:zs) (a3:zu) (e3 n:Obj) ho hg=>a9.o.next q.1 q.2 (v':=g2) (w':=a3) (X:=e3) (Y:=n) ho hg);have H:=O (i.row);have i3:p+b<s.size:=q.1;clear i a0 c4 q E M a9;generalize aG s (p+b)=bb at *;go_wp2_with(first
   |(go_at_call 119;refine(aD y _).mono ?_;rintro x d1 ⟨rfl,rfl⟩)
   |(at_builtin;refine eU aG3 zo ((H.o.alloc _).alloc _) ?_;intro j6 C a1 c3 _;have d9:=O (d8.o _ _ _ _ a1 c3);obtain⟨j8,k1,rfl⟩:=aZ a1;clear a1 c3)
   |go_in)
  exact⟨⟨b+1,by go_num,d9.o⟩,by simp[intOf];omega⟩
 have c6:fG s (p+b)=p+b:=aI2 q;have b1:aE (fG s p=p+b):=O (by rw[i.run,c6]);have i5:1<=b:=by
  apply Classical.byContradiction;intro i1;obtain rfl:b=0:=by omega
  exact q ⟨f2,e6⟩
 have c2:(decide (p+b<s.size) && iE (aG s (p+b)))=false:=by
  rw[zn];by_cases x:p+b<s.size
  .right;cases hb:iE (aG s (p+b))
   .rfl
   exact absurd ⟨x,hb⟩ q
  left;simpa using x
 rw[c2]at y;have b4:aE (runesBytes (qM s p b)=s.extract p (p+b)):=O (aUv s p b G i.low);have H:=O i.row;have d7:=O i.far;have a8:=O M;have b3:=O E;have a4:=i.far.block f c5;rw[b6.o]at a4;have e2:=O a4;have i0:=E.mc;clear i a0 E M c2 c6 q a4;have P:aE (∀e,aB w (wr.alloc e)):=O λe=>((bE a7.o d7.o).alloc (zi a7.o.size f0) e)
 have b7:aE (∀e,(wr.alloc e).heap[f]?=V (.cells #[.int .i32 0,iQ 0,.string ⟨#[]⟩] 67)):=O λe=>by
  rw[(aI wr e).block f (by omega)];exact e2.o
 by_cases i6:20<b
 .have f6:(20:Int)<(b:Int):=by omega
  have a5:=O (λe=>zG (b3.o.below (aI wr e)));unfold iM at a5;go_wp2_with(first
   |(go_at_call 119;refine(aD y _).mono ?_;rintro x d1 ⟨rfl,rfl⟩)
   |(go_at_call 86;refine(aD a5 _).mono ?_;rintro x C ⟨rfl,X⟩;have A:=(X.block f (by simp;omega)).trans (b7.o _);have d5:=O X;have h1:=O A;have g0:Z C (aQ f 0)=some (.int .i32 0):=(by simp[Z,A]);have c9:Z C (aQ f 1)=some (iQ 0):=(by simp[Z,A]);have d0:Z C (aQ f 2)=some (.string ⟨#[]⟩):=(by simp[Z,A]);have g1:=kV (v:=.int .i32 (-2)) g0;have j2:=kV (v:=iQ p) c9;have j3:=kV (v:=.string ⟨#[]⟩) d0;have j1:∀t,zw C (aQ f t)=false:=(λt=>by simp[zw,A]);clear X A)
   |go_in)
  refine bodyPost_ret (by simp[results,Tryz.results81,go_sem,g1,c9,d0];try rfl) rfl ?_;have e9:aB w C:=(P.o _).trans (d5.o.mono (P.o _).size);have z:w.heap.size<=f:=by rw[b0.o];exact zp _
  have F:=fK (fK (fK e9 (p:=(aQ f 0)) z (.int .i32 (-2))) (p:=(aQ f 1)) z (iQ p)) (p:=(aQ f 2)) z (.string ⟨#[]⟩);refine⟨pC F _,?_⟩;rw[aT (by rw[b1.o];omega)];exact⟨rfl,I.o.below F⟩
 have f6:¬(20:Int)<(b:Int):=by omega
 obtain⟨h4,k0,c7⟩:=mJ H.o (by omega);simp only[Value.slice.injEq]at c7;obtain⟨rfl,_,rfl⟩:=c7;obtain⟨l,rfl⟩:∃l,m=l+b:=⟨m-b,by omega⟩;obtain⟨o,rfl⟩:∃o,c=o+b:=⟨c-b,by omega⟩;go_upto_region 10 with(first
  |(go_at_call 119;refine(aD y _).mono ?_;rintro x d1 ⟨rfl,rfl⟩)
  |go_in)
 have L:=b3.o.below (aI wr (.cells #[.int .i32 (bG s (p+b)),iQ ((p:Int)+b)] 149));have Q:=H.o.alloc (.cells #[.int .i32 (bG s (p+b)),iQ ((p:Int)+b)] 149);have b9:=P.o (.cells #[.int .i32 (bG s (p+b)),iQ ((p:Int)+b)] 149);have c0:=b7.o (.cells #[.int .i32 (bG s (p+b)),iQ ((p:Int)+b)] 149);have f9:f<(wr.alloc (.cells #[.int .i32 (bG s (p+b)),iQ ((p:Int)+b)] 149)).heap.size:=by simp;omega
 generalize wr.alloc (.cells #[.int .i32 (bG s (p+b)),iQ ((p:Int)+b)] 149)=W at *;have g3:=L.box.c0;have g4:=L.at0.2;have j4:∀e,Z (W.alloc e) (aQ pb 0)=V (.slice (V (aQ g (j*2))) (l+b+1) (o+b+1)):=λe=>aC (aI W e) g3
 have j5:∀e,Z (W.alloc e) (aQ g (j*2+1))=V (iQ p):=λe=>aC (aI W e) g4
 have h6:=aM8 (W:=W.drew) Q b4.o;have h7:=λe=>aM8 (W:=(W.alloc e).drew) (World.ownsRow.alloc (w:=W) Q e) b4.o
 have i2:(0:Int)<(l:Int)+b+1:=by omega
 have e0:=O L;have d4:=O b9;have e1:=O c0;clear L b9 c0 Q;go_region;have a2:aB W (W.alloc (.cells #[.int .i32 r,iQ p,.string (s.extract p (p+b))] 67)).drew:=(aI W _).trans ((aN (w1:=(W.alloc (.cells #[.int .i32 r,iQ p,.string (s.extract p (p+b))] 67)).drew) ⟨1,rfl⟩).mono (by simp));have D:=e0.o.below a2;have S:=(a2.block f f9).trans e1.o;have R:(W.alloc (.cells #[.int .i32 r,iQ p,.string (s.extract p (p+b))] 67)).drew.heap[W.heap.size]?=V (.cells #[.int .i32 r,iQ p,.string (s.extract p (p+b))] 67):=by show (W.heap.push _)[W.heap.size]?=_;simp
 have c1:=bE d4.o a2;have j0:W.heap.size<(W.alloc (.cells #[.int .i32 r,iQ p,.string (s.extract p (p+b))] 67)).drew.heap.size:=by show W.heap.size<(W.heap.push _).size;simp
 generalize (W.alloc (.cells #[.int .i32 r,iQ p,.string (s.extract p (p+b))] 67)).drew=n at *;generalize W.heap.size=tb at *;have k2:=D.box.c0;have k3:=D.box.soft 0;have g9:=O D;have h2:=O S;have h0:=O R;have d6:=O c1;have i8:f≠tb:=by omega
 have f4:pb≠f:=by omega
 have f5:pb≠tb:=by omega
 have g8:=O (cG.jump b (p+b) l o D a8.o G);have u:∀d,(U n (aQ pb 0) d).heap[f]?=V (.cells #[.int .i32 0,iQ 0,.string ⟨#[]⟩] 67)/\(U n (aQ pb 0) d).heap[tb]?=V (.cells #[.int .i32 r,iQ p,.string (s.extract p (p+b))] 67):=λd=>⟨by rw[Below.heap_setCell _ _ _ _ f4.symm];exact S,by rw[Below.heap_setCell _ _ _ _ f5.symm];exact R⟩
 have g6:∀d,Z (U n (aQ pb 0) d) (aQ f 0)=V (.int .i32 0):=λd=>by simp[Z,(u d).1]
 have d2:∀d,Z (U n (aQ pb 0) d) (aQ f 1)=V (iQ 0):=λd=>by simp[Z,(u d).1]
 have d3:∀d,Z (U n (aQ pb 0) d) (aQ f 2)=V (.string ⟨#[]⟩):=λd=>by simp[Z,(u d).1]
 have k4:∀d t,zw (U n (aQ pb 0) d) (aQ f t)=false:=λd t=>by simp[zw,(u d).1]
 have k5:∀d,Z (U n (aQ pb 0) d) (aQ tb 0)=V (.int .i32 r):=λd=>by simp[Z,(u d).2]
 have k6:∀d,Z (U n (aQ pb 0) d) (aQ tb 1)=V (iQ p):=λd=>by simp[Z,(u d).2]
 have k7:∀d,Z (U n (aQ pb 0) d) (aQ tb 2)=V (.string (s.extract p (p+b))):=λd=>by simp[Z,(u d).2]
 clear u D S R c1;have h9:l+b+1-b=l+1:=by omega
 have h5:o+b+1-b=o+1:=by omega
 have g7:=λd=>kV (v:=.int .i32 r) (g6 d)
 have k8:=λd=>kV (v:=iQ p) (d2 d)
 have k9:=λd=>kV (v:=.string (s.extract p (p+b))) (d3 d)
 go_wp2;refine bodyPost_ret (by simp[results,Tryz.results81,go_sem,g7,d2,d3];try rfl) rfl ?_;have e8:Below (U w (aQ pb 0) (.slice (V (aQ g (j*2+b*2))) (l+1) (o+1))).heap.size (U w (aQ pb 0) (.slice (V (aQ g (j*2+b*2))) (l+1) (o+1))) (U n (aQ pb 0) (.slice (V (aQ g (j*2+b*2))) (l+1) (o+1))):=aG2 d6.o (I.o.box.lt) _;have z:(U w (aQ pb 0) (.slice (V (aQ g (j*2+b*2))) (l+1) (o+1))).heap.size<=f:=by rw[<-b0.o];simp[U]
 have F:=fK (fK (fK e8 (p:=(aQ f 0)) z (.int .i32 r)) (p:=(aQ f 1)) z (iQ p)) (p:=(aQ f 2)) z (.string (s.extract p (p+b)));have e7:=(cG.jump b (p+b) l o I.o a8.o G).below F;have f1:zv w (U w (aQ pb 0) (.slice (V (aQ g (j*2+b*2))) (l+1) (o+1))) (V pb):=cD _ _ _;refine⟨f1.trans (pC F _),?_⟩;rw[b1.o,aS (by omega)];exact⟨rfl,_,_,_,e7⟩
end
structure sG(B:Nat)(w:zu)(s:ByteArray)(p g j m c:Nat):Prop where
 row:zm w B 149 2 (sQ g (j+m+1) (j+c+1)) (j+m+1) (qN (dL s 0))
 len:zt (dL s 0)=j+m+1
 drop:(dL s 0).drop j=dL s p
 le:p<=s.size
section
variable {B:Nat}{w w':zu}{pb:Nat}{s:ByteArray}{p g j m c:Nat}{k a:Int}{wd:ByteArray}{vC vP vM:zs}
theorem cG.gl(b:cG B w pb s p g j m c k a wd vC vP vM):sG B w s p g j m c:=⟨b.row,b.len,b.drop,b.le⟩
theorem sG.below(b:sG B w s p g j m c)(d:aB w w'):sG B w' s p g j m c:=⟨bF b.row d (zp _),b.len,b.drop,b.le⟩
theorem sG.at0(b:sG B w s p g j m c):Z w (aQ g (j*2))=V (.int .i32 (bG s p))/\Z w (aQ g (j*2+1))=V (iQ p):=by
 obtain⟨o,l⟩:=aG1 s p b.le;have i:j<zt (dL s 0):=by have:=b.len;omega
 have f:(dL s 0)[j]=(bG s p,p):=by
  have n:((dL s 0).drop j)[0]?=V (bG s p,p):=by rw[b.drop,l];rfl
  grind
 obtain⟨d,e⟩:=aGb (dL s 0) j i;rw[f]at d e;exact⟨by rw[b.row.cellAt _ (by omega),d],by rw[b.row.cellAt _ (by omega),e]⟩
theorem sG.more(e:sG B w s p g j m c)(i:p<s.size):∃d b,m=d+1/\c=b+1/\sG B w s (p+kA s p) g (j+1) d b:=by
 have y:=e.len;have n:=congrArg zt e.drop;rw[List.length_drop,wK i,List.length_cons]at n;have v:=(aCz s _ (p+(Utf8.decode s p).2) (zp _)).1;obtain⟨_,o⟩:=e.row;rcases o with⟨f,_⟩|⟨u,r,t,f,_,_,x,_⟩
 .simp at f
 simp at f;obtain⟨_,rfl⟩:=f;have q:=e.row;obtain⟨d,rfl⟩:∃d,m=d+1:=⟨m-1,by omega⟩;obtain⟨b,rfl⟩:∃b,c=b+1:=⟨c-1,by omega⟩;refine⟨d,b,rfl,rfl,?_,by omega,?_,aB0 s p i⟩
 .rw[show j+1+d+1=j+(d+1)+1 by omega,show j+1+b+1=j+(b+1)+1 by omega];exact q
 have l:(dL s 0).drop (j+1)=((dL s 0).drop j).drop 1:=by rw[List.drop_drop]
 rw[l,e.drop,wK i];rfl
theorem cG.put(e:cG B w pb s p g j m c k a wd vC vP vM){l f i d:Nat}(b:sG B w s l g f i d):cG B (U w (aQ pb 0) (.slice (V (aQ g (f*2))) (i+1) (d+1))) pb s l g f i d k a wd vC vP vM:=
 ⟨e.box.set0 _,e.high,e.box.row b.row (by decide) _ _,b.len,b.drop,b.le⟩
end
structure Qlp(B:Nat)(w w1:zu)(s:ByteArray)(p g:Nat)(v rest:zs)(f q j m c:Nat)(rs:List Int)(wr:zu):Prop where
 gl:sG B w s q g j m c
 rst:rest=.slice (V (aQ g (j*2))) (m+1) (c+1)
 row:zm wr w1.heap.size 21 1 v (zt rs) (rs.map (ze .i32))
 far:aB w1 wr
 quo:mZ s p=gJ s f (runesBytes rs) q
 fuel:s.size<=q+f
 ok:uO rs
 few:zt rs<=q
theorem aM9{W:zu}{f:Nat}{b d:Nat}{a:List Int}(i:zm W f 21 1 (sQ b (zt a) d) (zt a) (a.map (ze .i32))):(convert 187 9 (sQ b (zt a) d)).run zr W=.ok (.string (runesBytes a)) W:=by
 have g:=run_convert_runes (P:=zr) W 187 9 21 (aQ b 0) (zt a) d a (by omega) zo (by kernel_rfl) (by kernel_rfl) (λc e=>by
  have:=i.cellAt c (by omega);rw[zb,zj e,z8]at this;rw[show ((aQ b 0):Addr).add c=(aQ b c) by simp[Addr.add];omega,this];simp[List.getD,e])
 rw[g,zh (by omega)]
def wP(e b:Nat)(c:ByteArray)(a i r t p:Nat)(j f:Int)(o:ByteArray)(k m l:zs)(w:zu)(g:Ending)(d:zu):Prop:=
 zv w d (V b)/\
  match mZ c a with
  |none=>g=.returned (iM (-2) a ⟨#[]⟩)/\cG e d b c a i r t p j f o k m l
  |some (n,e')=>g=.returned (iM 97 a n)/\∃s u q,cG e d b c e' i s u q j f o k m l
theorem wP.bad{a i:Nat}{s:ByteArray}{p d e g c:Nat}{f b:Int}{n:ByteArray}{j l k:zs}{m:zu}(o:cG a w i s p d e g c f b n j l k)(q:aB w m)(r:mZ s p=zf):wP a i s p d e g c f b n j l k w (.returned (iM (-2) p ⟨#[]⟩)) m:=by grind[cG.below,pC,wP,mZ,iM]
section
variable {B:Nat}{pb:Nat}{s:ByteArray}{p g j m c:Nat}{k a:Int}{wd:ByteArray}{vC vP vM:zs}
theorem aMa(a8:cG B w pb s p g j m c k a wd vC vP vM)(k5:s.size<=3000)(d7:bG s p=39):Calls zr 83 #[pQ pb] w λe i7=>wP B pb s p g j m c k a wd vC vP vM w e i7:=by
 have c9:p<s.size:=Classical.byContradiction λz=>by rw[qL s p z]at d7;omega
 have h2:kA s p=1:=(oO s p c9 (by have:=(hH s p c9 39 (by omega)).1 d7;omega)).2;obtain⟨b5,c2,rfl,rfl,c3⟩:=a8.gl.more c9;rw[h2]at c3;have d6:=a8.box.c0;have g0:∀q,Z (w.alloc q) (aQ pb 0)=V (.slice (V (aQ g (j*2))) (b5+1+1) (c2+1+1)):=λq=>aC (aI w q) d6
 have d3:aE (∀q,aB w (w.alloc q)):=O λq=>aI _ q
 have d4:aE (∀q,(w.alloc q).heap[w.heap.size]?=V q/\(w.alloc q).heap.size=w.heap.size+1):=O λq=>⟨by show (w.heap.push _)[w.heap.size]?=_;simp,by simp⟩
 have M:=O a8;have g8:=a8.box.lt;have f0:=O c3;clear a8 d6 c3;go_enter Tryz.func83,Tryz.ntmps83;go_wp2;have c6:=d3.o (.cells #[.int .i32 0,iQ 0,.string ⟨#[]⟩] 67);have f2:=O (M.o.below c6);obtain⟨e6,h5⟩:=d4.o (.cells #[.int .i32 0,iQ 0,.string ⟨#[]⟩] 67);have b6:=O c6;have d5:=O e6;clear c6 e6 d3 d4;generalize w.alloc (.cells #[.int .i32 0,iQ 0,.string ⟨#[]⟩] 67)=w1 at *;have e5:w.heap.size<w1.heap.size:=by omega
 obtain⟨b,b4⟩:∃b,w.heap.size=b:=⟨_,rfl⟩;rw[b4]at e5 d5 g8;simp only[b4];have a6:=O b4;clear b4 h5 g0;go_loopg [3,4] s.size (λg3 i1 i0 wr=>∃d h7 h8 f8 n,Qlp B w w1 s p g i1 i0 g3 d h7 h8 f8 n wr);exact⟨p+1,j+1,b5,c2,[],f0.o,by rw[show (j+1)*2=j*2+2 by omega],za _ _ _ _,dP,rfl,by omega,uO.nil,by simp⟩;obtain⟨d,u,k7,j6,n,f⟩:=hrel;have h1:=f.rst;subst h1;have P:=(f.gl.below b6.o).below f.far;have c1:=P.at0.1;have k3:=f.gl.le;have e3:=f.fuel;have k0:=f.few;have k1:=f.far.size;have G:=O f;have a4:aE (aB w wr):=O (bE b6.o f.far);have a7:aE (wr.heap[b]?=V (.cells #[.int .i32 0,iQ 0,.string ⟨#[]⟩] 67)):=O ((f.far.block b e5).trans d5.o);have a3:=O (f2.o.below f.far);by_cases E:bG s d=39
 .obtain⟨y,b3⟩:=aUy (rs:=n) e3 E;have b2:=f.ok.name;rw[E]at c1;by_cases z:1<=zt n/\zt n<=20
  .have f3:aE (mZ s p=V (runesBytes n,d+1)):=O (by rw[f.quo,b3,b2,fL z.1,fL z.2];rfl);obtain⟨J,H,rfl,rfl,x⟩:=f.gl.more y;have d0:kA s d=1:=(oO s d y (by have:=(hH s d y 39 (by omega)).1 E;omega)).2;rw[d0]at x;obtain⟨j7,l0,rfl⟩:=mJ f.row (by omega);have e4:((zt n:Int)==0)=false:=by rw[beq_eq_false_iff_ne];omega
   have g7:decide ((20:Int)<(zt n:Int))=false:=by simp;omega
   have i2:=a3.o.box.c0;have i3:=a3.o.at0.2;have k8:∀q,Z (wr.alloc q) (aQ pb 0)=V (.slice (V (aQ g (j*2))) (b5+1+1) (c2+1+1)):=λq=>aC (aI wr q) i2
   have k9:∀q,Z (wr.alloc q) (aQ g (j*2+1))=V (iQ p):=λq=>aC (aI wr q) i3
   have j8:=aM9 (W:=wr.drew) f.row;have j9:=λq=>aM9 (W:=(wr.alloc q).drew) (World.ownsRow.alloc (w:=wr) f.row q)
   have k2:(0:Int)<(b5:Int)+1+1:=by omega
   have b7:=O x;have h6:b<wr.heap.size:=by omega
   clear f P x b3 b2;go_upto_region 18 with(fail);go_region;have d1:aB wr (wr.alloc (.cells #[.int .i32 97,iQ p,.string (runesBytes n)] 67)).drew:=(aI wr _).trans ((aN (w1:=(wr.alloc (.cells #[.int .i32 97,iQ p,.string (runesBytes n)] 67)).drew) ⟨1,rfl⟩).mono (by simp));have c5:=a3.o.below d1;have e1:=(d1.block b h6).trans a7.o;have e0:(wr.alloc (.cells #[.int .i32 97,iQ p,.string (runesBytes n)] 67)).drew.heap[wr.heap.size]?=V (.cells #[.int .i32 97,iQ p,.string (runesBytes n)] 67):=by show (wr.heap.push _)[wr.heap.size]?=_;simp
   have e2:=bE a4.o d1;generalize (wr.alloc (.cells #[.int .i32 97,iQ p,.string (runesBytes n)] 67)).drew=Y at *;generalize wr.heap.size=tb at *;have l1:=c5.box.c0;have l2:=c5.box.soft 0;have e9:=O e2;have k4:b≠tb:=by omega
   have g9:pb≠b:=by omega
   have h0:pb≠tb:=by omega
   have I:∀i,(U Y (aQ pb 0) i).heap[b]?=V (.cells #[.int .i32 0,iQ 0,.string ⟨#[]⟩] 67)/\(U Y (aQ pb 0) i).heap[tb]?=V (.cells #[.int .i32 97,iQ p,.string (runesBytes n)] 67):=λi=>⟨by rw[Below.heap_setCell _ _ _ _ g9.symm];exact e1,by rw[Below.heap_setCell _ _ _ _ h0.symm];exact e0⟩
   have j0:∀i,Z (U Y (aQ pb 0) i) (aQ b 0)=V (.int .i32 0):=λi=>by simp[Z,(I i).1]
   have j1:∀i,Z (U Y (aQ pb 0) i) (aQ b 1)=V (iQ 0):=λi=>by simp[Z,(I i).1]
   have j2:∀i,Z (U Y (aQ pb 0) i) (aQ b 2)=V (.string ⟨#[]⟩):=λi=>by simp[Z,(I i).1]
   have l3:∀i v,zw (U Y (aQ pb 0) i) (aQ b v)=false:=λi v=>by simp[zw,(I i).1]
   have l4:∀i,Z (U Y (aQ pb 0) i) (aQ tb 0)=V (.int .i32 97):=λi=>by simp[Z,(I i).2]
   have l5:∀i,Z (U Y (aQ pb 0) i) (aQ tb 1)=V (iQ p):=λi=>by simp[Z,(I i).2]
   have l6:∀i,Z (U Y (aQ pb 0) i) (aQ tb 2)=V (.string (runesBytes n)):=λi=>by simp[Z,(I i).2]
   clear I c5 e1 e0 e2;have j3:=λi=>kV (v:=.int .i32 97) (j0 i)
   go_wp2;refine bodyPost_ret (by simp[results,zl,go_sem,j3,j1,j2];try rfl) rfl ?_;have d9:=M.o.put b7.o;rw[show (u+1)*2=u*2+2 by omega]at d9;have g4:Below (U w (aQ pb 0) (.slice (V (aQ g (u*2+2))) (J+1) (H+1))).heap.size (U w (aQ pb 0) (.slice (V (aQ g (u*2+2))) (J+1) (H+1))) (U Y (aQ pb 0) (.slice (V (aQ g (u*2+2))) (J+1) (H+1))):=aG2 e9.o (M.o.box.lt) _;have r:(U w (aQ pb 0) (.slice (V (aQ g (u*2+2))) (J+1) (H+1))).heap.size<=b:=by rw[<-a6.o];simp[U]
   have C:=fK (fK (fK g4 (p:=(aQ b 0)) r (.int .i32 97)) (p:=(aQ b 1)) r (iQ p)) (p:=(aQ b 2)) r (.string (runesBytes n));have g5:zv w (U w (aQ pb 0) (.slice (V (aQ g (u*2+2))) (J+1) (H+1))) (V pb):=cD _ _ _;refine⟨g5.trans (pC C _),?_⟩;rw[f3.o];exact⟨rfl,_,_,_,d9.below C⟩
  have a1:aE (mZ s p=zf):=O (by
   rw[f.quo,b3,b2,aS];intro e;simp only[z7,decide_eq_true_eq]at e;exact z e)
  have D:=O (zG a3.o);unfold iM at D;obtain⟨e7,e8,rfl⟩:=aZ f.row;clear f P b3 b2;by_cases h4:zt n=0
  .have e4:((zt n:Int)==0)=true:=by rw[h4];rfl
   go_wp2_with(first
    |(go_at_call 86;refine(aD D).mono ?_;rintro e l ⟨rfl,t⟩;have o:=(t.block b (by omega)).trans a7.o;have L:=O t;have S:Z l (aQ b 0)=some (.int .i32 0):=(by simp[Z,o]);have T:Z l (aQ b 1)=some (iQ 0):=(by simp[Z,o]);have X:Z l (aQ b 2)=some (.string ⟨#[]⟩):=(by simp[Z,o]);have a0:=kV (v:=.int .i32 (-2)) S;have d2:∀v,zw l (aQ b v)=false:=(λv=>by simp[zw,o]);clear t o)
    |go_in)
   refine bodyPost_ret (by simp[results,zl,go_sem,a0,T,X];try rfl) rfl ?_;have Q:aB w l:=bE a4.o L.o;have r:w.heap.size<=b:=by rw[a6.o];exact zp _
   have C:=fK (fK (fK Q (p:=(aQ b 0)) r (.int .i32 (-2))) (p:=(aQ b 1)) r (iQ p)) (p:=(aQ b 2)) r (.string ⟨#[]⟩);exact wP.bad M.o C a1.o
  have e4:((zt n:Int)==0)=false:=by rw[beq_eq_false_iff_ne];omega
  have g7:(20:Int)<(zt n:Int):=by omega
  go_wp2_with(first
   |(go_at_call 86;refine(aD D).mono ?_;rintro e l ⟨rfl,t⟩;have o:=(t.block b (by omega)).trans a7.o;have L:=O t;have S:Z l (aQ b 0)=some (.int .i32 0):=(by simp[Z,o]);have T:Z l (aQ b 1)=some (iQ 0):=(by simp[Z,o]);have X:Z l (aQ b 2)=some (.string ⟨#[]⟩):=(by simp[Z,o]);have a0:=kV (v:=.int .i32 (-2)) S;have d2:∀v,zw l (aQ b v)=false:=(λv=>by simp[zw,o]);clear t o)
   |go_in)
  refine bodyPost_ret (by simp[results,zl,go_sem,a0,T,X];try rfl) rfl ?_;have Q:aB w l:=bE a4.o L.o;have r:w.heap.size<=b:=by rw[a6.o];exact zp _
  have C:=fK (fK (fK Q (p:=(aQ b 0)) r (.int .i32 (-2))) (p:=(aQ b 1)) r (iQ p)) (p:=(aQ b 2)) r (.string ⟨#[]⟩);exact wP.bad M.o C a1.o
 by_cases A:bG s d=92
 .have y:d<s.size:=Classical.byContradiction λz=>by rw[qL s d z]at A;omega
  obtain⟨J,H,rfl,rfl,x⟩:=f.gl.more y;obtain⟨F,rfl⟩:∃F,gk=F+1:=⟨gk-1,by omega⟩;have d0:kA s d=1:=(oO s d y (by have:=(hH s d y 92 (by omega)).1 A;omega)).2;rw[d0]at x;have a2:=O (aV1 (rs:=n) (f:=F) y A);have f4:=((x.below b6.o).below f.far).at0.1;rw[show (u+1)*2=u*2+2 by omega]at f4;have b1:=O (λi9=>aUs (bG s (d+1)) i9);rw[A]at c1;cases hesc:uN (bG s (d+1))
  .rw[hesc]at b1 a2;have a1:aE (mZ s p=zf):=O (by rw[f.quo,a2.o];rfl);have D:=O (zG a3.o);unfold iM at D;clear f P x E A hesc;generalize bG s (d+1)=cc at *;go_wp2_with(first
    |(go_at_call 120;refine(aD b1 _).mono ?_;rintro e i8 ⟨rfl,rfl⟩)
    |(go_at_call 86;refine(aD D).mono ?_;rintro e l ⟨rfl,t⟩;have o:=(t.block b (by omega)).trans a7.o;have L:=O t;have S:Z l (aQ b 0)=some (.int .i32 0):=(by simp[Z,o]);have T:Z l (aQ b 1)=some (iQ 0):=(by simp[Z,o]);have X:Z l (aQ b 2)=some (.string ⟨#[]⟩):=(by simp[Z,o]);have a0:=kV (v:=.int .i32 (-2)) S;have d2:∀v,zw l (aQ b v)=false:=(λv=>by simp[zw,o]);clear t o)
    |go_in)
   refine bodyPost_ret (by simp[results,zl,go_sem,a0,T,X];try rfl) rfl ?_;have Q:aB w l:=bE a4.o L.o;have r:w.heap.size<=b:=by rw[a6.o];exact zp _
   have C:=fK (fK (fK Q (p:=(aQ b 0)) r (.int .i32 (-2))) (p:=(aQ b 1)) r (iQ p)) (p:=(aQ b 2)) r (.string ⟨#[]⟩);exact wP.bad M.o C a1.o
  rw[hesc]at b1 a2;have d8:bG s (d+1)=39\/bG s (d+1)=92:=by unfold uN at hesc;simpa using hesc
  have b0:d+1<s.size:=Classical.byContradiction λz=>by rw[qL s (d+1) z]at d8;omega
  obtain⟨h9,f9,rfl,rfl,c4⟩:=x.more b0;have h3:kA s (d+1)=1:=(oO s (d+1) b0 (by have g1:=hH s (d+1) b0 39 (by omega);have g2:=hH s (d+1) b0 92 (by omega);rcases d8 with e|e;have:=g1.1 e;omega;have:=g2.1 e;omega)).2;rw[h3]at c4;have c0:=O (f.ok.more b0 (by omega) (by omega));obtain⟨e7,e8,rfl⟩:=aZ f.row;have a5:=O f.row;have b8:=O c4;clear f P x c4 E A hesc;generalize bG s (d+1)=cc at *;have f6:(cc==10)=false:=by rw[beq_eq_false_iff_ne];omega
  have f7:(cc==-2)=false:=by rw[beq_eq_false_iff_ne];omega
  have f5:(cc==-1)=false:=by rw[beq_eq_false_iff_ne];omega
  go_wp2_with(first
   |(go_at_call 120;refine(aD b1 _).mono ?_;rintro e i8 ⟨rfl,rfl⟩)
   |(at_builtin;refine eU aG3 zo (a5.o.alloc _) ?_;intro i4 l R a9 _;have b9:=O R;have f1:=O a9;obtain⟨i5,i6,rfl⟩:=aZ R;clear R a9)
   |go_in)
  go_roundg F;case measure=>omega
  case rel=>exact⟨d+1+1,u+1+1,h9,f9,n++[cc],b8.o,by rw[show (u+1+1)*2=u*2+2+2 by omega],by rw[zg,zc];exact b9.o,(G.o.far.alloc G.o.far.size _).grown f1.o (zi G.o.far.size (by simp)) (λk e=>(bS a5.o k e).1),by rw[G.o.quo,a2.o];rfl,by omega,c0.o,by simp;omega⟩
 by_cases N:bG s d=10\/bG s d=-2\/bG s d=-1
 .have a1:aE (mZ s p=zf):=O (by rw[f.quo,aUz e3 E A N]);have D:=O (zG a3.o);unfold iM at D;clear f P;rcases N with e|e|e;all_goals
   rw[e]at c1;clear e E A;go_wp2_with(first
    |(go_at_call 86;refine(aD D).mono ?_;rintro e l ⟨rfl,t⟩;have o:=(t.block b (by omega)).trans a7.o;have L:=O t;have S:Z l (aQ b 0)=some (.int .i32 0):=(by simp[Z,o]);have T:Z l (aQ b 1)=some (iQ 0):=(by simp[Z,o]);have X:Z l (aQ b 2)=some (.string ⟨#[]⟩):=(by simp[Z,o]);have a0:=kV (v:=.int .i32 (-2)) S;have d2:∀v,zw l (aQ b v)=false:=(λv=>by simp[zw,o]);clear t o)
    |go_in)
   refine bodyPost_ret (by simp[results,zl,go_sem,a0,T,X];try rfl) rfl ?_;have Q:aB w l:=bE a4.o L.o;have r:w.heap.size<=b:=by rw[a6.o];exact zp _
   have C:=fK (fK (fK Q (p:=(aQ b 0)) r (.int .i32 (-2))) (p:=(aQ b 1)) r (iQ p)) (p:=(aQ b 2)) r (.string ⟨#[]⟩);exact wP.bad M.o C a1.o
 have y:d<s.size:=Classical.byContradiction λz=>N (Or.inr (Or.inr (qL s d z)))
 obtain⟨J,H,rfl,rfl,x⟩:=f.gl.more y;obtain⟨F,rfl⟩:∃F,gk=F+1:=⟨gk-1,by omega⟩;have c7:bG s d≠10:=λe=>N (Or.inl e)
 have c8:bG s d≠-2:=λe=>N (Or.inr (Or.inl e))
 have g6:bG s d≠-1:=λe=>N (Or.inr (Or.inr e))
 have a2:=O (aV0 (rs:=n) (f:=F) y E A c7 c8);have c0:=O (f.ok.more y c8 c7);have k6:=aAz s d;obtain⟨e7,e8,rfl⟩:=aZ f.row;have a5:=O f.row;have b7:=O x;clear f P x N;generalize bG s d=cc at *;have j4:(cc != 39)=true:=by simpa using E
 have j5:(cc==92)=false:=by simpa using A
 have f6:(cc==10)=false:=by simpa using c7
 have f7:(cc==-2)=false:=by simpa using c8
 have f5:(cc==-1)=false:=by simpa using g6
 go_wp2_with(first
  |(at_builtin;refine eU aG3 zo (a5.o.alloc _) ?_;intro i4 l R a9 _;have b9:=O R;have b8:=O a9;obtain⟨i5,i6,rfl⟩:=aZ R;clear R a9)
  |go_in)
 go_roundg F;case measure=>omega
 case rel=>exact⟨d+kA s d,u+1,J,H,n++[cc],b7.o,by rw[show (u+1)*2=u*2+2 by omega],by rw[zg,zc];exact b9.o,(G.o.far.alloc G.o.far.size _).grown b8.o (zi G.o.far.size (by simp)) (λk e=>(bS a5.o k e).1),by rw[G.o.quo,a2.o],by omega,c0.o,by simp;omega⟩
end
abbrev fB:ByteArray:=⟨#[36,102,97,108,115,101]⟩
def yB(b:ByteArray)(a:Nat):Prop:=a+6<=b.size/\b.extract a (a+6)=fB
theorem aDb:∀a,a<6->aG fB a<128:=by
 have:∀a:Fin 6,aG fB a.1<128:=by decide
 exact λa b=>this ⟨a,b⟩
theorem aMb{c:ByteArray}{b:Nat}:yB c b↔b+6<=c.size/\∀a,a<6->aG c (b+a)=aG fB a:=by
 unfold yB;constructor
 .rintro⟨d,e⟩;refine⟨d,λa m=>?_⟩;have:aG (c.extract b (b+6)) a=aG fB a:=by rw[e]
  rw[<-this,gH (c.extract b (b+6)) a (by rw[ByteArray.size_extract];omega),gH c (b+a) (by omega),ByteArray.getElem_extract]
 rintro⟨d,e⟩;refine⟨d,?_⟩;apply ByteArray.ext;apply Array.ext
 .have:(c.extract b (b+6)).size=6:=by rw[ByteArray.size_extract];omega
  exact this
 intro a k l;have g:a<6:=l;have f:=e a g;rw[gH c (b+a) (by omega),gH fB a g]at f;have i:(c.extract b (b+6))[a]'k=c[b+a]'(by omega):=ByteArray.getElem_extract ..;have j:=UInt8.toNat_inj.1 f;exact i.trans j
def aXb(e c:Nat)(b:ByteArray)(a i q s o:Nat)(j f:Int)(n:ByteArray)(k m l:zs)(w:zu)(g:Ending)(d:zu):Prop:=
 zv w d (V c)/\((yB b a/\g=.returned (iM 36 a ⟨#[]⟩)/\∃r t p,cG e d c b (a+6) i r t p j f n k m l)\/(¬yB b a/\g=.returned (iM (-2) a ⟨#[]⟩)/\cG e d c b a i q s o j f n k m l))
section
variable {B:Nat}{pb:Nat}{s:ByteArray}{p g j m c:Nat}{k a:Int}{wd:ByteArray}{vC vP vM:zs}
theorem aMc(u:cG B w pb s p g j m c k a wd vC vP vM):Calls zr 84 #[pQ pb] w λN e8=>aXb B pb s p g j m c k a wd vC vP vM w N e8:=by
 have M:=u.box.c0;have b0:=u.at0.2;have c6:∀f,Z (w.alloc f) (aQ pb 0)=V (.slice (V (aQ g (j*2))) (m+1) (c+1)):=λf=>aC (aI w f) M
 have c7:∀f,Z (w.alloc f) (aQ g (j*2+1))=V (iQ p):=λf=>aC (aI w f) b0
 have a3:aE (∀f l,aB w ((w.alloc f).alloc l)):=O λf l=>(aI _ f).alloc (by simp) l
 have a8:aE (∀f l,((w.alloc f).alloc l).heap[w.heap.size]?=V f/\((w.alloc f).alloc l).heap[w.heap.size+1]?=V l/\((w.alloc f).alloc l).heap.size=w.heap.size+2):=O λf l=>⟨by show ((w.heap.push _).push _)[w.heap.size]?=_;simp[Array.getElem?_push],by
  show ((w.heap.push f).push l)[w.heap.size+1]?=_;have u:((w.heap.push f).push l)[(w.heap.push f).size]?=V l:=by rw[Array.getElem?_push];exact aT rfl
  rwa[Array.size_push]at u,by simp⟩
 have C:=O u;have e0:=u.box.lt;clear u M b0;go_enter Tryz.func84,Tryz.ntmps84;go_wp2;have T:=a3.o (.cells #[.int .i32 0,iQ 0,.string ⟨#[]⟩] 67) (.cells #[.int .i32 36,iQ p,.string ⟨#[]⟩] 67);have R:=O (C.o.below T);obtain⟨b4,b5,b6⟩:=a8.o (.cells #[.int .i32 0,iQ 0,.string ⟨#[]⟩] 67) (.cells #[.int .i32 36,iQ p,.string ⟨#[]⟩] 67);have a4:=O T;have S:=O b4;have a9:=O b5;clear T b4 b5 a3 a8 c6 c7;generalize (w.alloc (.cells #[.int .i32 0,iQ 0,.string ⟨#[]⟩] 67)).alloc (.cells #[.int .i32 36,iQ p,.string ⟨#[]⟩] 67)=w2 at *;obtain⟨d,Q⟩:∃d,w.heap.size=d:=⟨_,rfl⟩;rw[Q]at b6 S a9 e0;simp only[Q];have a6:=O Q;clear Q;go_loopg [] 6 (λe3 wr=>∃b:Nat,e3+b=6/\wr.heap[d+2]?=V (.stringIter fB b)/\aB w2 wr/\p+b<=s.size/\∀i,i<b->aG s (p+i)=aG fB i);case atStart=>
  refine⟨0,rfl,?_,aI w2 _,C.o.le,λi a1=>by omega⟩;have:=World.iter_heap w2 fB 0;rw[b6]at this;simpa using this
 case round=>
  obtain⟨b,g2,x,t,P,D⟩:=hrel;have f3:=O x;have b7:=O D;have a7:=O t;have d7:∀i,i<b->aG s (p+i)<128:=λi a1=>by rw[D i a1];exact aDb i (by omega)
  obtain⟨E,d6⟩:=R.o.letters b P d7;have b9:=O E;by_cases I:b<6
  .have y:b<fB.size:=I;have d3:(fB[b]'y).toNat<128:=by have:=aDb b I;rw[gH fB b y]at this;exact this
   have b3:∀A,(Instr.next (pQ (d+2)) zk A).run zr wr=_:=λA=>Lib.run_next_ascii_at wr (d+2) fB b A x y d3
   have c0:=O (Lib.iterAt_heap wr (d+2) fB b (b+1) x);have H:=Lib.below_iterAt t (k:=d+2) (by omega) fB (b+1);have q:=R.o.below H;have c5:=(q.cells b (p+b) E P d6).1;have M:=q.box.c0;have c2:=O q;have a5:=O H;have c3:aE ((wr.iterAt (d+2) fB (b+1)).heap[d]?=V (.cells #[.int .i32 0,iQ 0,.string ⟨#[]⟩] 67)):=O ((H.block d (by omega)).trans S.o);have X:(fB[b]'y).toNat=aG fB b:=(gH fB b y).symm;have f8:(b:Int)<(m:Int)+1:=by omega
   have f7:(0:Int)<=(b:Int):=by omega
   by_cases F:bG s (p+b)=(aG fB b:Int)
   .have d8:p+b<s.size:=Classical.byContradiction λd9=>by rw[qL s _ d9]at F;omega
    have d2:=(hH s (p+b) d8 (aG fB b) (aDb b I)).1 F;rw[F,<-X]at c5;clear x D t E q H;go_wp2;go_roundg (6-(b+1));case measure=>omega
    case rel=>exact⟨b+1,by omega,c0.o,a5.o,by omega,λi a1=>by
     by_cases N:i=b
     .subst N;exact d2
     exact b7.o i (by omega)⟩
   have c1:aE (¬yB s p):=O λc9=>by
    obtain⟨f5,c8⟩:=aMb.1 c9;exact F ((hH s (p+b) (by omega) (aG fB b) (aDb b I)).2 (c8 b I))
   have a2:=O (zG c2.o);unfold iM at a2;rw[X]at b3;generalize bG s (p+b)=cc at *;have g1:(cc != (aG fB b:Int))=true:=by simpa using F
   clear x D t E q H X;go_wp2_with(first
    |(go_at_call 86;refine(aD a2).mono ?_;rintro N L ⟨rfl,W⟩;have J:=(W.block d (by have:=a7.o.size;simp only[Lib.iterAt_size];omega)).trans c3.o;have b8:=O W;have e4:Z L (aQ d 0)=some (.int .i32 0):=(by simp[Z,J]);have e5:Z L (aQ d 1)=some (iQ 0):=(by simp[Z,J]);have e6:Z L (aQ d 2)=some (.string ⟨#[]⟩):=(by simp[Z,J]);have e7:=kV (v:=.int .i32 (-2)) e4;have g3:∀b,zw L (aQ d b)=false:=(λb=>by simp[zw,J]);clear W J)
    |go_in)
   refine bodyPost_ret (by simp[results,Tryz.results84,go_sem,e7,e5,e6];try rfl) rfl ?_;have a0:aB w (wr.iterAt (d+2) fB (b+1)):=bE a4.o a5.o;have d4:aB w L:=bE a0 b8.o;have z:w.heap.size<=d:=by rw[a6.o];exact zp _
   have G:=fK (fK (fK d4 (p:=(aQ d 0)) z (.int .i32 (-2))) (p:=(aQ d 1)) z (iQ p)) (p:=(aQ d 2)) z (.string ⟨#[]⟩);exact⟨pC G _,Or.inr ⟨c1.o,rfl,C.o.below G⟩⟩
  obtain rfl:b=6:=by omega
  have y:¬6<fB.size:=by decide
  have b3:∀A,(Instr.next (pQ (d+2)) zk A).run zr wr=_:=λA=>Lib.run_next_end_at wr (d+2) fB 6 A x y
  have c4:aE (yB s p):=O (aMb.2 ⟨P,D⟩);have q:=R.o.below t;have M:=q.box.c0;have f4:=q.box.soft 0;have b2:=(t.block d (by omega)).trans S.o;have b1:=(t.block (d+1) (by omega)).trans a9.o;obtain⟨n,rfl⟩:∃n,m=n+6:=⟨m-6,by omega⟩;obtain⟨o,rfl⟩:∃o,c=o+6:=⟨c-6,by have:=C.o.mc;omega⟩;have e1:pb≠d:=by omega
  have e2:pb≠d+1:=by omega
  have r:∀e,(U wr (aQ pb 0) e).heap[d]?=V (.cells #[.int .i32 0,iQ 0,.string ⟨#[]⟩] 67)/\(U wr (aQ pb 0) e).heap[d+1]?=V (.cells #[.int .i32 36,iQ p,.string ⟨#[]⟩] 67):=λe=>⟨by rw[Below.heap_setCell _ _ _ _ e1.symm];exact b2,by rw[Below.heap_setCell _ _ _ _ e2.symm];exact b1⟩
  have e9:∀e,Z (U wr (aQ pb 0) e) (aQ d 0)=V (.int .i32 0):=λe=>by simp[Z,(r e).1]
  have f0:∀e,Z (U wr (aQ pb 0) e) (aQ d 1)=V (iQ 0):=λe=>by simp[Z,(r e).1]
  have f1:∀e,Z (U wr (aQ pb 0) e) (aQ d 2)=V (.string ⟨#[]⟩):=λe=>by simp[Z,(r e).1]
  have g4:∀e b,zw (U wr (aQ pb 0) e) (aQ d b)=false:=λe b=>by simp[zw,(r e).1]
  have g5:∀e,Z (U wr (aQ pb 0) e) (aQ (d+1) 0)=V (.int .i32 36):=λe=>by simp[Z,(r e).2]
  have g6:∀e,Z (U wr (aQ pb 0) e) (aQ (d+1) 1)=V (iQ p):=λe=>by simp[Z,(r e).2]
  have g7:∀e,Z (U wr (aQ pb 0) e) (aQ (d+1) 2)=V (.string ⟨#[]⟩):=λe=>by simp[Z,(r e).2]
  have f2:=λe=>kV (v:=.int .i32 36) (e9 e)
  have g0:n+6+1-6=n+1:=by omega
  have f6:o+6+1-6=o+1:=by omega
  have f9:(6:Int)<=(n:Int)+6+1:=by omega
  clear r x D t E q b2 b1;go_wp2;refine bodyPost_ret (by simp[results,Tryz.results84,go_sem,f2,f0,f1];try rfl) rfl ?_;have d0:=cG.jump 6 (p+6) n o C.o b9.o P;have a0:aB w wr:=bE a4.o a7.o;have d1:Below (U w (aQ pb 0) (.slice (V (aQ g (j*2+6*2))) (n+1) (o+1))).heap.size (U w (aQ pb 0) (.slice (V (aQ g (j*2+6*2))) (n+1) (o+1))) (U wr (aQ pb 0) (.slice (V (aQ g (j*2+6*2))) (n+1) (o+1))):=aG2 a0 (C.o.box.lt) _;have z:(U w (aQ pb 0) (.slice (V (aQ g (j*2+6*2))) (n+1) (o+1))).heap.size<=d:=by rw[<-a6.o];simp[U]
  have G:=fK (fK (fK d1 (p:=(aQ d 0)) z (.int .i32 36)) (p:=(aQ d 1)) z (iQ p)) (p:=(aQ d 2)) z (.string ⟨#[]⟩);have d5:zv w (U w (aQ pb 0) (.slice (V (aQ g (j*2+6*2))) (n+1) (o+1))) (V pb):=cD _ _ _;exact⟨d5.trans (pC G _),Or.inl ⟨c4.o,rfl,_,_,_,d0.below G⟩⟩
end
def fF(a:Nat):Int:=if a=110 then 97 else if a=118 then 65 else if a=102 then 36 else if a=101 then -1 else if a=63 then -2 else a
theorem aXc(b:ByteArray)(a:Nat)(c:a<b.size):fC (bG b a)=fC (aG b a):=by grind[aG,aAy,oO,fC,zn]
theorem aXd(b:ByteArray)(a:Nat)(c:a<b.size):eZ (bG b a)=eZ (aG b a):=by grind[aG,aAy,oO,eZ,zn]
theorem aXe(b:ByteArray)(a:Nat)(c:a<b.size):uP (bG b a)=oU (aG b a):=by grind[aG,bG,hH,uP,oU]
section
variable {B:Nat}{w W:zu}{pb:Nat}{s:ByteArray}{p g j m c:Nat}{k a:Int}{wd:ByteArray}{vC vP vM:zs}
theorem cG.setTok{d:Nat}{l:Array zs}(b:cG B W pb s p g j m c k a wd vC vP vM)(n:W.heap[d]?=V (.cells l 67))(i:Nat)(e:zs):cG B (U W (aQ d i) e) pb s p g j m c k a wd vC vP vM/\∃r,(U W (aQ d i) e).heap[d]?=V (.cells r 67):=by
 have t:pb≠d:=by rintro rfl;have:=b.box;unfold cU at this;rw[n]at this;simp at this
 refine⟨⟨?_,b.high,?_,b.len,b.drop,b.le⟩,?_⟩
 .unfold cU;rw[Below.heap_setCell _ _ _ _ t];exact b.box
 .refine ownsRow_setCell_other b.row ?_ e;intro o;obtain⟨_,⟨f,_⟩|⟨x,u,v,f,_,q,_⟩⟩:=b.row
  .simp at f
  simp at f;obtain⟨rfl,_⟩:=f;simp[Value.ownBlock]at o;subst o;rw[n]at q;simp at q
 refine⟨l.set! i e,?_⟩;have:=heap_setCell_same W d i l 67 e n;simpa using this
theorem cG.setTok3{b:Nat}{d:Array zs}(l:cG B W pb s p g j m c k a wd vC vP vM)(n:W.heap[b]?=V (.cells d 67))(e f i:zs):cG B (U (U (U W (aQ b 0) e) (aQ b 1) f) (aQ b 2) i) pb s p g j m c k a wd vC vP vM:=by grind[cG.setTok]
end
theorem kO{b:zu}{c d i:Nat}(a:zv w b (V c))(l:w.heap.size<=d)(k:zs):zv w (U b (aQ d i) k) (V c):=
 ⟨a.os,a.tape,a.output,by have:=a.size;simpa[U]using this,λj f g=>by rw[Below.heap_setCell _ _ _ _ (by intro e;simp at e;omega)];exact a.block j f g⟩
def uR(g d:Nat)(e:ByteArray)(s r k:Nat)(l i:Int)(p:ByteArray)(m o n:zs)(w:zu)(j:Ending)(f:zu):Prop:=
 zv w f (V d)/\
  match vK e r s with
  | .tok t q=>j=.returned (iM (fF t.kind) t.pos t.txt)/\∃b c a,cG g f d e q k b c a l i p m o n
  | .bad q=>j=.returned (iM (-2) q ⟨#[]⟩)/\∃b c a,cG g f d e q k b c a l i p m o n
  | .stop q=>j=.returned (iM (-1) q ⟨#[]⟩)/\∃b c a,cG g f d e q k b c a l i p m o n
theorem aGm{b:ByteArray}{a:Nat}(c:(fC (aG b a) || eZ (aG b a))=zk):iE (aG b a)=true:=by grind[iE]
section
variable {B:Nat}{w:zu}{pb:Nat}{s:ByteArray}{p g j m c:Nat}{k a:Int}{wd:ByteArray}{vC vP vM:zs}
theorem aMd(G:Nat)(c7:cG B w pb s p g j m c k a wd vC vP vM)(b7:s.size<=3000)(f9:s.size<p+G):Calls zr 49 #[pQ pb] w λe d=>uR B pb s p G g k a wd vC vP vM w e d:=by
 obtain⟨c2,i2,g4⟩:=aUo s G p f9 c7.le;have d6:=O (λc4=>aUp G (c7.below (aI w c4)) f9);have f6:aE (∀c4,(w.alloc c4).heap[w.heap.size]?=V c4):=O λc4=>by show (w.heap.push _)[w.heap.size]?=_;simp
 have i3:=c7.box.lt;obtain⟨b,g7⟩:∃b,oP s G p=b:=⟨_,rfl⟩;rw[g7]at c2 i2 g4 d6;have f4:=O c2;clear c7 g7 c2;go_enter Tryz.func49,Tryz.ntmps49;go_upto_region 3 with(first
  |(go_at_call 79;refine(aD d6 _).mono ?_;rintro e D ⟨rfl,d3,i6,j7,j3,c1⟩;have g9:=(d3.block w.heap.size (by simp) (by simp;omega)).trans (f6.o _);have f5:=O c1;have f7:=O g9;have h5:=c1.box.c0;have h6:=c1.at0.1;have h7:=c1.at0.2;have f3:aE (zv w D (some pb)):=O ((pC (aI w _) (some pb)).trans d3);have e9:=d3.size;clear d3 c1 g9)
  |go_in)
 have d0:=aI D (.cells #[.int .i32 (bG s b),iQ b] 149);have N:=O (f5.o.below d0);have e8:=d0.block w.heap.size (by simp at e9;omega);rw[f7.o]at e8;have a8:=O e8;have b3:=O (f3.o.trans (pC d0 (V pb)));have d2:(D.alloc (.cells #[.int .i32 (bG s b),iQ b] 149)).heap[D.heap.size]?=V (.cells #[.int .i32 (bG s b),iQ b] 149):=by show (D.heap.push _)[D.heap.size]?=_;simp
 have d8:Z (D.alloc (.cells #[.int .i32 (bG s b),iQ b] 149)) (aQ D.heap.size 0)=V (.int .i32 (bG s b)):=by unfold Z;rw[d2];rfl
 have j2:Z (D.alloc (.cells #[.int .i32 (bG s b),iQ b] 149)) (aQ D.heap.size 1)=V (iQ b):=by unfold Z;rw[d2];rfl
 have e0:D.heap.size<(D.alloc (.cells #[.int .i32 (bG s b),iQ b] 149)).heap.size:=by simp
 have c5:=O d2;have t:w.heap.size<=w.heap.size:=zp _;have i4:w.heap.size<D.heap.size:=by simp at e9;omega
 clear d0 e8 d2 f5 f7 f3 f6 d6 h5 h6 h7 e9;generalize D.alloc (.cells #[.int .i32 (bG s b),iQ b] 149)=w2 at *;generalize D.heap.size=fb at *;obtain⟨f,e6⟩:∃f,w.heap.size=f:=⟨_,rfl⟩;rw[e6]at a8 i3 i4;simp only[e6];have t:w.heap.size<=f:=by omega
 clear e6;have z:=O (λf2=>aL8 (bG s b) f2);have E:=O (λf2=>aL9 (bG s b) f2);by_cases v:b<s.size
 .have a0:aE (vK s G p=fT s b):=O (by rw[f4.o,aT v]);obtain⟨j5,j4⟩:=g4 v;have b5:=aXc s b v;have b4:=aXd s b v;rw[b5]at z;rw[b4]at E;by_cases b0:(fC (aG s b) || eZ (aG s b))=zk
  .have d5:=aGm b0;have b1:=aLp b0;by_cases e7:fC (aG s b)=zk
   .have e3:eZ (aG s b:Int)=false:=by simp only[fC,z7,decide_eq_true_eq]at e7;simp only[eZ,zn,decide_eq_false_iff_not];omega
    rw[e3]at b1;rw[e7]at z;obtain⟨K,A,T,S,R⟩:∃(K:Int) (A:Nat) (T:ByteArray),(∀d,zv w d (V pb)->(∃j m c,cG B d pb s A g j m c k a wd vC vP vM)->uR B pb s p G g k a wd vC vP vM w (.returned (iM K b T)) d)/\Calls zr 81 #[pQ pb,.int .i32 97] w2 λe d=>e=.returned (.agg #[.int .i32 K,iQ b,.string T])/\zv w2 d (V pb)/\∃j m c,cG B d pb s A g j m c k a wd vC vP vM:=by
     by_cases a6:fG s b-b > 20
     .refine⟨-2,b,⟨#[]⟩,λd l u=>⟨l,by rw[a0.o,b1,aT a6];exact⟨rfl,u⟩⟩,(aDa 97 N.o b7 v d5).mono ?_⟩;rintro e d ⟨l,hr⟩;rw[aT a6]at hr;exact⟨hr.1,l,_,_,_,hr.2⟩
     refine⟨97,fG s b,s.extract b (fG s b),λd l u=>⟨l,by rw[a0.o,b1,aS a6];exact⟨rfl,u⟩⟩,(aDa 97 N.o b7 v d5).mono ?_⟩;rintro e d ⟨l,hr⟩;rw[aS a6]at hr;exact⟨hr.1,l,hr.2⟩
    have F:=O S;have b2:=O R;clear S R b5 b4 b1;generalize bG s b=cc at *;go_wp2_with(first
     |(go_at_call 80;refine(aD z _).mono ?_;rintro e Q ⟨rfl,rfl⟩)
     |(go_at_call 81;refine(aD b2).mono ?_;rintro e q ⟨rfl,C,f0,f1,d9,W⟩;have n:=(C.block f (by omega) (by simp;omega)).trans a8.o;have a4:=O W;have a3:=O C;have a5:=O n;have H:Z q (aQ f 0)=some (.int .i32 0):=(by simp[Z,n]);have I:Z q (aQ f 1)=some (iQ 0):=(by simp[Z,n]);have J:Z q (aQ f 2)=some (.string ⟨#[]⟩):=(by simp[Z,n]);have L:=λM=>kV (v:=M) H;have b9:∀i,zw q (aQ f i)=false:=(λi=>by simp[zw,n]);clear C W n)
     |go_in)
    refine bodyPost_ret (by simp[results,zq,go_sem,L,I,J];try rfl) rfl ?_;exact F.o _ (kO (kO (kO (b3.o.trans a3.o) t _) t _) t _) ⟨_,_,_,a4.o.setTok3 a5.o _ _ _⟩
   have c3:fC (aG s b:Int)=false:=by simpa using e7
   have e3:eZ (aG s b:Int)=true:=by rw[c3]at b0;simpa using b0
   rw[e3]at b1 E;rw[c3]at z;obtain⟨K,A,T,S,R⟩:∃(K:Int) (A:Nat) (T:ByteArray),(∀d,zv w d (V pb)->(∃j m c,cG B d pb s A g j m c k a wd vC vP vM)->uR B pb s p G g k a wd vC vP vM w (.returned (iM K b T)) d)/\Calls zr 81 #[pQ pb,.int .i32 65] w2 λe d=>e=.returned (.agg #[.int .i32 K,iQ b,.string T])/\zv w2 d (V pb)/\∃j m c,cG B d pb s A g j m c k a wd vC vP vM:=by
    by_cases a6:fG s b-b > 20
    .refine⟨-2,b,⟨#[]⟩,λd l u=>⟨l,by rw[a0.o,b1,aT a6];exact⟨rfl,u⟩⟩,(aDa 65 N.o b7 v d5).mono ?_⟩;rintro e d ⟨l,hr⟩;rw[aT a6]at hr;exact⟨hr.1,l,_,_,_,hr.2⟩
    refine⟨65,fG s b,s.extract b (fG s b),λd l u=>⟨l,by rw[a0.o,b1,aS a6];exact⟨rfl,u⟩⟩,(aDa 65 N.o b7 v d5).mono ?_⟩;rintro e d ⟨l,hr⟩;rw[aS a6]at hr;exact⟨hr.1,l,hr.2⟩
   have F:=O S;have b2:=O R;clear S R b5 b4 b1;generalize bG s b=cc at *;go_wp2_with(first
    |(go_at_call 80;refine(aD z _).mono ?_;rintro e Q ⟨rfl,rfl⟩)
    |(go_at_call 82;refine(aD E _).mono ?_;rintro e Q ⟨rfl,rfl⟩)
    |(go_at_call 81;refine(aD b2).mono ?_;rintro e q ⟨rfl,C,f0,f1,d9,W⟩;have n:=(C.block f (by omega) (by simp;omega)).trans a8.o;have a4:=O W;have a3:=O C;have a5:=O n;have H:Z q (aQ f 0)=some (.int .i32 0):=(by simp[Z,n]);have I:Z q (aQ f 1)=some (iQ 0):=(by simp[Z,n]);have J:Z q (aQ f 2)=some (.string ⟨#[]⟩):=(by simp[Z,n]);have L:=λM=>kV (v:=M) H;have b9:∀i,zw q (aQ f i)=false:=(λi=>by simp[zw,n]);clear C W n)
    |go_in)
   refine bodyPost_ret (by simp[results,zq,go_sem,L,I,J];try rfl) rfl ?_;exact F.o _ (kO (kO (kO (b3.o.trans a3.o) t _) t _) t _) ⟨_,_,_,a4.o.setTok3 a5.o _ _ _⟩
  have c3:fC (aG s b:Int)=false:=by simp at b0;exact b0.1
  have g3:eZ (aG s b:Int)=false:=by simp at b0;exact b0.2
  have e2:(fC (aG s b) || eZ (aG s b))=false:=by rw[c3,g3];rfl
  rw[c3]at z;rw[g3]at E;by_cases c0:aG s b=39
  .have d4:=(hH s b v 39 (by omega)).2 c0;have X:=aGe e2 c0;obtain⟨K,A,T,S,R⟩:∃(K:Int) (A:Nat) (T:ByteArray),(∀d,zv w d (V pb)->(∃j m c,cG B d pb s A g j m c k a wd vC vP vM)->uR B pb s p G g k a wd vC vP vM w (.returned (iM K b T)) d)/\Calls zr 83 #[pQ pb] w2 λe d=>e=.returned (.agg #[.int .i32 K,iQ b,.string T])/\zv w2 d (V pb)/\∃j m c,cG B d pb s A g j m c k a wd vC vP vM:=by
    cases hq:mZ s b with
    |none=>
     rw[hq]at X;refine⟨-2,b,⟨#[]⟩,λd l u=>⟨l,by rw[a0.o,X];exact⟨rfl,u⟩⟩,(aMa N.o b7 d4).mono ?_⟩;rintro e d ⟨l,hr⟩;rw[hq]at hr;exact⟨hr.1,l,_,_,_,hr.2⟩
    |some r=>
     obtain⟨i8,i9⟩:=r;rw[hq]at X;refine⟨97,i9,i8,λd l u=>⟨l,by rw[a0.o,X];exact⟨rfl,u⟩⟩,(aMa N.o b7 d4).mono ?_⟩;rintro e d ⟨l,hr⟩;rw[hq]at hr;exact⟨hr.1,l,hr.2⟩
   have F:=O S;have b2:=O R;rw[d4]at d8 z E;clear S R b5 b4 X d4;go_wp2_with(first
    |(go_at_call 80;refine(aD z _).mono ?_;rintro e Q ⟨rfl,rfl⟩)
    |(go_at_call 82;refine(aD E _).mono ?_;rintro e Q ⟨rfl,rfl⟩)
    |(go_at_call 83;refine(aD b2).mono ?_;rintro e q ⟨rfl,C,f0,f1,d9,W⟩;have n:=(C.block f (by omega) (by simp;omega)).trans a8.o;have a4:=O W;have a3:=O C;have a5:=O n;have H:Z q (aQ f 0)=some (.int .i32 0):=(by simp[Z,n]);have I:Z q (aQ f 1)=some (iQ 0):=(by simp[Z,n]);have J:Z q (aQ f 2)=some (.string ⟨#[]⟩):=(by simp[Z,n]);have L:=λM=>kV (v:=M) H;have b9:∀i,zw q (aQ f i)=false:=(λi=>by simp[zw,n]);clear C W n)
    |go_in)
   refine bodyPost_ret (by simp[results,zq,go_sem,L,I,J];try rfl) rfl ?_;exact F.o _ (kO (kO (kO (b3.o.trans a3.o) t _) t _) t _) ⟨_,_,_,a4.o.setTok3 a5.o _ _ _⟩
  have e5:bG s b≠39:=λe=>c0 ((hH s b v 39 (by omega)).1 e)
  by_cases c8:aG s b=36
  .have g0:=(hH s b v 36 (by omega)).2 c8;have X:=aLq e2 c0 c8;obtain⟨K,A,S,R⟩:∃(K:Int) (A:Nat),(∀d,zv w d (V pb)->(∃j m c,cG B d pb s A g j m c k a wd vC vP vM)->uR B pb s p G g k a wd vC vP vM w (.returned (iM K b ⟨#[]⟩)) d)/\Calls zr 84 #[pQ pb] w2 λe d=>e=.returned (.agg #[.int .i32 K,iQ b,.string ⟨#[]⟩])/\zv w2 d (V pb)/\∃j m c,cG B d pb s A g j m c k a wd vC vP vM:=by
    by_cases c9:yB s b
    .rw[aT (show b+6<=s.size/\s.extract b (b+6)=⟨#[36,102,97,108,115,101]⟩ from c9)]at X;refine⟨36,b+6,λd l u=>⟨l,by rw[a0.o,X];exact⟨rfl,u⟩⟩,(aMc N.o).mono ?_⟩;rintro e d ⟨l,hr|hr⟩
     .exact⟨hr.2.1,l,hr.2.2⟩
     exact absurd c9 hr.1
    rw[aS (show ¬(b+6<=s.size/\s.extract b (b+6)=⟨#[36,102,97,108,115,101]⟩) from c9)]at X;refine⟨-2,b,λd l u=>⟨l,by rw[a0.o,X];exact⟨rfl,u⟩⟩,(aMc N.o).mono ?_⟩;rintro e d ⟨l,hr|hr⟩
    .exact absurd hr.1 c9
    exact⟨hr.2.1,l,_,_,_,hr.2.2⟩
   have F:=O S;have b2:=O R;rw[g0]at d8 z E;clear S R b5 b4 X g0 e5;go_wp2_with(first
    |(go_at_call 80;refine(aD z _).mono ?_;rintro e Q ⟨rfl,rfl⟩)
    |(go_at_call 82;refine(aD E _).mono ?_;rintro e Q ⟨rfl,rfl⟩)
    |(go_at_call 84;refine(aD b2).mono ?_;rintro e q ⟨rfl,C,f0,f1,d9,W⟩;have n:=(C.block f (by omega) (by simp;omega)).trans a8.o;have a4:=O W;have a3:=O C;have a5:=O n;have H:Z q (aQ f 0)=some (.int .i32 0):=(by simp[Z,n]);have I:Z q (aQ f 1)=some (iQ 0):=(by simp[Z,n]);have J:Z q (aQ f 2)=some (.string ⟨#[]⟩):=(by simp[Z,n]);have L:=λM=>kV (v:=M) H;have b9:∀i,zw q (aQ f i)=false:=(λi=>by simp[zw,n]);clear C W n)
    |go_in)
   refine bodyPost_ret (by simp[results,zq,go_sem,L,I,J];try rfl) rfl ?_;exact F.o _ (kO (kO (kO (b3.o.trans a3.o) t _) t _) t _) ⟨_,_,_,a4.o.setTok3 a5.o _ _ _⟩
  have g5:bG s b≠36:=λe=>c8 ((hH s b v 36 (by omega)).1 e)
  have b8:=aGf e2 c0 c8;have e4:=aXe s b v;have a2:=O (aLl (bG s b) w2 (aG0 s b));rw[e4]at a2;have c2:=aFz s b v;cases hm:oU (aG s b)
  .rw[hm]at a2 b8;have F:aE (∀d,zv w d (V pb)->(∃j m c,cG B d pb s b g j m c k a wd vC vP vM)->uR B pb s p G g k a wd vC vP vM w (.returned (iM (-2) b ⟨#[]⟩)) d):=O λd l u=>⟨l,by rw[a0.o,b8];exact⟨rfl,u⟩⟩
   clear b5 b4 b8 e4 hm;generalize bG s b=cc at *;have j1:(cc==39)=false:=by simpa using e5
   have j0:(cc==36)=false:=by simpa using g5
   have j8:(cc==-1)=false:=by simpa using c2
   go_wp2_with(first
    |(go_at_call 80;refine(aD z _).mono ?_;rintro e Q ⟨rfl,rfl⟩)
    |(go_at_call 82;refine(aD E _).mono ?_;rintro e Q ⟨rfl,rfl⟩)
    |(go_at_call 85;refine(aD a2).mono ?_;rintro e x ⟨rfl,y⟩;have b6:=O y;have P:=(y.block f (by omega)).trans a8.o;have d7:=O P;have a1:=(y.block fb e0).trans c5.o;have h0:Z x (aQ fb 0)=some (.int .i32 (cc)):=(by unfold Z;rw[a1];rfl);have h1:Z x (aQ fb 1)=some (iQ b):=(by unfold Z;rw[a1];rfl);have a7:=N.o.below y;have h8:=a7.box.c0;have h9:=a7.box.soft 0;have c6:=O a7;clear y P a1 a7)
    |(go_at_call 86;refine(zG c6.o).mono ?_;rintro e q ⟨rfl,d1⟩;unfold iM;have j6:=b6.o.size;have n:=(d1.block f (by omega)).trans d7.o;have a4:=O (c6.o.below d1);have a3:=O ((pC b6.o (some pb)).trans (pC d1 (some pb)));have a5:=O n;have H:Z q (aQ f 0)=some (.int .i32 0):=(by simp[Z,n]);have I:Z q (aQ f 1)=some (iQ 0):=(by simp[Z,n]);have J:Z q (aQ f 2)=some (.string ⟨#[]⟩):=(by simp[Z,n]);have L:=λM=>kV (v:=M) H;have b9:∀i,zw q (aQ f i)=false:=(λi=>by simp[zw,n]);clear d1 n)
    |go_in)
   refine bodyPost_ret (by simp[results,zq,go_sem,L,I,J];try rfl) rfl ?_;exact F.o _ (kO (kO (kO (b3.o.trans a3.o) t _) t _) t _) ⟨_,_,_,a4.o.setTok3 a5.o _ _ _⟩
  rw[hm]at a2 b8;have i1:aG s b<128:=by unfold oU at hm;simp at hm;omega
  obtain⟨g1,i5⟩:=oO s b v i1;have g2:fF (aG s b)=bG s b:=by
   rw[g1];have g6:aG s b=124\/aG s b=126\/aG s b=40\/aG s b=41\/aG s b=44\/aG s b=46:=by unfold oU at hm;simp at hm;omega
   generalize aG s b=bb at g6 ⊢;rcases g6 with rfl|rfl|rfl|rfl|rfl|rfl<;>rfl
  have F:aE (∀d,zv w d (V pb)->(∃j m c,cG B d pb s (b+1) g j m c k a wd vC vP vM)->uR B pb s p G g k a wd vC vP vM w (.returned (iM (bG s b) b ⟨#[]⟩)) d):=O λd l u=>⟨l,by rw[a0.o,b8];exact⟨by rw[<-g2],u⟩⟩
  obtain⟨i7,h4,rfl,rfl⟩:=N.o.more v;clear b5 b4 b8 e4 hm g1 g2;generalize bG s b=cc at *;have j1:(cc==39)=false:=by simpa using e5
  have j0:(cc==36)=false:=by simpa using g5
  go_wp2_with(first
   |(go_at_call 80;refine(aD z _).mono ?_;rintro e Q ⟨rfl,rfl⟩)
   |(go_at_call 82;refine(aD E _).mono ?_;rintro e Q ⟨rfl,rfl⟩)
   |(go_at_call 85;refine(aD a2).mono ?_;rintro e x ⟨rfl,y⟩;have b6:=O y;have P:=(y.block f (by omega)).trans a8.o;have a1:=(y.block fb e0).trans c5.o;have a7:=N.o.below y;have h8:=a7.box.c0;have h9:=a7.box.soft 0;have h3:=O (a7.step v);have a9:∀o,(U x (aQ pb 0) o).heap[f]?=some (.cells #[.int .i32 0,iQ 0,.string ⟨#[]⟩] 67)/\(U x (aQ pb 0) o).heap[fb]?=some (.cells #[.int .i32 cc,iQ b] 149):=(λo=>⟨by rw[Below.heap_setCell _ _ _ _ (show f≠pb by omega)];exact P,by rw[Below.heap_setCell _ _ _ _ (show fb≠pb by omega)];exact a1⟩);have h0:∀o,Z (U x (aQ pb 0) o) (aQ fb 0)=some (.int .i32 cc):=(λo=>by unfold Z;rw[(a9 o).2];rfl);have h1:∀o,Z (U x (aQ pb 0) o) (aQ fb 1)=some (iQ b):=(λo=>by unfold Z;rw[(a9 o).2];rfl);have H:∀o,Z (U x (aQ pb 0) o) (aQ f 0)=some (.int .i32 0):=(λo=>by unfold Z;rw[(a9 o).1];rfl);have I:∀o,Z (U x (aQ pb 0) o) (aQ f 1)=some (iQ 0):=(λo=>by unfold Z;rw[(a9 o).1];rfl);have J:∀o,Z (U x (aQ pb 0) o) (aQ f 2)=some (.string ⟨#[]⟩):=(λo=>by unfold Z;rw[(a9 o).1];rfl);have b9:∀o i,zw (U x (aQ pb 0) o) (aQ f i)=false:=(λo i=>by simp[zw,(a9 o).1]);have L:=λo M=>kV (v:=M) (H o);have h2:=O a9;clear y P a1 a7 a9)
   |go_in)
  refine bodyPost_ret (by simp[results,zq,go_sem,L,I,J];try rfl) rfl ?_;have i0:=tX (j:=0) (b3.o.trans (pC b6.o (V pb))) (.slice (V (aQ g (i6*2+2))) (i7+1) (h4+1));have f8:=h3.o;rw[i5]at f8;exact F.o _ (kO (kO (kO i0 t _) t _) t _) ⟨_,_,_,f8.setTok3 (h2.o _).1 _ _ _⟩
 have g8:b=s.size:=by omega
 have e1:=qL s b v;have a2:=O (aLl (bG s b) w2 (aG0 s b));rw[e1]at a2 z E d8;rw[show uP (-1)=yz by decide]at a2;rw[show fC (-1)=yz by decide]at z;rw[show eZ (-1)=yz by decide]at E;rw[e1]at c5;have F:aE (∀d,zv w d (V pb)->(∃j m c,cG B d pb s b g j m c k a wd vC vP vM)->uR B pb s p G g k a wd vC vP vM w (.returned (iM (-1) b ⟨#[]⟩)) d):=O λd l u=>⟨l,by rw[f4.o,aS v,<-g8];exact⟨rfl,u⟩⟩
 clear e1 g8;go_wp2_with(first
  |(go_at_call 80;refine(aD z _).mono ?_;rintro e Q ⟨rfl,rfl⟩)
  |(go_at_call 82;refine(aD E _).mono ?_;rintro e Q ⟨rfl,rfl⟩)
  |(go_at_call 85;refine(aD a2).mono ?_;rintro e x ⟨rfl,y⟩;have b6:=O y;have P:=(y.block f (by omega)).trans a8.o;have a1:=(y.block fb e0).trans c5.o;have d7:=O P;have c6:=O (N.o.below y);have h0:Z x (aQ fb 0)=some (.int .i32 (-1)):=(by unfold Z;rw[a1];rfl);have h1:Z x (aQ fb 1)=some (iQ b):=(by unfold Z;rw[a1];rfl);have H:Z x (aQ f 0)=some (.int .i32 0):=(by simp[Z,P]);have I:Z x (aQ f 1)=some (iQ 0):=(by simp[Z,P]);have J:Z x (aQ f 2)=some (.string ⟨#[]⟩):=(by simp[Z,P]);have L:=λM=>kV (v:=M) H;have b9:∀i,zw x (aQ f i)=false:=(λi=>by simp[zw,P]);clear y P a1)
  |go_in)
 refine bodyPost_ret (by simp[results,zq,go_sem,L,I,J];try rfl) rfl ?_;exact F.o _ (kO (kO (kO (b3.o.trans (pC b6.o (V pb))) t _) t _) t _) ⟨_,_,_,c6.o.setTok3 d7.o _ _ _⟩
end
