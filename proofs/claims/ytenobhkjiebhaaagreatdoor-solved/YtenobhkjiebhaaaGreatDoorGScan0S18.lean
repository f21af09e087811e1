import Derived.Test.YtenobhkjiebhaaaGreatDoorSParS18
import Derived.Deep.LoopGhost
import Derived.Laws.Cover4
import Derived.Deep.RegionHeld3
import Derived.Lib.MapLaws
open Array renaming getElem?_eq_getElem->zg,replicate->z1
open Bool renaming true->zm,false->zf,eq_iff_iff->ze
open List renaming length->Z,length_append->zi,length_drop->z0
open Nat renaming le_refl->zq,zero_le->za
open Option renaming some->Y,none->zo
namespace Go.Proofs.YtenobhkjiebhaaaGreatDoor
open Go renaming World->zw,Value->zv
open _root_.Go.Proofs.Tryz renaming prog->zu,underlying9->zk,underlying104->zh
open Utf8 renaming decode->zr,encode->zn,valid->z2
open World renaming cell?->zx,ownsRow->zt,setCell->zs,grownBy->zj
open Go.RowKit Go.Shelf Go.WideMaps
set_option maxHeartbeats 2000000
set_option maxRecDepth 100000
variable{n:ByteArray}{U:List Us}{k p:Nat}{w:zw}
def bG(a:ByteArray)(p:Nat):Int:=if p<a.size then oA a p else -1
def kA(a:ByteArray)(p:Nat):Nat:=(zr a p).2
theorem oO(a:ByteArray)(p:Nat)(b:p<a.size)(c:aG a p<128):bG a p=aG a p/\kA a p=1:=by unfold bG kA oA;rw[aT b,Lib.decode_N,<-oE];unfold Lib.decodeN;grind
theorem aAy(a:ByteArray)(p:Nat)(b:p<a.size)(c:128<=aG a p):bG a p=-2\/128<=bG a p:=by unfold bG oA;rw[aT b,Lib.decode_N,<-oE];have d:=xD a p;unfold Lib.decodeN;grind
theorem hH(b:ByteArray)(p:Nat)(d:p<b.size)(a:Nat)(c:a<128):bG b p=(a:Int)↔aG b p=a:=by grind[aG,aAy,oO]
theorem qL(a:ByteArray)(p:Nat)(b:¬p<a.size):bG a p=-1:=aS b
theorem aFz(a:ByteArray)(p:Nat)(b:p<a.size):bG a p≠-1:=by grind[aG,aAy,oO]
theorem aAz(a:ByteArray)(p:Nat):1<=kA a p:=(zK a p).1
theorem aB0(a:ByteArray)(p:Nat)(b:p<a.size):p+kA a p<=a.size:=aLi a p b
theorem aG0(a:ByteArray)(p:Nat):aGc (bG a p):=by
 unfold bG;split
 .exact aVr a p
 exact Or.inl rfl
theorem aUk(b:ByteArray)(p a:Nat)(e:p<b.size)(c:0<a)(d:a<kA b p):128<=aG b (p+a):=by grind[vJ,aEi,aPt,kA]
theorem aG1(a:ByteArray)(p:Nat)(d:p<=a.size):∃c,dL a p=(bG a p,p)::c:=by
 by_cases b:p<a.size
 .exact⟨_,by rw[wK b];unfold bG;rw[aT b]⟩
 have:p=a.size:=by omega
 subst this;exact⟨[],by rw[aGa b];unfold bG;rw[aS b]⟩
def cU(w:zw)(b:Nat)(left:zv)(k a:Int)(f:ByteArray)(c e d:zv):Prop:=w.heap[b]?=Y (.cells #[left,.int .i32 k,iQ a,.string f,c,e,d] 74)
section
variable {w:zw}{pb:Nat}{left:zv}{k a:Int}{wd:ByteArray}{vC vP vM:zv}
theorem cU.c0(b:cU w pb left k a wd vC vP vM):zx w (aQ pb 0)=Y left:=by unfold cU at b;simp[zx,b]
theorem cU.c1(b:cU w pb left k a wd vC vP vM):zx w (aQ pb 1)=Y (.int .i32 k):=by unfold cU at b;simp[zx,b]
theorem cU.c2(b:cU w pb left k a wd vC vP vM):zx w (aQ pb 2)=Y (iQ a):=by unfold cU at b;simp[zx,b]
theorem cU.c3(b:cU w pb left k a wd vC vP vM):zx w (aQ pb 3)=Y (.string wd):=by unfold cU at b;simp[zx,b]
theorem cU.c4(b:cU w pb left k a wd vC vP vM):zx w (aQ pb 4)=Y vC:=by unfold cU at b;simp[zx,b]
theorem cU.c5(b:cU w pb left k a wd vC vP vM):zx w (aQ pb 5)=Y vP:=by unfold cU at b;simp[zx,b]
theorem cU.c6(b:cU w pb left k a wd vC vP vM):zx w (aQ pb 6)=Y vM:=by unfold cU at b;simp[zx,b]
theorem cU.soft(b:cU w pb left k a wd vC vP vM)(j:Nat):World.frozen? w (aQ pb j)=false:=by unfold cU at b;simp[World.frozen?,b]
theorem cU.lt(b:cU w pb left k a wd vC vP vM):pb<w.heap.size:=(bA b)
theorem cU.below(b:cU w pb left k a wd vC vP vM){w':zw}{B:Nat}(c:Below B w w')(d:w.heap.size<=B):cU w' pb left k a wd vC vP vM:=by have:=b.lt;unfold cU;rw[c.block pb (by omega)];exact b
theorem cU.set0(c:cU w pb left k a wd vC vP vM)(b:zv):cU (zs w (aQ pb 0) b) pb b k a wd vC vP vM:=heap_setCell_same w pb 0 _ _ _ c
theorem cU.row(i:cU w pb left k a wd vC vP vM){B:Nat}{e:TypeId}{d:Nat}{v:zv}{n:Nat}{xs:List zv}(b:zt w B e d v n xs)(m:e≠74)(j:Nat)(u:zv):zt (zs w (aQ pb j) u) B e d v n xs:=by
 refine ownsRow_setCell_other b ?_ u;intro c;obtain⟨_,⟨rfl,_⟩|⟨g,cap,f,rfl,l,o,_⟩⟩:=b
 .simp[Value.ownBlock]at c
 simp[Value.ownBlock]at c;grind[cU]
end
structure cG(B:Nat)(w:zw)(pb:Nat)(s:ByteArray)(p g j m c:Nat)(k a:Int)(wd:ByteArray)(vC vP vM:zv):Prop where
 box:cU w pb (.slice (Y (aQ g (j*2))) (m+1) (c+1)) k a wd vC vP vM
 high:B<=pb
 row:zt w B 149 2 (sQ g (j+m+1) (j+c+1)) (j+m+1) (qN (dL s 0))
 len:Z (dL s 0)=j+m+1
 drop:(dL s 0).drop j=dL s p
 le:p<=s.size
section
variable {B:Nat}{w w':zw}{pb:Nat}{s:ByteArray}{p g j m c:Nat}{k a:Int}{wd:ByteArray}{vC vP vM:zv}
theorem cG.below(b:cG B w pb s p g j m c k a wd vC vP vM)(d:aB w w'):cG B w' pb s p g j m c k a wd vC vP vM:=
 ⟨b.box.below d (zq _),b.high,bF b.row d (zq _),b.len,b.drop,b.le⟩
theorem cG.at0(b:cG B w pb s p g j m c k a wd vC vP vM):zx w (aQ g (j*2))=Y (.int .i32 (bG s p))/\zx w (aQ g (j*2+1))=Y (iQ p):=by
 obtain⟨q,l⟩:=aG1 s p b.le;have i:j<Z (dL s 0):=by have:=b.len;omega
 have f:(dL s 0)[j]=(bG s p,p):=by
  have o:((dL s 0).drop j)[0]?=Y (bG s p,p):=by rw[b.drop,l];rfl
  grind
 obtain⟨d,e⟩:=aGb (dL s 0) j i;rw[f]at d e;exact⟨by rw[b.row.cellAt _ (by omega),d],by rw[b.row.cellAt _ (by omega),e]⟩
theorem cG.more(d:cG B w pb s p g j m c k a wd vC vP vM)(l:p<s.size):∃o f,m=o+1/\c=f+1:=by
 have x:=d.len;have i:=congrArg Z d.drop;rw[z0,wK l,List.length_cons]at i;have u:=(aCz s _ (p+(zr s p).2) (zq _)).1;have e:=d.row.2;obtain⟨_,e⟩:=d.row;rcases e with⟨b,_⟩|⟨t,q,r,b,_,_,v,_⟩
 .simp at b
 simp at b;obtain⟨_,rfl⟩:=b;exact⟨m-1,c-1,by omega,by omega⟩
theorem cG.step(b:cG B w pb s p g j (m+1) (c+1) k a wd vC vP vM)(e:p<s.size):cG B (zs w (aQ pb 0) (.slice (Y (aQ g (j*2+2))) (m+1) (c+1))) pb s (p+kA s p) g (j+1) m c k a wd vC vP vM:=by
 rw[show j*2+2=(j+1)*2 by omega];refine⟨b.box.set0 _,b.high,?_,by have:=b.len;omega,?_,aB0 s p e⟩
 .have:=b.box.row b.row (by decide) 0 (.slice (Y ⟨g,(j+1)*2,zo⟩) (m+1) (c+1));grind
 have d:=b.drop;rw[wK e]at d;have:(dL s 0).drop (j+1)=((dL s 0).drop j).drop 1:=by rw[List.drop_drop]
 rw[this,d];rfl
end
theorem aG2{c:zw}(b:aB w c){a:Addr}(j:a.block<w.heap.size)(e:zv):Below (w.setCell a e).heap.size (w.setCell a e) (c.setCell a e):=by
 refine⟨b.os,b.tape,b.output,by have:=b.size;simpa[zs]using this,λk g=>?_⟩;have i:k<w.heap.size:=by simpa[zs]using g
 have f:=b.block k i;by_cases d:k=a.block
 .subst d;have m:a.block<c.heap.size:=Nat.lt_of_lt_of_le j b.size;have l:c.heap[a.block]?=w.heap[a.block]?:=f;simp only[zs];grind
 rw[Below.heap_setCell _ _ _ _ d,Below.heap_setCell _ _ _ _ d,f]
theorem aUl{a:ByteArray}(c:p<a.size)(e:bG a p≠10):jD a p=jD a (p+kA a p):=by
 have g:aG a p≠10:=λd=>e ((hH a p c 10 (by omega)).2 d)
 have i:∀b,1<=b->b<=kA a p->jD a p=jD a (p+b):=by
  intro b j;induction b with
  |zero=>omega
  |succ b ih=>
   intro l;by_cases f:b=0
   .subst f;exact aEj c g
   rw[ih (by omega) (by omega)];have m:=aB0 a p c;exact aEj (by omega) (by have:=aUk a p b c (by omega) (by omega);omega)
 exact i _ (aAz a p) (zq _)
def iM(k a:Int)(b:ByteArray):zv:=.agg #[.int .i32 k,iQ a,.string b]
section
variable {B:Nat}{pb:Nat}{s:ByteArray}{p g j m c:Nat}{k a:Int}{wd:ByteArray}{vC vP vM:zv}
theorem zG(d:cG B w pb s p g j m c k a wd vC vP vM):Calls zu 86 #[pQ pb] w λf i=>f=.returned (iM (-2) p ⟨#[]⟩)/\aB w i:=by
 have e:=d.box.c0;have l:∀b,zx (w.alloc b) (aQ pb 0)=Y (.slice (Y (aQ g (j*2))) (m+1) (c+1)):=λb=>aC (aI w b) e
 have o:∀b,zx (w.alloc b) (aQ g (j*2+1))=Y (iQ p):=λb=>aC (aI w b) d.at0.2
 clear d e;go_enter Tryz.func86,Tryz.ntmps86;go_wp2;go_returns;exact⟨rfl,aI w _⟩
theorem aUm(q:cG B w pb s p g j m c k a wd vC vP vM):Calls zu 118 #[pQ pb] w λG A=>G=.returned (.tuple #[])/\zj w A (Y pb)/\∃f o i,cG B A pb s (jD s p) g f o i k a wd vC vP vM:=by
 have R:=q.le;go_enter Tryz.func118,Tryz.ntmps118;go_wp2;go_loopg [] (s.size-p) (λM wr=>∃b f o i,cG B wr pb s b g f o i k a wd vC vP vM/\jD s p=jD s b/\M=s.size-b/\zj w wr (Y pb));exact⟨p,j,m,c,q,rfl,rfl,World.grownBy.refl _ _⟩;obtain⟨b,f,o,i,d,l,W,t⟩:=hrel;have N:=d.box.c0;have P:=d.box.soft 0;have z:=d.at0.1;have y:=O d;have C:=O l;have u:=O t;have S:=d.le;by_cases r:bG s b=10
 .have e:b<s.size:=Classical.byContradiction λH=>by rw[qL s b H]at r;omega
  have v:aE (jD s p=b):=O (by rw[l];exact aEk λx=>x.2 ((hH s b e 10 (by omega)).1 r));rw[r]at z;clear d l t q;go_wp2;go_returns;exact⟨rfl,u.o,f,o,i,by rw[v.o];exact y.o⟩
 by_cases e:b<s.size
 .have J:=aFz s b e;obtain⟨L,F,rfl,rfl⟩:=d.more e;have E:=O (d.step e);have D:=O (aUl e r);have X:=aAz s b;have a0:=aB0 s b e;generalize bG s b=cc at *;have Q:(cc != 10)=true:=by simpa using r
  have T:(cc != -1)=true:=by simpa using J
  clear d l t q;go_wp2;go_roundg (s.size-(b+kA s b));case measure=>omega
  case rel=>exact⟨b+kA s b,f+1,L,F,E.o,by rw[C.o,D.o],rfl,tX u.o _⟩
 have I:=qL s b e;rw[I]at z;have v:aE (jD s p=b):=O (by rw[l];exact aEk λx=>e x.1);clear d l t q;go_wp2;go_returns;exact⟨rfl,u.o,f,o,i,by rw[v.o];exact y.o⟩
theorem aUn(b:Int)(w:zw):Calls zu 117 #[.int .i32 b] w λf i=>f=.returned (.bool (decide (b=32) || decide (b=9) || decide (b=10)))/\i=w:=by
 go_enter Tryz.func117,Tryz.ntmps117;by_cases d:b=32
 .subst d;go_wp2;go_ret;exact⟨rfl,rfl⟩
 have l:(b==32)=false:=by simpa using d
 by_cases e:b=9
 .subst e;go_wp2;go_ret;exact⟨rfl,rfl⟩
 have o:(b==9)=false:=by simpa using e
 go_wp2;go_ret;exact⟨eB (by simp[d,e];rfl),rfl⟩
def oP(s:ByteArray):Nat->Nat->Nat
 |0,p=>p
 |f+1,p=>if p<s.size then if lE (aG s p) then oP s f (p+1) else if aG s p=37 then oP s f (jD s p) else p else p
theorem aUo(s:ByteArray):∀b p,s.size<p+b->p<=s.size->vK s b p=(if oP s b p<s.size then fT s (oP s b p) else .stop s.size)/\oP s b p<=s.size/\(oP s b p<s.size->lE (aG s (oP s b p))=zf/\aG s (oP s b p)≠37):=by
 intro b;induction b with
 |zero=>intro p o i;omega
 |succ b ih=>
  intro p o i;rw[vK,oP];by_cases d:p<s.size
  .rw[aT d,aT d];by_cases f:lE (aG s p)=zm
   .rw[aT f,aT f];exact ih (p+1) (by omega) (by omega)
   rw[aS f,aS f];by_cases e:aG s p=37
   .rw[aT e,aT e];have:=aB4 d e;exact ih _ (by omega) (aD1 i)
   rw[aS e,aS e,aT d];exact⟨rfl,i,λ_=>⟨by simpa using f,e⟩⟩
  rw[aS d,aS d,aS d];have:p=s.size:=by omega
  exact⟨by rw[this],i,λl=>absurd l d⟩
theorem aUp(D:Nat)(x:cG B w pb s p g j m c k a wd vC vP vM)(a0:s.size<p+D):Calls zu 79 #[pQ pb] w λl R=>l=.returned (.tuple #[])/\zj w R (Y pb)/\∃q v t,cG B R pb s (oP s D p) g q v t k a wd vC vP vM:=by
 go_enter Tryz.func79,Tryz.ntmps79;go_wp2;go_loopg [] D (λr wr=>∃b q v t,cG B wr pb s b g q v t k a wd vC vP vM/\oP s D p=oP s r b/\s.size<b+r/\zj w wr (Y pb));exact⟨p,j,m,c,x,rfl,a0,World.grownBy.refl _ _⟩;obtain⟨b,q,v,t,e,d,b2,A⟩:=hrel;have b1:=e.le;obtain⟨r,rfl⟩:∃r,gk=r+1:=⟨gk-1,by omega⟩;have a8:=e.box.c0;have a9:=e.box.soft 0;have N:=e.at0.1;have G:=O e;have C:=O A;have i:=O (λa7=>aUn (bG s b) a7);rw[oP]at d;by_cases f:b<s.size
 .rw[aT f]at d;have E:(decide (bG s b=32) || decide (bG s b=9) || decide (bG s b=10))=lE (aG s b):=by
   unfold lE;have I:=hH s b f 32 (by omega);have J:=hH s b f 9 (by omega);have L:=hH s b f 10 (by omega);have I:(bG s b=32)=(aG s b=32):=propext I;have J:(bG s b=9)=(aG s b=9):=propext J;have L:(bG s b=10)=(aG s b=10):=propext L;simp only[I,J,L]
  rw[E]at i;have y:=hH s b f 37 (by omega);by_cases u:lE (aG s b)=zm
  .rw[aT u]at d;rw[u]at i;obtain⟨a6,X,rfl,rfl⟩:=e.more f;have a2:aG s b<128:=by unfold lE at u;simp at u;omega
   have M:=O (e.step f);rw[(oO s b f a2).2]at M;have o:=O d;clear e d A x E y;go_wp2_with(go_at_call 117;refine(aD i _).mono ?_;rintro l F ⟨rfl,rfl⟩);go_roundg r;case measure=>omega
   case rel=>exact⟨b+1,q+1,a6,X,M.o,o.o,by omega,tX C.o _⟩
  rw[aS u]at d;have a1:lE (aG s b)=false:=by simpa using u
  rw[a1]at i;by_cases z:aG s b=37
  .rw[aT z]at d;have H:=y.2 z;rw[H]at N;have b0:=aB4 f z;have o:=O d;clear e d A x E y;go_wp2_with(first
    |(go_at_call 117;rw[H]at i;refine(aD i _).mono ?_;rintro l F ⟨rfl,rfl⟩)
    |(go_at_call 118;refine(aUm G.o).mono ?_;rintro l F ⟨rfl,Q,a4,a5,W,P⟩;have S:=O Q;have T:=O P;clear Q P))
   go_roundg r;case measure=>omega
   case rel=>exact⟨jD s b,a4,a5,W,T.o,o.o,by omega,C.o.trans S.o⟩
  rw[aS z]at d;have a3:bG s b≠37:=λl=>z (y.1 l)
  have o:=O d;generalize bG s b=cc at *;have H:(cc==37)=false:=by simpa using a3
  clear e d A x E y;go_wp2_with(go_at_call 117;refine(aD i _).mono ?_;rintro l F ⟨rfl,rfl⟩);go_returns;exact⟨rfl,C.o,q,v,t,by rw[o.o];exact G.o⟩
 rw[aS f]at d;have o:=O d;rw[qL s b f]at N i;clear e d A x;go_wp2_with(go_at_call 117;refine(aD i _).mono ?_;rintro l F ⟨rfl,rfl⟩);go_returns;exact⟨rfl,C.o,q,v,t,by rw[o.o];exact G.o⟩
end
theorem aL8(a:Int)(w:zw):Calls zu 80 #[.int .i32 a] w λb c=>b=.returned (.bool (fC a))/\c=w:=by
 unfold fC;by_cases d:97<=a;all_goals
  go_enter Tryz.func80,Tryz.ntmps80;go_wp2;go_ret;exact⟨eB (by rw[ze];simp;omega),rfl⟩
theorem aL9(a:Int)(w:zw):Calls zu 82 #[.int .i32 a] w λb c=>b=.returned (.bool (eZ a))/\c=w:=by
 unfold eZ;by_cases d:65<=a;all_goals
  go_enter Tryz.func82,Tryz.ntmps82;go_wp2;go_ret;exact⟨eB (by rw[ze];simp;omega),rfl⟩
theorem aUq(a:Int)(w:zw):Calls zu 146 #[.int .i32 a] w λb c=>b=.returned (.bool (rD a))/\c=w:=by
 unfold rD;by_cases d:48<=a;all_goals
  go_enter Tryz.func146,Tryz.ntmps146;go_wp2;go_ret;exact⟨eB (by rw[ze];simp;omega),rfl⟩
theorem aUr(c:Int)(w:zw):Calls zu 119 #[.int .i32 c] w λa w'=>a=.returned (.bool (iE c))/\w'=w:=by
 have d:=aL8 c w;have e:=aL9 c w;have f:=aUq c w;have b:aE (iE c=(fC c || eZ c || rD c || c==95)):=rfl;generalize fC c=b1 at *;generalize eZ c=b2 at *;generalize rD c=b3 at *;go_enter Tryz.func119,Tryz.ntmps119;cases b1<;>cases b2<;>cases b3;all_goals
  go_wp2_with(first
   |(go_at_call 80;refine d.mono ?_;rintro a w' ⟨rfl,rfl⟩)
   |(go_at_call 82;refine e.mono ?_;rintro a w' ⟨rfl,rfl⟩)
   |(go_at_call 146;refine f.mono ?_;rintro a w' ⟨rfl,rfl⟩))
  go_ret;exact⟨eB (by rw[b.o];simp),rfl⟩
def uN(a:Int):Bool:=decide (a=39) || decide (a=92)
theorem aUs(a:Int)(w:zw):Calls zu 120 #[.int .i32 a] w λd f=>d=.returned (.bool (uN a))/\f=w:=by
 by_cases b:a=39
 .have e:(a==39)=true:=by simp[b]
  have c:=O (show uN a=zm by simp[uN,b]);clear b;go_enter Tryz.func120,Tryz.ntmps120;go_wp2;go_ret;exact⟨eB c.o.symm,rfl⟩
 have e:(a==39)=false:=by simp[b]
 have c:=O (show uN a=(a==92) by simp[uN,b];rfl);clear b;go_enter Tryz.func120,Tryz.ntmps120;go_wp2;go_ret;exact⟨eB c.o.symm,rfl⟩
theorem aG3:(Tryz.prog.info? 21).map (λa=>(a.zero,a.size,a.bytes))=Y (Y (.int .i32 0),1,4):=by kernel_rfl
theorem aUt(a:Nat)(b:a<128):zn (a:Int)=⟨#[UInt8.ofNat a]⟩:=by
 have c:z2 (a:Int)=true:=by rw[validRune_eq];unfold validRune;simp;omega
 unfold zn;simp[c,b]
theorem aCy(a:List Int)(b:Int):runesBytes (a++[b])=runesBytes a++zn b:=by unfold runesBytes;rw[List.foldl_append];rfl
theorem aUu(b:ByteArray)(p a:Nat)(f:p<=a)(e:a<b.size):b.extract p (a+1)=b.extract p a++⟨#[UInt8.ofNat (aG b a)]⟩:=by
 have c:b.extract a (a+1)=⟨#[UInt8.ofNat (aG b a)]⟩:=by
  rw[gH b a e];apply ByteArray.ext;rw[ByteArray.data_extract];apply Array.ext
  .simp;have:a<b.data.size:=e;omega
  intro g c d;simp at d;subst d;simp;rfl
 rw[<-c];apply ByteArray.ext;simp only[ByteArray.data_append,ByteArray.data_extract];grind
def qM(c:ByteArray)(p b:Nat):List Int:=(List.range b).map λa=>(aG c (p+a):Int)
theorem aLa(b:ByteArray)(p a:Nat):qM b p (a+1)=qM b p a++[(aG b (p+a):Int)]:=by simp[qM,List.range_succ]
theorem aUv(b:ByteArray)(p:Nat):∀a,p+a<=b.size->(∀c,c<a->aG b (p+c)<128)->runesBytes (qM b p a)=b.extract p (p+a):=by
 intro a;induction a with
 |zero=>
  intro _ _;have:b.extract p (p+0)=ByteArray.empty:=by simp_all
  rw[this];rfl
 |succ a ih=>
  grind[aUt,aUu,aCy,aLa]
theorem aG4(a:Nat)(b:iE (a:Int)=zm):a<128:=by simp only[iE,fC,eZ,rD,Bool.or_eq_true,Bool.and_eq_true,decide_eq_true_eq,beq_iff_eq]at b;omega
theorem aUw(a:ByteArray)(p:Nat):iE (bG a p)=(decide (p<a.size) && iE (aG a p)):=by
 by_cases b:p<a.size
 .by_cases c:aG a p<128
  .rw[(oO a p b c).1];simp[b]
  have d:iE (aG a p:Int)=false:=by
   cases hi:iE (aG a p:Int)
   .rfl
   exact absurd (aG4 _ hi) c
  rw[d];rcases aAy a p b (by omega)with e|e
  .rw[e];simp;decide
  have:iE (bG a p)=false:=by
   simp only[iE,fC,eZ,rD,Bool.or_eq_false_iff,Bool.and_eq_false_iff,decide_eq_false_iff_not,beq_eq_false_iff_ne];omega
  rw[this];simp
 rw[qL a p b];simp[b];decide
section
variable {B:Nat}{pb:Nat}{s:ByteArray}{p g j m c:Nat}{k a:Int}{wd:ByteArray}{vC vP vM:zv}
theorem cG.letters(e:cG B w pb s p g j m c k a wd vC vP vM):∀b,p+b<=s.size->(∀d,d<b->aG s (p+d)<128)->(dL s 0).drop (j+b)=dL s (p+b)/\b<=m:=by
 intro b;induction b with
 |zero=>intro _ _;exact⟨e.drop,za _⟩
 |succ b ih=>
  intro r f;obtain⟨q,v⟩:=ih (by omega) (λd u=>f d (by omega));have l:=(oO s (p+b) (by omega) (f b (by omega))).2;unfold kA at l;have i:(dL s 0).drop (j+(b+1))=dL s (p+(b+1)):=by
   have o:(dL s 0).drop (j+(b+1))=((dL s 0).drop (j+b)).drop 1:=by rw[List.drop_drop];rfl
   rw[o,q,wK (by omega),l];rfl
  refine⟨i,?_⟩;have:=congrArg Z i;rw[z0,e.len]at this;have t:=(aCz s _ (p+(b+1)) (zq _)).1;omega
theorem cG.cells(d:cG B w pb s p g j m c k a wd vC vP vM)(q b:Nat)(i:(dL s 0).drop (j+q)=dL s b)(r:b<=s.size)(x:q<=m):zx w (aQ g (j*2+q*2))=Y (.int .i32 (bG s b))/\zx w (aQ g (j*2+q*2+1))=Y (iQ b):=by
 obtain⟨y,t⟩:=aG1 s b r;have v:=d.len;have o:j+q<Z (dL s 0):=by omega
 have l:(dL s 0)[j+q]=(bG s b,b):=by
  have u:((dL s 0).drop (j+q))[0]?=Y (bG s b,b):=by rw[i,t];rfl
  grind
 obtain⟨e,f⟩:=aGb (dL s 0) (j+q) o;rw[l]at e f;rw[show (j+q)*2=j*2+q*2 by omega]at e f;exact⟨by rw[d.row.cellAt _ (by omega),e],by rw[d.row.cellAt _ (by omega),f]⟩
theorem cG.jump(b i f e:Nat)(d:cG B w pb s p g j (f+b) (e+b) k a wd vC vP vM)(l:(dL s 0).drop (j+b)=dL s i)(o:i<=s.size):cG B (zs w (aQ pb 0) (.slice (Y (aQ g (j*2+b*2))) (f+1) (e+1))) pb s i g (j+b) f e k a wd vC vP vM:=by rw[show j*2+b*2=(j+b)*2 by omega];refine⟨d.box.set0 _,d.high,?_,by have:=d.len;omega,l,o⟩;have:=d.box.row d.row (by decide) 0 (.slice (Y ⟨g,(j+b)*2,zo⟩) (f+1) (e+1));grind
theorem cG.mc(b:cG B w pb s p g j m c k a wd vC vP vM):m<=c:=by obtain⟨_,d⟩:=b.row;grind
end
theorem aLb{b:ByteArray}{a:Nat}(f:bV b a≠0)(g:p+bV b a<=n.size)(d:∀c,c<bV b a->aG n (p+c)=aG b (a+c)):bV n p=bV b a:=by have e:=d 0 (by omega);grind[aG,xE,uL,eP,sB,bV]
inductive mS(n:ByteArray):Nat->Nat->Nat->Prop
 |done (p:Nat):mS n p p 0
 |step {p e k:Nat}:p<n.size->bV n p≠0->aG n p≠10->mS n (p+bV n p) e k->mS n p e (k+1)
theorem mS.name{n:ByteArray}{p c k:Nat}(d:mS n p c k)(i:c=n.size):∀b a,n.size-p<=b->iY n b p a=(decide (1<=a+k) && decide (a+k<=20)):=by
 induction d with
 |done p=>intro b a _;rw[aCj n b p a (by omega)];rfl
 |@step p c k h1 h2 h3 _ ih=>
  intro b a e;obtain⟨g,j,f⟩:=aJm n b p a h1 e (λd=>d.elim h2 h3);grind
theorem aG5(a b:ByteArray)(c:Nat):aG (a++b) c=if c<a.size then aG a c else aG b (c-a.size):=by
 rw[oE,oE,oE];have:(a++b).data.toList=a.data.toList++b.data.toList:=by rw[ByteArray.data_append,Array.toList_append]
 grind[pP,List.getElem?_append_left,List.getElem?_append_right]
theorem mS.grow{c:ByteArray}{a:Nat}(d:mS n p a k)(e:a<=n.size):mS (n++c) p a k:=by
 induction d with
 |done p=>exact .done p
 |@step p a k h1 h2 h3 _ ih=>
  have g:=aAo n p h1;have b:bV (n++c) p=bV n p:=aLb h2 (by rw[ByteArray.size_append];omega) (λi f=>by rw[aG5,aT (by omega)]);refine .step (by rw[ByteArray.size_append];omega) (by rw[b];exact h2) (by rw[aG5,aT h1];exact h3) ?_;rw[b];exact ih e
theorem mS.snoc{a:Nat}(e:mS n p a k)(d:a<n.size)(c:bV n a≠0)(b:aG n a≠10):mS n p (a+bV n a) (k+1):=by
 induction e with
 |done p=>exact .step d c b (.done _)
 |step h1 h2 h3 _ ih=>exact .step h1 h2 h3 (ih d c b)
theorem mS.char{b:ByteArray}{a:Nat}(j:mS n 0 n.size k)(f:a<b.size)(e:bV b a≠0)(m:aG b a≠10):mS (n++b.extract a (a+bV b a)) 0 (n++b.extract a (a+bV b a)).size (k+1):=by
 have q:=aAo b a f;have g:(b.extract a (a+bV b a)).size=bV b a:=by rw[ByteArray.size_extract];omega
 have d:∀c,c<bV b a->aG (n++b.extract a (a+bV b a)) (n.size+c)=aG b (a+c):=by intro c o;rw[aG5,aS (by omega),show n.size+c-n.size=c by omega,gH _ c (by omega),gH b (a+c) (by omega)];rw[ByteArray.getElem_extract]
 have i:bV (n++b.extract a (a+bV b a)) n.size=bV b a:=aLb e (by rw[ByteArray.size_append,g];omega) d;have l:=d 0 (by omega);grind[mS.grow,mS.snoc,bV]
theorem aUx(n:Nat)(e:z2 (n:Int)=zm):(zn (n:Int)).data.toList=Lib.encodeRune (n:Int):=by
 have a:=e;rw[validRune_eq]at a;unfold validRune at a;rw[decide_eq_true_eq]at a;unfold Lib.encodeRune zn;simp only[e,if_true,Int.toNat_natCast];by_cases b:n<128
 .rw[aT b,Lib.encodeRuneZ_one (by omega) (by omega)];rfl
 rw[aS b];by_cases c:n<2048
 .rw[aT c,Lib.encodeRuneZ_two (by omega) (by omega)];grind
 rw[aS c];by_cases d:n<65536
 .rw[aT d,Lib.encodeRuneZ_three (by omega)];grind
 rw[aS d,Lib.encodeRuneZ_four (by omega) (by omega)];grind
theorem aG6(b:ByteArray)(a:Nat)(c:a<b.size)(m:bG b a≠-2):zn (bG b a)=b.extract a (a+kA b a)/\bV b a=kA b a:=by
 have d:¬((zr b a).1=65533/\(zr b a).2=1):=by grind[bG,oA]
 have g:bG b a=((zr b a).1:Int):=by unfold bG oA;rw[aT c,aS d]
 have i:b.data.toList.drop a≠[]:=by simp_all
 have f:=Lib.encode_decode (b.data.toList.drop a) i (by rw[Lib.decodeL_drop];exact d);rw[Lib.decodeL_drop]at f;have o:=aB0 b a c;refine⟨?_,by rw[aEi b a c];unfold vJ;rw[aS d];rfl⟩;rw[g];apply ByteArray.ext;apply Array.toList_inj.1;have j:=aG0 b a;have l:z2 ((zr b a).1:Int)=true:=by rcases j with e|e|e;all_goals grind
 have:(zn ((zr b a).1:Int)).data.toList=Lib.encodeRune ((zr b a).1:Int):=aUx _ l;rw[this,f,ByteArray.data_extract,Array.toList_extract];simp[kA]
structure uO(rs:List Int):Prop where
 cs:mS (runesBytes rs) 0 (runesBytes rs).size (Z rs)
theorem uO.nil:uO []:=⟨.done _⟩
theorem uO.name{a:List Int}(b:uO a):fS (runesBytes a)=(decide (1<=Z a) && decide (Z a<=20)):=by unfold fS;rw[b.cs.name rfl _ 0 (by omega)];simp
theorem uO.more{rs:List Int}{b:ByteArray}{a:Nat}(g:uO rs)(c:a<b.size)(j:bG b a≠-2)(i:bG b a≠10):uO (rs++[bG b a]):=by obtain⟨e,f⟩:=aG6 b a c j;have l:=aAz b a;refine⟨?_⟩;rw[aCy,e,<-f,zi,List.length_singleton];exact g.cs.char c (by omega) (λd=>i ((hH b a c 10 (by omega)).2 d))
section
variable {s:ByteArray}{rs:List Int}{f q:Nat}
theorem aUy(d:s.size<=q+f)(b:bG s q=39):q<s.size/\gJ s f (runesBytes rs) q=if fS (runesBytes rs) then Y (runesBytes rs,q+1) else none:=by
 have e:q<s.size:=Classical.byContradiction λc=>by rw[qL s q c]at b;omega
 obtain⟨a,rfl⟩:∃a,f=a+1:=⟨f-1,by omega⟩;grind[hH,gJ]
theorem aUz(g:s.size<=q+f)(d:bG s q≠39)(e:bG s q≠92)(h:bG s q=10\/bG s q=-2\/bG s q=-1):gJ s f (runesBytes rs) q=none:=by
 by_cases a:q<s.size
 .obtain⟨c,rfl⟩:∃c,f=c+1:=⟨f-1,by omega⟩;rw[gJ,aT a,aS (λb=>d ((hH s q a 39 (by omega)).2 b)),aS (λb=>e ((hH s q a 92 (by omega)).2 b)),aT];rcases h with h|h|h
  .exact Or.inr ((hH s q a 10 (by omega)).1 h)
  .left;unfold bG oA at h;rw[aT a]at h;rw[aEi s q a];unfold vJ;split at h
   .rename_i b;rw[aT b]
   omega
  exact absurd h (aFz s q a)
 cases f with
 |zero=>rfl
 |succ f=>rw[gJ,aS a]
theorem aV0(e:q<s.size)(c:bG s q≠39)(d:bG s q≠92)(a:bG s q≠10)(b:bG s q≠-2):gJ s (f+1) (runesBytes rs) q=gJ s f (runesBytes (rs++[bG s q])) (q+kA s q):=by grind[aG6,hH,aAz,gJ,aCy]
theorem aV1(c:q<s.size)(e:bG s q=92):gJ s (f+1) (runesBytes rs) q=if uN (bG s (q+1))=zm then gJ s f (runesBytes (rs++[bG s (q+1)])) (q+2) else none:=by
 have b:=(hH s q c 92 (by omega)).1 e;rw[gJ,aT c,aS (by rw[b];decide),aT b];by_cases a:q+1<s.size
 .have g:=hH s (q+1) a 39 (by omega);have i:=hH s (q+1) a 92 (by omega);grind[aG,aG6,uN,bG,oO,aCy]
 rw[aS (λd=>a d.1),qL s (q+1) a];rfl
end
def jS(U:List Us):List zv:=U.flatMap λa=>[.string a.1,.bool a.2.1,iQ a.2.2]
theorem aV2(U:List Us)(a:Us):jS (U++[a])=jS U++[.string a.1,.bool a.2.1,iQ a.2.2]:=by simp[jS]
theorem aG7(U:List Us):∀k (a:k<Z U),(jS U)[k*3]?=Y (.string U[k].1)/\(jS U)[k*3+1]?=Y (.bool U[k].2.1)/\(jS U)[k*3+2]?=Y (iQ U[k].2.2):=by
 induction U with
 |nil=>intro k a;simp at a
 |cons x r ih=>
  grind[jS,List.getElem?_cons_succ]
structure aLc(w:zw)(a:Option Addr)(U:List Us):Prop where
 few:Z U<=1000000
 short:∀k (h:k<Z U),U[k].1.size<=140737488355328
 cell:∀k (h:k<Z U),∃b,a=Y (aQ b 0)/\zx w (aQ b (k*3))=Y (.string U[k].1)/\zx w (aQ b (k*3+1))=Y (.bool U[k].2.1)/\zx w (aQ b (k*3+2))=Y (iQ U[k].2.2)
theorem aV3{e:Nat}{l:zv}(g:zt w e 106 3 l (Z U) (jS U))(i:Z U<=1000000)(j:∀k (g:k<Z U),U[k].1.size<=140737488355328):∃f a,l=.slice f (Z U) a/\aLc w f U:=by
 obtain⟨o,⟨rfl,q⟩|⟨c,a,m,rfl,r,t,s,u,x,v⟩⟩:=g
 .exact⟨zo,0,by rw[q],i,j,λk b=>by omega⟩
 have d:zt w e 106 3 (sQ c (Z U) a) (Z U) (jS U):=⟨o,Or.inr ⟨c,a,m,rfl,r,t,s,u,x,v⟩⟩;refine⟨_,_,rfl,i,j,λk b=>⟨c,rfl,?_,?_,?_⟩⟩
 .rw[d.cellAt (k*3) (by omega),(aG7 U k b).1]
 .rw[d.cellAt (k*3+1) (by omega),(aG7 U k b).2.1]
 rw[d.cellAt (k*3+2) (by omega),(aG7 U k b).2.2]
theorem aLd:(Tryz.prog.info? 106).map (λa=>(a.zero,a.size,a.bytes))=Y (Y (.agg #[.string ⟨#[]⟩,.bool zf,iQ 0]),3,32):=by kernel_rfl
theorem aV4{b a:zw}{d e:zv}{x:Us}(i:zt b w.heap.size 106 3 d (Z U) (jS U))(c:aB w b)
  (j:zt a w.heap.size 106 3 e (Z U+1) (jS U++[.string x.1,.bool x.2.1,iQ x.2.2])) (g:zj b a (Value.ownBlock d)):zt a w.heap.size 106 3 e (Z (U++[x])) (jS (U++[x]))/\aB w a:=by
 refine⟨?_,c.grown g c.size λk f=>(bS i k f).1⟩;rw[aV2,zi];exact j
theorem aV5(I:Option Addr)(a6:Nat)(a:List Lt)(w:zw)(x:bU w I a)(c3:aY a<=100000):Calls zu 51 #[.slice I (Z a) a6] w λv X=>∃W,v=.returned W/\zt X w.heap.size 106 3 W (Z (tV a)) (jS (tV a))/\aB w X:=by
 have c4:=x.few;have a3:=O x;clear x;go_enter Tryz.func51,Tryz.ntmps51;go_wp2;go_loopw[3,10] (λE C wr=>∃k:Nat,k<=Z a/\C=iQ k/\zt wr w.heap.size 106 3 E (Z (pI a k)) (jS (pI a k))/\aB w wr) (λ_ C _=>Z a-(intOf C).toNat);exact⟨0,za _,rfl,World.ownsRow_nil _ _ _ _,dP⟩;obtain⟨k,c5,rfl,A,i⟩:=hrel;by_cases y:k<Z a
 .obtain⟨c1,d2,b9,c0,rfl,J,M,s⟩:=a3.o.cell k y;have a7:=aC i J;have a8:=aC i M;have c:=aHk a k y;have c9:=bBr a k;have Q:=yX a (k+1);rw[List.take_succ_eq_append_getElem y,tK]at Q;generalize a[k]=z at *;obtain⟨d5,b⟩:=z;simp only at a7 a8 s c Q;generalize pI a k=U0 at *;have G:=O c;have a2:=O s;have d0:=s.few;have b0:=i.size;clear J M s c;go_wp2;go_loopw[3,17] (λE D a0=>∃n:Nat,n<=Z b/\D=iQ n/\zt a0 w.heap.size 106 3 E (Z (U0++mI b n)) (jS (U0++mI b n))/\aB w a0) (λ_ D _=>Z b-(intOf D).toNat);exact⟨0,za _,rfl,by simpa[mI]using A.alloc _,i.alloc b0 _⟩;obtain⟨n,c7,rfl,j,e⟩:=hrel;by_cases S:n<Z b
  .obtain⟨c2,d1,rfl,L,N⟩:=a2.o.cell n S;have b3:=aC e L;have b4:=aC e N;have f:=aOv b n S;have c8:=aOw b n;generalize b[n]=nd at *;obtain⟨g,l⟩:=nd;simp only at b3 b4;have o:=O (λb8=>sJ g l b8);have P:=e.size;have r:=O e;clear L N e;cases hv:g.toList.isEmpty
   .have c:qW n (g,l)=[(g,((n:Int)==0),l)]:=by simp[qW,aK,hv,bBs]
    rw[c]at f;rw[hv]at o;have u:=O f;have c6:Z (U0++mI b n)<=200000:=by rw[zi];omega
    have a5:aE (U0++mI b (n+1)=(U0++mI b n)++[(g,((n:Int)==0),l)]):=O (by rw[f,List.append_assoc]);clear f u;generalize U0++mI b n=V at *;clear c hv;go_wp2_with(first
     |(go_at_call 89;refine(aD o _).mono ?_;rintro v b7 ⟨rfl,d⟩;obtain⟨b5,b6,m⟩:=lN d;have B:=bF (j.alloc _) d (zq _);have q:=O (r.o.trans (m.mono P));have a9:=q.o.size;clear d m)
     |(at_builtin;refine eU aLd Tryz.underlying76 (B.alloc _) ?_)
     |go_in)
    intro d3 d4 T R _;have H:=aV4 (x:=(g,((n:Int)==0),l)) (B.alloc _) (q.o.alloc a9 _) T R;have F:=O H;clear T R B H;go_wp2;exact⟨⟨n+1,by omega,by go_num,by rw[a5.o];exact F.o.1,F.o.2⟩,by simp[intOf];omega⟩
   have c:qW n (g,l)=[]:=by simp[qW,aK,hv]
   rw[c,List.append_nil]at f;rw[hv]at o;have u:=O f;have t:=O j;clear f c hv j;go_wp2_with(first
    |(go_at_call 89;refine(aD o _).mono ?_;rintro v b7 ⟨rfl,d⟩;obtain⟨b5,b6,m⟩:=lN d;have a4:=O (bF (t.o.alloc _) d (zq _));have q:=O (r.o.trans (m.mono P));clear d m)
    |go_in)
   exact⟨⟨n+1,by omega,by go_num,by rw[u.o];exact a4.o,q.o⟩,by simp[intOf];omega⟩
  have b2:n=Z b:=by omega
  subst b2;rw[<-G.o]at j;have t:=O j;have r:=O e;clear j e G;go_wp2;exact⟨⟨k+1,by omega,by go_num,t.o,r.o⟩,by simp[intOf];omega⟩
 have b1:k=Z a:=by omega
 subst b1;have a1:=O (And.intro A i);clear A i;go_wp2;go_ret;exact⟨_,rfl,a1.o⟩
def zH(a:zv):Option (DataW Unit×List MemPlace):=
 match a with
 | .agg cs=>match cs.toList with
  |[.string s,.bool b,.int .i64 n]=>some (.agg [.lit (.string s.data.toList),.lit (.bool b),.lit (.int .i64 n)],[])
  |_=>none
 |_=>none
def tO(a:Us):DataW Unit:=.agg [.lit (.string a.1.data.toList),.lit (.bool a.2.1),.lit (.int .i64 a.2.2)]
theorem bJd(a:Us):zH (.agg #[.string a.1,.bool a.2.1,iQ a.2.2])=Y (tO a,[]):=rfl
theorem aLe{d:zv}{c:Us}{i:List MemPlace}(a:zH d=Y (tO c,i)):d=.agg #[.string c.1,.bool c.2.1,.int .i64 c.2.2]:=by
 unfold zH at a;split at a
 .next cs=>
  split at a
  .next s b n hcs=>
   have g:cs=#[.string s,.bool b,.int .i64 n]:=by have:=congrArg List.toArray hcs;simpa using this
   subst g;simp only[tO,Option.some.injEq,Prod.mk.injEq,DataW.agg.injEq,List.cons.injEq,DataW.lit.injEq,Lit.string.injEq,Lit.bool.injEq,Lit.int.injEq,and_true,true_and]at a;obtain⟨⟨j,e,f⟩,_⟩:=a;have:s=c.1:=by obtain⟨⟨l⟩⟩:=s;simp_all
   rw[this,e,f]
  simp at a
 simp at a
structure aB1(D:DataW Unit)(U:List Us)(k:Nat):Prop where
 isMap:Maps.IsMap D
 old:∀j (h:j<Z U),j<k->Maps.has D (.string U[j].1.data.toList)=zm/\∀z,D.atKey (.string U[j].1.data.toList) z=tO U[j]
 new:∀s:ByteArray,(∀j (h:j<Z U),j<k->U[j].1≠s)->Maps.has D (.string s.data.toList)=zf
theorem aLf{a b:ByteArray}(c:a.data.toList=b.data.toList):a=b:=by obtain⟨⟨d⟩⟩:=a;obtain⟨⟨e⟩⟩:=b;simp at c;rw[c]
theorem aV6(U:List Us):aB1 (.map []) U 0:=⟨Maps.isMap_empty,λb _ a=>by omega,λc _=>rfl⟩
theorem aV7{f:DataW Unit}(b:aB1 f U k)(s:k<Z U)(u:∀a (c:a<Z U),a<k->U[a].1=U[k].1->U[a]=U[k]):aB1 (f.put (.string U[k].1.data.toList) (tO U[k])) U (k+1):=by
 have g:WideAt.IsKeyLit (.string U[k].1.data.toList):=trivial;refine⟨b.isMap.put _ _,λa c q=>?_,λl j=>?_⟩
 .by_cases o:U[a].1=U[k].1
  .have t:U[a]=U[k]:=by
    grind
   rw[t];exact⟨Maps.has_put_same b.isMap g _,λm=>Maps.atKey_put_same b.isMap g _ _⟩
  have d:(Lit.string U[a].1.data.toList)≠.string U[k].1.data.toList:=λe=>o (aLf (by simpa using e))
  have r:a<k:=by grind
  have i:=b.old a c r;exact⟨by rw[Maps.has_put_other d];exact i.1,λm=>by rw[Maps.atKey_put_other d];exact i.2 m⟩
 have d:(Lit.string l.data.toList)≠.string U[k].1.data.toList:=λe=>j k s (by omega) (aLf (by simpa using e)).symm
 rw[Maps.has_put_other d];exact b.new l λa c q=>j a c (by omega)
def wI(U:List Us)(k:Nat):Prop:=∀a (c:a<Z U),a<k->U[a].2.2<=5/\∀b (d:b<a),(U[b]'(by omega)).1=U[a].1->(U[b]'(by omega)).2=U[a].2
theorem aV8(b:wI U (Z U)):aOx U:=λc a=>b c a a
theorem aV9:Tryz.prog.stoodInHeld 106=false:=by kernel_rfl
theorem aVa:Tryz.prog.eqGuardType Tryz.prog.depth 106=false:=by kernel_rfl
theorem aVb:Tryz.prog.underlying 106=Y (.struct (Tryz.prog.fieldsOf 106)):=by kernel_rfl
def zI(a b:Us):Bool:=decide (a=b)
theorem aVc(a b:Us)(w:zw):(Op.equalIn 10000 106 (.agg #[.string a.1,.bool a.2.1,iQ a.2.2]) (.agg #[.string b.1,.bool b.2.1,iQ b.2.2])).run zu w=.ok (zI a b) w:=by rw[show (10000:Nat)=9999+1 from rfl,run_equalIn_agg w 9999 106 _ _ aVb aV9];simp only[Program.fieldsOf,Tryz.underlying106];go_simp;obtain⟨j,c,n⟩:=a;obtain⟨l,d,i⟩:=b;simp only[zI,xT];by_cases e:j=l<;>by_cases f:c=d<;>by_cases g:n=i<;>simp[e,f,g]
def wJ(U:List Us)(a:Int):Prop:=(a=-1/\aOx U)\/∃k:Nat,k<Z U/\a=k/\wI U k/\¬wI U (k+1)
theorem wJ.of(a:wI U k)(b:k<Z U)(c:¬wI U (k+1)):wJ U k:=Or.inr ⟨k,b,rfl,a,c⟩
theorem aVd(a9:Option Addr)(b7:Nat)(U:List Us)(w:zw)(a1:aLc w a9 U):Calls zu 28 #[.slice a9 (Z U) b7] w λb8 c7=>∃b6:Int,b8=.returned (.int .i64 b6)/\wJ U b6/\aB w c7:=by
 have d3:=a1.few;have a8:=O a1;have d5:=@run_makeMap zu;have d2:=aVa;clear a1;go_enter Tryz.func28,Tryz.ntmps28;go_wp2;go_loopw[11] (λb wr=>∃(k:Nat) (m:DataW Unit),k<=Z U/\b=.int .i64 k/\wr.ownsMap zu 9 zH w.heap.size k m/\aB1 m U k/\wI U k/\aB w wr) (λb _=>Z U-(intOf b).toNat);exact⟨0,.map [],za _,rfl,World.ownsMap_made _ _ _ _,aV6 U,λb _ Q=>by omega,aI _ _⟩;obtain⟨k,m,d4,rfl,t,a2,a3,q⟩:=hrel;have P:=q.size;have F:=O a2;have A:=O a3;have D:=O q;by_cases s:k<Z U
 .obtain⟨d1,rfl,b0,b1,b2⟩:=a8.o.cell k s;have S:=aC q b0;have T:=aC q b1;have W:=aC q b2;have a4:=a8.o.short k s;have E:aE (5<U[k].2.2->wJ U k):=λi=>wJ.of A.o s λf=>by have:=(f k s (by omega)).1;omega
  have G:aE (∀a (c:a<Z U),a<k->U[a].1=U[k].1->U[a]≠U[k]->wJ U k):=λa c e d c5=>wJ.of A.o s λf=>by
   have b9:=(f k s (by omega)).2 a e d;exact c5 (Prod.ext d b9)
  have C:aE (U[k].2.2<=5->(∀a (c:a<Z U),a<k->U[a].1=U[k].1->U[a]=U[k])->wI U (k+1)/\aB1 (m.put (.string U[k].1.data.toList) (tO U[k])) U (k+1)):=λi b5=>by
   refine⟨λb Q b4=>?_,aV7 F.o s b5⟩;by_cases c2:b=k
   .subst c2;exact⟨i,λa c d=>by rw[b5 a (by omega) c d]⟩
   exact A.o b Q (by omega)
  have r:keyOf zu 9 (.string U[k].1)=Y (.string U[k].1.data.toList):=keyOf_string_mk zk (by unfold maxLen;omega);clear b0 b1 b2 q a2 a3;by_cases i:5<U[k].2.2
  .have H:=O (E.o i);clear E G C r t;generalize U[k]=u at *;obtain⟨g,z,x⟩:=u;simp only at S T W i;go_wp2;go_ret;exact⟨_,rfl,H.o,D.o.alloc P _⟩
  have I:U[k].2.2<=5:=by omega
  have c0:=(t.alloc (.cells #[.string U[k].1,.bool U[k].2.1,.int .i64 U[k].2.2] 106)).look_ok (Maps.string_keyed zk) zh (Tryz.zeroValue106 _) (zd:=tO (⟨#[]⟩,zf,0)) (zp:=[]) rfl r;obtain⟨e0,d7,j,v⟩:=c0;cases hhas:Maps.has m (.string U[k].1.data.toList)
  .rw[aDm F.o.isMap hhas]at v;have a5:=aLe v;subst a5;rw[hhas]at j;have o:=O (C.o I (λa c e d=>by
    have:=(F.o.old a c e).1;rw[d,hhas]at this;simp at this))
   have B:=O r;clear E G C v hhas r;generalize f:U[k]=u at *;obtain⟨g,z,x⟩:=u;simp only at S T W i I a4 j o B;clear f;go_wp2_with(first
    |(at_mapUpdate;refine wpList_mapUpdate_own _ rfl _ _ _ 104 rfl 9 106 (Maps.string_keyed zk) zh zH w.heap.size k m rfl ((t.alloc _).alloc _) (by unfold maxLen;omega) _ _ (.string g.data.toList) rfl rfl (aD B) (tO (g,z,x)) [] rfl ?_)
    |go_in)
   intro c8 M J;have a0:=O M;have X:=O (((D.o.alloc P (.cells #[.string g,.bool z,.int .i64 x] 106)).alloc (by simp;omega) _).grown J (by simp;omega) (λd0 a6=>by simp at a6;omega));clear M J t j;go_wp2;exact⟨⟨k+1,_,by omega,by go_num,a0.o,o.o.2,o.o.1,X.o⟩,by simp[intOf];omega⟩
  obtain⟨a,c,e,L⟩:∃a,∃c:a<Z U,a<k/\U[a].1=U[k].1:=Classical.byContradiction λc6=>by
   have:=F.o.new U[k].1 (λa c e d=>c6 ⟨a,c,e,d⟩);rw[hhas]at this;simp at this
  have N:=(F.o.old a c e).2 (tO (⟨#[]⟩,zf,0));rw[L]at N;rw[N]at v;have a5:=aLe v;subst a5;rw[hhas]at j;have a7:=λc9=>aVc U[a] U[k] c9
  have B:=O r;by_cases l:U[a]=U[k]
  .have b3:zI U[a] U[k]=true:=by simp[zI,l]
   have o:=O (C.o I (λb Q b4 d=>by
    by_cases c1:b=a
    .subst c1;exact l
    have R:U[b].1=U[a].1:=d.trans L.symm;have:U[b]=U[a]:=by
     rcases Nat.lt_or_ge b a with c4|hge
     .exact Prod.ext R ((A.o a c e).2 b c4 R)
     exact(Prod.ext R.symm ((A.o b Q b4).2 a (by omega) R.symm)).symm
    rw[this,l]))
   rw[l]at j a7 b3;clear E G C v hhas r N l L;generalize f:U[k]=u at *;obtain⟨g,z,x⟩:=u;simp only at S T W i I a4 j o B a7;clear f;go_wp2_with(first
    |(at_mapUpdate;refine wpList_mapUpdate_own _ rfl _ _ _ 104 rfl 9 106 (Maps.string_keyed zk) zh zH w.heap.size k m rfl ((t.alloc _).alloc _) (by unfold maxLen;omega) _ _ (.string g.data.toList) rfl rfl (aD B) (tO (g,z,x)) [] rfl ?_)
    |go_in)
   intro c8 M J;have a0:=O M;have X:=O (((D.o.alloc P (.cells #[.string g,.bool z,.int .i64 x] 106)).alloc (by simp;omega) _).grown J (by simp;omega) (λd0 a6=>by simp at a6;omega));clear M J t j;go_wp2;exact⟨⟨k+1,_,by omega,by go_num,a0.o,o.o.2,o.o.1,X.o⟩,by simp[intOf];omega⟩
  have b3:zI U[a] U[k]=false:=by simp[zI,l]
  have H:=O (G.o a c e L l);clear E G C v hhas r N L l B;generalize U[a]=y at *;generalize f:U[k]=u at *;obtain⟨g,z,x⟩:=u;obtain⟨d8,d9,d6⟩:=y;simp only at S T W i I a4 j a7;clear f;go_wp2;go_ret;exact⟨_,rfl,H.o,(D.o.alloc P _).alloc (by simp;omega) _⟩
 have c3:k=Z U:=by omega
 subst c3;have H:=O (aV8 A.o);clear a2 a3 t q;go_wp2;go_ret;exact⟨_,rfl,Or.inl ⟨rfl,H.o⟩,D.o⟩
def kN(a:zv):Array zv:=#[a]++z1 61 (nQ)
def zJ:Array zv:=z1 62 (nQ)
theorem aG8(a:zv):(kN a).size=62:=by simp[kN]
theorem aLg(a:zv):(kN a)[0]?=Y a:=by simp[kN]
theorem aG9(b:zv)(a:Nat)(c:a<61):(kN b)[1+a]?=Y (nQ):=by grind[kN,Array.getElem?_append_right]
theorem aVe(a:Option Addr)(n b:Nat):Tryz.prog.built 206 [(0,.slice a n b)]=Y (kN (.slice a n b)):=by kernel_rfl
theorem aLh:(Tryz.prog.info? 206).map (λa=>(a.zero,a.size))=Y (Y (.agg zJ),62):=by kernel_rfl
theorem aVf(w:zw)(c a:Array zv)(b:TypeId):(w.alloc (.cells c b)).setRow w.heap.size a=w.alloc (.cells a b):=by
 unfold World.setRow World.alloc;congr 1
 grind
theorem aVg(w:zw):(Instr.alloc 206 zm (.tuple #[])).run zu w=.ok (pQ w.heap.size) (w.alloc (.cells zJ 206)):=by
 have a:=aLh;cases hi:Tryz.prog.info? 206 with
 |none=>rw[hi]at a;simp at a
 |some i=>
  rw[hi]at a;simp at a;have b:(Value.agg zJ).cells=zJ:=rfl;simp[Instr.alloc,zeroValue,typeInfo,hi,a.1,newVar,newRow,b]
theorem aVh{t:Array Oper}{u:List Oper}{c i j m:Oper}{d:Act}{q:Exit->Act->zw->Prop}(y:c.guard=zo)(z:i.guard=zo)(A:j.guard=zo)(B:m.guard=zo)(v o l r:Operand)
  (C:c.op=.move v) (D:i.op=.build 206 #[(0,o)]) (E:j.op=.alloc 206) (F:m.op=.store 206 l r) (b:Option Addr) (n a:Nat) (J:d.eval v=.slice b n a) (I:(d.put c.dst (.slice b n a)).eval o=.slice b n a)
  (L:(((d.put c.dst (.slice b n a)).put i.dst (.agg (kN (.slice b n a)))).put j.dst (pQ w.heap.size)).eval l=pQ w.heap.size)
  (M:(((d.put c.dst (.slice b n a)).put i.dst (.agg (kN (.slice b n a)))).put j.dst (pQ w.heap.size)).eval r=.agg (kN (.slice b n a)))
  (e:wpList zu t q u ((((d.put c.dst (.slice b n a)).put i.dst (.agg (kN (.slice b n a)))).put j.dst (pQ w.heap.size)).put m.dst undef) (w.alloc (.cells (kN (.slice b n a)) 206))):wpList zu t q (c::i::j::m::u) d w:=by
 refine wpList_plain y λK hK=>?_
 have x:c.wp zu d w K q:=by
  unfold Oper.wp execOp;simp only[C,J,Sem.run_pure];refine hK _ _ ?_;have s:Tryz.prog.built 206 ((#[(0,o)]:Array (Nat×Operand)).map λ(f,l)=>(f,(d.put c.dst (.slice b n a)).eval l)).toList=Y (kN (.slice b n a)):=by simp only[List.map_toArray,List.map_cons,List.map_nil,I];exact aVe b n a
  refine wpList_build z 206 #[(0,o)] D (by rw[s];rfl) ?_;rw[s];simp only[Option.getD_some];refine wpList_plain A λP G=>?_
  unfold Oper.wp execOp;simp only[E,Sem.run_bind,aVg,Sem.run_pure,Result.andThen_ok];refine G _ _ ?_;refine wpList_store_row B 206 l r F w.heap.size (kN (.slice b n a)) L M 206 zJ (heap_alloc_new w _) ?_ ?_ ?_ ?_
  .have e:=aLh;cases g:Tryz.prog.info? 206 with
   |none=>rw[g]at e;simp at e
   |some f=>rw[g]at e;simp at e;simp[e.2,aG8]
  .simp[aG8,zJ]
  .have H:(kN (.slice b n a)).all (λN=>N.oneCell')=true:=by
    rw[Array.all_eq_true];intro f g;rcases Nat.eq_zero_or_pos f with rfl|hp
    .have:=aLg (.slice b n a);rw[zg g]at this;simp at this;rw[this];rfl
    have:=aG9 (.slice b n a) (f-1) (by rw[aG8]at g;omega);rw[show 1+(f-1)=f by omega,zg g]at this;simp at this;rw[this];rfl
   exact H
  rw[aVf];exact e
 exact x
