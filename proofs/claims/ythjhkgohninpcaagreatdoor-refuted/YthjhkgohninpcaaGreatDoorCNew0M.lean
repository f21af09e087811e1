import Derived.Laws.Tables
import Derived.Test.YthjhkgohninpcaaGreatDoorXSr0M
open Array renaming getElem?_eq_some_iff→zy,getElem?_eq_getElem→zw,replicate→zt
open Nat renaming le_refl→zx
namespace Go.Proofs.YthjhkgohninpcaaGreatDoor
open _root_.Go.Proofs.Tryz renaming prog→zz,underlying41→zv
open Go.RowKit Go.Shelf Go.WideMaps
set_option maxHeartbeats 2000000
set_option maxRecDepth 100000
variable{c d:List Lt}{dv:Value}{w w':World}
def iK(dv:Value):Array Value:=#[dv]++zt 61 (.slice none 0 0)
def wE:Array Value:=zt 62 (.slice none 0 0)
theorem aCr(dv:Value):(iK dv).size=62:=by simp [iK]
theorem aG7(dv:Value):(iK dv)[0]?=some dv:=by simp [iK]
theorem aG8(dv:Value)(a:Nat)(b:a<61):(iK dv)[1+a]?=some (.slice none 0 0):=by unfold iK;rw [Array.getElem?_append_right (by simp)];simp [b]
theorem aNk(a:Option Addr)(b c:Nat):zz.built 174 [(0,.slice a b c)]=some (iK (.slice a b c)):=by kernel_rfl
theorem aG9:(zz.info? 174).map (λa=>(a.zero,a.size))=some (some (.agg wE),62):=by kernel_rfl
theorem aNl(w:World)(f a:Array Value)(e:TypeId):(w.alloc (.cells f e)).setRow w.heap.size a=w.alloc (.cells a e):=by
 unfold World.setRow World.alloc;congr 1
 apply Array.ext
 ·simp
 ·intro b k g;simp only [Array.getElem_modify];by_cases i:b<w.heap.size
  ·rw [aI (by omega)];simp [Array.getElem_push_lt i]
  ·have j:b=w.heap.size:=by simp at g;omega
   subst j;simp
theorem aNm(w:World):(Instr.alloc 174 true (.tuple #[])).run zz w=.ok (.pointer (some ⟨w.heap.size,0,none⟩)) (w.alloc (.cells wE 174)):=by
 have a:=aG9;cases hi:zz.info? 174 with
 |none=>rw [hi] at a;simp at a
 |some i=>
  rw [hi] at a;simp at a;have b:(Value.agg wE).cells=wE:=rfl;simp [Instr.alloc,zeroValue,typeInfo,hi,a.1,newVar,newRow,b]
theorem aGa{s:Array Oper}{t:List Oper}{e k l n:Oper}{f:Act}{p:Exit->Act->World->Prop}(x:e.guard=none)(y:k.guard=none)(z:l.guard=none)(A:n.guard=none)(u o m q:Operand)
  (B:e.op=.move u) (C:k.op=.build 174 #[(0,o)]) (D:l.op=.alloc 174) (E:n.op=.store 174 m q) (b:Option Addr) (a c:Nat) (I:f.eval u=.slice b a c) (H:(f.put e.dst (.slice b a c)).eval o=.slice b a c)
  (J:(((f.put e.dst (.slice b a c)).put k.dst (.agg (iK (.slice b a c)))).put l.dst (.pointer (some ⟨w.heap.size,0,none⟩))).eval m=.pointer (some ⟨w.heap.size,0,none⟩))
  (L:(((f.put e.dst (.slice b a c)).put k.dst (.agg (iK (.slice b a c)))).put l.dst (.pointer (some ⟨w.heap.size,0,none⟩))).eval q=.agg (iK (.slice b a c)))
  (g:wpList zz s p t ((((f.put e.dst (.slice b a c)).put k.dst (.agg (iK (.slice b a c)))).put l.dst (.pointer (some ⟨w.heap.size,0,none⟩))).put n.dst undef) (w.alloc (.cells (iK (.slice b a c)) 174))):wpList zz s p (e::k::l::n::t) f w:=by
 refine wpList_plain x λK hK=>?_
 have v:e.wp zz f w K p:=by
  unfold Oper.wp execOp;simp only [B,I,Sem.run_pure];refine hK _ _ ?_;have r:zz.built 174 ((#[(0,o)]:Array (Nat×Operand)).map λ(i,m)=>(i,(f.put e.dst (.slice b a c)).eval m)).toList=some (iK (.slice b a c)):=by simp only [List.map_toArray,List.map_cons,List.map_nil,H];exact aNk b a c
  refine wpList_build y 174 #[(0,o)] C (by rw [r];rfl) ?_;rw [r];simp only [Option.getD_some];refine wpList_plain z λN F=>?_
  unfold Oper.wp execOp;simp only [D,Sem.run_bind,aNm,Sem.run_pure,Result.andThen_ok];refine F _ _ ?_;refine wpList_store_row A 174 m q E w.heap.size (iK (.slice b a c)) J L 174 wE (heap_alloc_new w _) ?_ ?_ ?_ ?_
  ·have g:=aG9;cases j:zz.info? 174 with
   |none=>rw [j] at g;simp at g
   |some i=>rw [j] at g;simp at g;simp [g.2,aCr]
  ·simp [aCr,wE]
  ·have G:(iK (.slice b a c)).all (λM=>M.oneCell')=true:=by
    rw [Array.all_eq_true];intro i j;rcases Nat.eq_zero_or_pos i with rfl|hp
    ·have:=aG7 (.slice b a c);rw [zw j] at this;simp at this;rw [this];rfl
    ·have:=aG8 (.slice b a c) (i-1) (by rw [aCr] at j;omega);rw [show 1+(i-1)=i by omega,zw j] at this;simp at this;rw [this];rfl
   exact G
  ·rw [aNl];exact g
 exact v
structure lT(w:World)(g:Nat)(dv:Value):Prop where
 blk:∃cs,w.heap[g]?=some (.cells cs 174 (0,0))
 among:w.cell? ⟨g,0,none⟩=some dv
 bound:w.cell? ⟨g,61,none⟩=some (.slice none 0 0)
theorem lT.below{g:Nat}(a:lT w g dv)(b:aC w w'):lT w' g dv:=by obtain ⟨f,e⟩:=a.blk;exact ⟨⟨f,(b.block g (zy.1 e).1).trans e⟩,aD b a.among,aD b a.bound⟩
theorem lT.frz{a:Nat}(b:lT w a dv)(f:Nat):w.frozen? ⟨a,f,none⟩=false:=by obtain ⟨g,e⟩:=b.blk;simp [World.frozen?,e]
theorem lT.reset{f:Nat}(j:lT w f dv):aC w (w.setCell ⟨f,61,none⟩ (.slice none 0 0)):=by
 obtain ⟨b,g⟩:=j.blk;have k:b[61]?=some (.slice none 0 0):=by have:=j.bound;unfold World.cell? at this;rw [g] at this;exact this
 have n:=(zy.1 g).1;have a:=bX w ⟨f,61,none⟩ (.slice none 0 0);refine ⟨a.os,a.tape,a.output,a.size,λi m=>?_⟩;by_cases e:i=f
 ·subst e;rw [g];show (w.heap.modify i _)[i]?=_;rw [zw (by rw [Array.size_modify];exact n),Array.getElem_modify_self,(zy.1 g).2];show some (Obj.cells (b.setIfInBounds 61 (.slice none 0 0)) 174 (0,0))=_;have o:b.setIfInBounds 61 (.slice none 0 0)=b:=by
   apply Array.ext
   ·simp
   ·intro q l p;rw [Array.getElem_setIfInBounds (by simpa using l)];split
    ·rename_i e;subst e;exact ((zy.1 k).2).symm
    ·rfl
  rw [o]
 ·exact a.block i m (by simpa using e)
theorem aGb(j:Nat)(a b:Bool)(m n:Option Addr)(k l f g:Nat)(w:World)(e:a≠b):Calls zz 154 #[.pointer (some ⟨j,0,none⟩),.agg #[.bool a,.slice m k f],.agg #[.bool b,.slice n l g]] w λi w'=>i=.returned (.bool false)/\aC w w':=by
 cases a<;>cases b<;>first|exact absurd rfl e|clear e
 all_goals
  go_enter Tryz.func154,Tryz.ntmps154;go_wp2;go_ret;exact ⟨rfl,((Below.refl _ w).alloc (zx _) _).alloc (by simp) _⟩
theorem aGc(b:Nat)(dv:Value)(w:World)(a:lT w b dv):Calls zz 155 #[.pointer (some ⟨b,0,none⟩),.int .i64 0] w λf w'=>(∃i,f=.returned i)/\aC w w':=by
 have j:=a.bound;have k:=a.frz 61;have e:=aA a.reset;clear a;go_enter Tryz.func155,Tryz.ntmps155;go_wp2;go_loopw [13] (λg wr=>g=.int .i64 0/\wr=w) (λ_ _=>0);case atStart=>exact ⟨rfl,rfl⟩
 case round=>
  obtain ⟨rfl,rfl⟩:=hrel;go_wp2;go_end0;exact ⟨⟨_,rfl⟩,e.o⟩
structure nD(w:World)(b o:Nat)(x:Bool)(s:Option Addr)(n c:Nat):Prop where
 c0:w.cell? ⟨b,o,none⟩=some (.bool x)
 c1:w.cell? ⟨b,o+1,none⟩=some (.slice s n c)
theorem nD.below{a f:Nat}{x:Bool}{s:Option Addr}{n c:Nat}(b:nD w a f x s n c)(e:aC w w'):nD w' a f x s n c:=⟨aD e b.c0,aD e b.c1⟩
theorem aNn(n z D P:Nat)(b l:Bool)(g p:Option Addr)(f o e m:Nat)(w:World)(r:lT w n (.slice (some ⟨z,D,none⟩) 1 P))(C:nD w z D l p o m)(U:b≠l):Calls zz 171 #[.pointer (some ⟨n,0,none⟩),.agg #[.bool b,.slice g f e]] w λq w'=>q=.returned (.int .i64 0)/\aC w w':=by
 have s:∀a,aC w (w.alloc a):=λa=>(Below.refl _ w).alloc (zx _) a
 have N:=λa=>(r.below (s a)).among
 have G:=aA (s (.cells #[.bool b,.slice g f e] 55));have M:aG (∀wr,Below (w.alloc (.cells #[.bool b,.slice g f e] 55)).heap.size (w.alloc (.cells #[.bool b,.slice g f e] 55)) wr->nD wr w.heap.size 0 b g f e):=aA λwr j=>nD.below ⟨by simp,by simp⟩ j
 have J:=aA r;have I:=aA C;clear r C s;go_enter Tryz.func171,Tryz.ntmps171;go_wp2;go_loopw [5,14] (λO v wr=>O=.int .i64 0/\∃k:Nat,k<=1/\v=.int .i64 k/\Below (w.alloc (.cells #[.bool b,.slice g f e] 55)).heap.size (w.alloc (.cells #[.bool b,.slice g f e] 55)) wr) (λ_ v _=>1-(intOf v).toNat);case atStart=>exact ⟨rfl,0,by omega,rfl,Below.refl _ _⟩
 case round=>
  obtain ⟨rfl,k,a2,rfl,j⟩:=hrel;have u:=G.o.trans (j.mono (by simp));clear N;rcases (by omega:k=0\/k=1) with rfl|rfl
  ·have A:=J.o.below u;have S:=I.o.below u;have T:=M.o wr j;obtain ⟨Y,Z⟩:=S;obtain ⟨Q,R⟩:=T;have i:∀a,aC wr (wr.alloc a):=λa=>(Below.refl _ wr).alloc (zx _) a
   have X:=λa=>(A.below (i a)).bound
   have a0:=λa=>aD (i a) Q
   have a1:=λa=>aD (i a) R
   have F:=aA (λW=>aGb n b l g p f o e m W U);have L:=aA A;have y:=aA j;go_wp2_with (first
    |(go_at_call 154;refine (aB F _).mono ?_;rintro q V ⟨rfl,t⟩;have x:=aA t;have E:=aA (aGc n _ V (L.o.below ((i (.cells #[.bool l,.slice p o m] 55)).trans (t.mono (by simp)))));clear t)
    |(go_at_call 155;refine (aB E).mono ?_;rintro q a4 ⟨⟨a3,rfl⟩,B⟩;have H:=aA B;clear B)
    |go_in)
   exact ⟨⟨rfl,1,by omega,rfl,y.o.trans ((((i (.cells #[.bool l,.slice p o m] 55)).trans (x.o.mono (by simp))).trans (H.o.mono (by have:=x.o.size;simp at this;omega))).mono y.o.size)⟩,by simp [intOf]⟩
  ·go_wp2;go_ret;exact ⟨rfl,u⟩
theorem aNo(m j q v t F R:Nat)(g s:Bool)(r G:Option Addr)(p E k u:Nat)(w:World)(f:lT w m (.slice (some ⟨j,q,none⟩) 1 v))(B:nD w j q s G E u)(D:nD w t F g r p k)(Q:g≠s):Calls zz 152 #[.pointer (some ⟨m,0,none⟩),.slice (some ⟨t,F,none⟩) 1 R] w λx w'=>x=.returned (.int .i64 0)/\aC w w':=by
 have N:=f.among;have L:=aA f;have J:=aA B;have M:=aA D;clear f B D;go_enter Tryz.func152,Tryz.ntmps152;go_wp2;go_quiet (fail);go_wp2;go_loopw [5,6,18] (λO P o wr=>O=.int .i64 0/\∃e l:Nat,e<=1/\o=.int .i64 e/\P=.int .i64 l/\(e=0->l=2)/\aC w wr) (λ_ _ o _=>1-(intOf o).toNat);case atStart=>exact ⟨rfl,0,2,by omega,rfl,rfl,λ_=>rfl,aL ⟨_,rfl⟩⟩
 case round=>
  obtain ⟨rfl,e,l,U,rfl,rfl,C,b⟩:=hrel;clear N;rcases (by omega:e=0\/e=1) with rfl|rfl
  ·obtain rfl:=C rfl;have z:=L.o.below b;have y:=J.o.below b;obtain ⟨S,T⟩:=M.o.below b;have n:∀a,aC wr (wr.alloc a):=λa=>(Below.refl _ wr).alloc (zx _) a
   have H:=aA (λa=>aNn m j q v g s r G p E k u (wr.alloc a) (z.below (n a)) (y.below (n a)) Q);have i:=aA b;clear z y b C;go_wp2_with (first
    |(go_at_call 171;refine (aB H _).mono ?_;rintro x V ⟨rfl,A⟩;have I:=aA A;clear A)
    |go_in)
   exact ⟨⟨rfl,1,0,by omega,rfl,rfl,λf=>absurd f (by omega),aV i.o ((n (.cells #[.bool g,.slice r p k] 55)).trans (I.o.mono (by simp)))⟩,by simp [intOf]⟩
  ·have i:=aA b;go_wp2;go_ret;exact ⟨rfl,i.o⟩
theorem aNp(t e f k:Nat)(w:World)(x:1<=k):Calls zz 139 #[.pointer (some ⟨t,0,none⟩),.slice (some ⟨e,f,none⟩) 1 k] w λs w'=>s=.returned (.tuple #[.slice (some ⟨e,f,none⟩) 1 1,.slice none 0 0])/\aC w w':=by
 have y:(1:Int)<=(k:Int):=by omega
 go_enter Tryz.func139,Tryz.ntmps139;go_wp2;go_quiet (fail);go_wp2;all_goals
  go_loopw [4,5,6] (λi p b wr=>i=.slice (some ⟨e,f,none⟩) 1 1/\∃(a:Nat) (l:Option Addr) (m:Nat),a<=1/\b=.int .i64 a/\p=.slice l 0 m/\(a=1->p=.slice none 0 0)/\aC w wr) (λ_ _ b _=>1-(intOf b).toNat);case atStart=>exact ⟨rfl,0,_,_,by omega,rfl,rfl,λu=>absurd u (by omega),aL ⟨_,rfl⟩⟩
  case round=>
   obtain ⟨rfl,a,l,m,z,rfl,rfl,o,j⟩:=hrel;rcases (by omega:a=0\/a=1) with rfl|rfl
   ·have g:=aA j;clear j o;go_wp2;go_loopw [4,7,22] (λi r b v=>i=.slice (some ⟨e,f,none⟩) 1 1/\r=.slice none 0 0/\b=.int .i64 0/\aC w v) (λ_ _ _ _=>0);case atStart=>exact ⟨rfl,rfl,rfl,g.o⟩
    case round=>
     obtain ⟨rfl,rfl,rfl,n⟩:=hrel;have q:=aA n;clear n;go_wp2;exact ⟨⟨rfl,1,none,0,by omega,rfl,rfl,λ_=>rfl,q.o⟩,by simp [intOf]⟩
   ·obtain ⟨rfl,-,rfl⟩ : l=none/\0=0/\m=0:=by simpa using o rfl
    have g:=aA j;go_wp2;go_returns;exact ⟨rfl,g.o⟩
theorem aGd(a:w.grownBy w' none):aC w w':=⟨a.os,a.tape,a.output,a.size,λe b=>a.block e b (by simp)⟩
theorem aNq(w:World):Calls zz 172 #[.slice none 0 0,.int .i64 0] w λa w'=>a=.returned (.slice none 0 0)/\w'=w:=by go_enter Tryz.func172,Tryz.ntmps172;go_wp2;go_ret;exact ⟨rfl,rfl⟩
theorem aNr(o D E:Nat)(s t:Addr)(w:World)(B:w.cell? ⟨o,0,none⟩=some (.slice (some s) 0 D))(C:w.cell? ⟨o,1,none⟩=some (.slice (some t) 0 E)):Calls zz 153 #[.slice (some ⟨o,0,none⟩) 2 2] w λr w'=>r=.returned (.slice none 0 0)/\aC w w':=by
 obtain ⟨A,u,v,x,y⟩:=info_parts sC;have F:=aA (λq=>aNq q);go_enter Tryz.func153,Tryz.ntmps153;go_wp2;go_loop [3,11] (λJ b=>∃a:Nat,a<=2/\b=.int .i64 a/\J=.int .i64 0) (λ_ b=>2-(intOf b).toNat);case atStart=>exact ⟨0,by omega,rfl,rfl⟩
 case round=>
  obtain ⟨a,G,rfl,rfl⟩:=hrel;rcases (by omega:a=0\/a=1\/a=2) with rfl|rfl|rfl
  ·go_wp2;go_round;case rel=>exact ⟨1,by omega,rfl,rfl⟩
   case measure=>simp [intOf]
  ·go_wp2;go_round;case rel=>exact ⟨2,by omega,rfl,rfl⟩
   case measure=>simp [intOf]
  ·go_wp2_with (first
    |(go_at_call 172;refine (aB F _).mono ?_;rintro r q ⟨rfl,z⟩;rw [z];clear z q)
    |go_in)
   go_loopw [6,27] (λI b wr=>I=.slice none 0 0/\∃a:Nat,a<=2/\b=.int .i64 a/\aC w wr) (λ_ b _=>2-(intOf b).toNat);case atStart=>exact ⟨rfl,0,by omega,rfl,Below.refl _ _⟩
   case round=>
    obtain ⟨rfl,a,G,rfl,g⟩:=hrel;have N:=aD g B;have O:=aD g C;have j:=aA g;clear B C g;rcases (by omega:a=0\/a=1\/a=2) with rfl|rfl|rfl
    ·go_wp2_with (first
      |(at_builtin;refine wpList_append_own _ rfl (.tmp 31) (.tmp 32) 41 rfl 0 55 A (.agg #[.bool false,.slice none 0 0]) 2 32 zv u v x y rfl (by decide) _ 0 [] rfl (World.ownsRow_nil _ _ _ _) s 0 D [] rfl rfl (λH p k=>by simp at k) (λp m=>by simp at m) (by unfold maxLen;omega) (by omega) (Nat.zero_le _) ?_;intro L M l e f;have n:=f.2 ⟨rfl,rfl⟩;subst n;have i:=aA (aV j.o (aGd e));clear l e f)
      |go_in)
     exact ⟨⟨rfl,1,by omega,rfl,i.o⟩,by simp [intOf]⟩
    ·go_wp2_with (first
      |(at_builtin;refine wpList_append_own _ rfl (.tmp 31) (.tmp 32) 41 rfl 0 55 A (.agg #[.bool false,.slice none 0 0]) 2 32 zv u v x y rfl (by decide) _ 0 [] rfl (World.ownsRow_nil _ _ _ _) t 0 E [] rfl rfl (λH p k=>by simp at k) (λp m=>by simp at m) (by unfold maxLen;omega) (by omega) (Nat.zero_le _) ?_;intro L M l e f;have n:=f.2 ⟨rfl,rfl⟩;subst n;have i:=aA (aV j.o (aGd e));clear l e f)
      |go_in)
     exact ⟨⟨rfl,2,by omega,rfl,i.o⟩,by simp [intOf]⟩
    ·go_wp2;go_ret;exact ⟨rfl,j.o⟩
theorem aNs(o B J S a b:Nat)(z l:Bool)(L u:Option Addr)(I t C n:Nat)(w:World)(D:lT w o (.slice (some ⟨B,J,none⟩) 1 S))(F:nD w B J l u t n)(G:nD w a b z L I C)(Z:z≠l):Calls zz 140 #[.pointer (some ⟨o,0,none⟩),.slice (some ⟨a,b,none⟩) 1 1] w λe w'=>e=.returned (.bool false)/\aC w w':=by
 have O:=aA (aNo o B J S a b 1 z l L u I t C n w D F G Z);have Q:=aA D;have a6:=aA F;have a7:=aA G;clear D F G;go_enter Tryz.func140,Tryz.ntmps140;go_upto_region 2 with (first
  |(go_at_call 152;refine (aB O).mono ?_;rintro e f ⟨rfl,U⟩;have a3:=aA U;clear U)
  |go_in)
 have b7:IntKind.i64.wrap ((0:Int)+1)=1:=by rfl
 have b8:IntKind.i64.wrap 1=1:=by rfl
 have X:(f.alloc (.cells #[.slice (some ⟨a,b,none⟩) 0 1,.slice (some ⟨a,b,none⟩) 0 0] 41)).cell? ⟨f.heap.size,0,none⟩=some (.slice (some ⟨a,b,none⟩) 0 1):=by simp
 have Y:(f.alloc (.cells #[.slice (some ⟨a,b,none⟩) 0 1,.slice (some ⟨a,b,none⟩) 0 0] 41)).cell? ⟨f.heap.size,1,none⟩=some (.slice (some ⟨a,b,none⟩) 0 0):=by simp
 have N:=aA (λ(v:World) (r:∃g,v=(f.alloc (.cells #[.slice (some ⟨a,b,none⟩) 0 1,.slice (some ⟨a,b,none⟩) 0 0] 41)).drewN g)=>(aNr f.heap.size 1 0 ⟨a,b,none⟩ ⟨a,b,none⟩ v (by obtain ⟨g,rfl⟩:=r;exact X) (by obtain ⟨g,rfl⟩:=r;exact Y)).mono (R':=λe M=>e=.returned (.slice none 0 0)/\aC f M) (λe M q=>by
  obtain ⟨g,rfl⟩:=r;have p:aC f (f.alloc (.cells #[.slice (some ⟨a,b,none⟩) 0 1,.slice (some ⟨a,b,none⟩) 0 0] 41)):=(Below.refl _ f).alloc (zx _) _;exact ⟨q.1,p.trans (((aL ⟨g,rfl⟩).trans q.2).mono (by simp))⟩))
 go_region_held3 (λ_=>True) (trivial) (first
  |(go_at_call 153;refine (aB N _ (by first|exact ⟨0,rfl⟩|exact ⟨1,rfl⟩|exact ⟨_,rfl⟩)).mono ?_;rintro e M ⟨rfl,V⟩;have P:=aA (aV a3.o V);clear V)
  |go_in)
 have b1:=(Q.o.below P.o).among;clear X Y N O b7 b8;go_wp2;clear b1;go_loopw [27] (λH wr=>∃s:Nat,s<=1/\H=.int .i64 s/\aC w wr) (λH _=>1-(intOf H).toNat);case atStart=>exact ⟨0,by omega,rfl,P.o⟩
 case round=>
  obtain ⟨s,c1,rfl,k⟩:=hrel;rcases (by omega:s=0\/s=1) with rfl|rfl
  ·have E:=Q.o.below k;obtain ⟨b3,b4⟩:=a6.o.below k;have T:=a7.o.below k;have p:∀m,aC wr (wr.alloc m):=λm=>(Below.refl _ wr).alloc (zx _) m
   have b2:=λm=>(E.below (p m)).bound
   have A:=aA k;have a9:=aA E;have a8:=aA T;clear k E T;go_upto_region 7 with (fail);obtain ⟨j,a0,x,b5,b6⟩ : ∃j,wr.alloc (.cells #[.bool l,.slice u t n] 55)=j/\aC wr j/\j.cell? ⟨wr.heap.size,0,none⟩=some (.bool l)/\j.cell? ⟨wr.heap.size,1,none⟩=some (.slice u t n):=⟨_,rfl,p _,by simp,by simp⟩;simp only [a0];obtain ⟨b9,c0⟩:=a8.o.below x;have R:=aA (aV A.o x);have b0:=aA (a9.o.below x);have a2:=aA (λ(v:World) (r:∃g,v=j.drewN g)=>(aGb o z l L u I t C n v Z).mono (R':=λe y=>e=.returned (.bool false)/\aC j y) (λe y q=>by
    obtain ⟨g,rfl⟩:=r;exact ⟨q.1,(aL ⟨g,rfl⟩).trans q.2⟩))
   clear a0 b2 x p b3 b4;first|go_region_with (go_at_call 154;refine (aB a2 _ (by first|exact ⟨0,rfl⟩|exact ⟨1,rfl⟩|exact ⟨_,rfl⟩)).mono ?_;rintro e y ⟨rfl,i⟩;have c2:=aD i b5;have c3:=aD i b6;have c4:=aD i b9;have c5:=aD i c0;have a1:=aA (aGc o _ y (b0.o.below i));have a4:=aA (R.o.trans (i.mono R.o.size));clear i)|fail
   all_goals
    go_wp2_with (first
     |(go_at_call 155;refine (aB a1).mono ?_;rintro e c7 ⟨⟨c6,rfl⟩,W⟩;have a5:=aA (aV a4.o W);clear W)
     |go_in)
    exact ⟨⟨1,by omega,rfl,a5.o⟩,by simp [intOf]⟩
  ·have A:=aA k;go_wp2;go_ret;exact ⟨rfl,A.o⟩
theorem aCs(a:d.length<c.length):dI c d=false:=
 (aMu (r:=false) ⟨λa=>(by cases a),λb=>by omega⟩).symm
theorem aCt{l:Lt}(e:l∈c)(b:∀f∈d,f.1≠l.1):dI c d=false:=
 (aMu (r:=false) ⟨λa=>(by cases a),λ⟨_,g,_,_,a⟩=>absurd rfl (b (l.1,subst g l.2) (a l e))⟩).symm
theorem aNt(e g k q a b f:Nat)(l m:Bool)(z A:Option Addr)(x y o p:Nat)(w:World)(r:lT w e (.slice (some ⟨g,k,none⟩) 1 q))(u:nD w g k m A y p)(v:nD w a b l z x o)(G:l≠m)(F:1<=f):Calls zz 112 #[.pointer (some ⟨e,0,none⟩),.slice (some ⟨a,b,none⟩) 1 f] w λi w'=>i=.returned (.bool false)/\aC w w':=by
 have D:=aA (aNp e a b f w F);have C:=aA (λ(B:World) (j:aC w B)=>aNs e g k q a b l m z A x y o p B (r.below j) (u.below j) (v.below j) G);clear r u v;go_enter Tryz.func112,Tryz.ntmps112;go_wp2;go_loopw [1] (λI wr=>I=.slice (some ⟨a,b,none⟩) 1 f/\wr=w) (λ_ _=>0);case atStart=>exact ⟨rfl,rfl⟩
 case round=>
  obtain ⟨rfl,H⟩:=hrel;subst H;go_wp2_with (first
   |(go_at_call 140;refine (aB C _ n.o).mono ?_;rintro i L ⟨rfl,t⟩;have E:=aA (aV n.o t);clear t)
   |(go_at_call 139;refine (aB D).mono ?_;rintro i J ⟨rfl,s⟩;have n:=aA s;clear s)
   |go_in)
  go_ret;exact ⟨rfl,E.o⟩
theorem lT.new(w:World)(dv:Value):lT (w.alloc (.cells (iK dv) 174)) w.heap.size dv:=by
 have e:(w.alloc (.cells (iK dv) 174)).heap[w.heap.size]?=some (.cells (iK dv) 174 (0,0)):=World.alloc_heap_new w _;have b:∀a,(w.alloc (.cells (iK dv) 174)).cell? ⟨w.heap.size,a,none⟩=(iK dv)[a]?:=λa=>by unfold World.cell?;simp only [e];rfl
 exact ⟨⟨_,e⟩,by rw [b];exact aG7 dv,by rw [b];exact aG8 dv 60 (by omega)⟩
theorem bZ.oneL{p:Nat}{g:Option Addr}{j:Nat}{l:Lt}(v:bZ p w (.slice g [l].length j) [l]):∃i B z c,g=some ⟨i,0,none⟩/\1<=j/\nD w i 0 l.1 B z c:=by
 obtain ⟨f,e,o,A,_⟩:=v;obtain ⟨b,rfl⟩ : ∃b,f=[b]:=by
  match f,e with
  |[b],_=>exact ⟨b,rfl⟩
 simp at e;subst e;obtain ⟨C,r,a,x⟩:=sB o;obtain ⟨u,k,m,n⟩:=x 0 (by simp);obtain ⟨q,s,t⟩:=aW (A b (by simp));simp at a k m n;obtain ⟨rfl,rfl⟩:=a;subst k;refine ⟨u,q,_,s,rfl,?_,⟨by simpa using m,by rw [<-t];simpa using n⟩⟩;obtain ⟨_,⟨a,_⟩|⟨E,r,D,a,_,_,y,_⟩⟩:=o
 ·cases a
 ·simp at a y;omega
theorem aGe{l f:Lt}(n:l.1≠f.1):mK [l] [f]:=by intro F G H v b w i j;have m:dI [l] [f]=false:=aCt (l:=l) (by simp) (by intro x o;simp at o;subst o;exact λg=>n g.symm);rw [m];obtain ⟨u,D,B,z,rfl,y,p⟩:=i.oneL;obtain ⟨a,E,C,A,rfl,_,q⟩:=j.oneL;have e:aC w (w.alloc (.cells (iK (.slice (some ⟨a,0,none⟩) 1 b)) 174)):=(Below.refl _ _).alloc (zx _) _;have r:=aA (aNt w.heap.size a 0 b u 0 v l.1 f.1 D E B C z A _ (lT.new w (.slice (some ⟨a,0,none⟩) 1 b)) (q.below e) (p.below e) n y);have s:=aA e;clear i j m p q e;simp only [List.length_cons,List.length_nil,Nat.zero_add];go_enter Tryz.func68,Tryz.ntmps68;go_upto_region 1 with (fail);apply wp_region_lit;refine aGa rfl rfl rfl rfl _ _ _ _ rfl rfl rfl rfl (some ⟨a,0,none⟩) 1 b rfl (by rfl) (by rfl) (by rfl) ?_;go_wp2_with (go_at_call 112;refine (aB r).mono ?_;rintro g I ⟨rfl,k⟩;have t:=aA (aV s.o k);clear k);go_ret;exact ⟨rfl,t.o⟩
theorem aNu(f:d.length<c.length):mK c d:=by
 intro g i a j b w _ _;rw [aCs f];have e:=aA ((Below.refl w.heap.size w).alloc (zx _) (.cells (iK (.slice a d.length b)) 174));have k:decide ((c.length:Int)<=(d.length:Int))=false:=by rw [decide_eq_false_iff_not];omega
 have l:(d.length:Int)<(c.length:Int):=by omega
 go_enter Tryz.func68,Tryz.ntmps68;go_upto_region 1 with (fail);apply wp_region_lit;refine aGa rfl rfl rfl rfl _ _ _ _ rfl rfl rfl rfl a d.length b rfl (by rfl) (by rfl) (by rfl) ?_;go_wp2;go_ret;exact ⟨rfl,e.o⟩
