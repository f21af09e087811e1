import Derived.Test.YtbpiopdphigodaaGreatDoorONumP
import Derived.Lib.AppendZerosOnto
import Derived.DeepKeys4
import Derived.Test.YtbpiopdphigodaaGreatDoorPTermP
import Derived.Deep.RegionLaw
open List renaming replicate→zy
namespace Go.Proofs.YtbpiopdphigodaaGreatDoor
open _root_.Go.Proofs.Tryz renaming prog→zz,underlying212→zw,underlying189→zv,underlying3→zu,underlying33→zt
open Value renaming int→zx
set_option maxHeartbeats 2000000
set_option maxRecDepth 100000
open Go.RowKit Go.Shelf Go.WideMaps
variable{k:TypeId}{a:World}
theorem aWa:laidOutB zz=true:=by kernel_rfl
theorem wP:Maps.Keyed zz 212:=Maps.Keyed.of_law (deep_law_laid aWa (m:=2) (by decide) (of_decide_eq_true (by kernel_rfl)) (by kernel_rfl) (by kernel_rfl))
def oU(b c:Int):Value:=.agg #[.int .i64 b,.int .i64 c]
theorem aWb(f:Nat)(b c:Int)(g:(Lit.int .i64 b).wf=true)(i:(Lit.int .i64 c).wf=true):zz.keyLits (f+1+1) 212 [.int .i64 b,.int .i64 c]=some [.int .i64 b,.int .i64 c]:=by
 have d:zz.cellsOf 212=2:=by kernel_rfl
 have e:zz.cellsOf 3=1:=by kernel_rfl
 unfold Program.keyLits;simp only [zw,d];simp [List.mapM_cons,Program.keyLits,zu,e,g,i]
theorem aWc(b c:Int)(d : -1000000000<=b/\b<=1000000000)(e : -1000000000<=c/\c<=1000000000):∃l,keyOf zz 212 (oU b c)=some l:=by
 have i:zz.keyType 212=true:=by kernel_rfl
 have f:zz.cellsOf 212=2:=by kernel_rfl
 have j:zz.types.size+1=(zz.types.size-1)+1+1:=by have:0<zz.types.size:=of_decide_eq_true (by kernel_rfl);omega
 have g:(oU b c).formed zz 212=true:=by unfold Value.formed oU;simp only [zw,f];rfl
 unfold keyOf;simp only [zw,i,g,Bool.and_self,if_true];rw [j];have:=aWb (zz.types.size-1) b c (aBg d.1 d.2) (aBg e.1 e.2);exact ⟨_,by rw [show (oU b c).cells.toList=[.int .i64 b,.int .i64 c] from rfl,this];rfl⟩
theorem aJ3(k:Nat):(Builtin.zeroCells (zx .i64 0).cells k).toList=zy k (.int .i64 0):=by
 apply List.ext_getElem?;intro d;have c:(zx .i64 0).cells=#[.int .i64 0]:=rfl;rw [c];by_cases b:d<k
 ·simp [Builtin.zeroCells,b,Nat.mod_one]
 ·simp [Builtin.zeroCells,b]
theorem aJ4(c:World)(B:TypeId)(n:Nat)(v:Value)(b k:Nat)(e:List Value)(g:c.ownsRow n 3 1 v b e)(S:v.ownBlock≠none)(L:0<k)(V:b+k<=1000000)(E:n<=c.heap.size):∃m s,(Builtin.append_ #[33,3] B #[v,.int .i64 k]).run zz c=.ok m s/\s.ownsRow n 3 1 m (b+k) (e++zy k (.int .i64 0))/\c.grownBy s v.ownBlock/\(m.ownBlock=v.ownBlock\/m.ownBlock=some c.heap.size):=by
 obtain ⟨A,u,z,x,r⟩:=info_parts sI;have p:(e++zy k (zx .i64 0)).length=(b+k)*1:=by rw [List.length_append,g.1];simp
 rcases g.2 with ⟨rfl,rfl⟩|⟨d,f,l,rfl,F,t,X,G,W,y⟩
 ·exact absurd rfl S
 ·by_cases w:b+k<=f
  ·have R:=run_storeCells_at zz d b 3 (zy k (zx .i64 0)) 0 l c t (by simp;omega) (by intro i q;rw [List.eq_of_mem_replicate q];rfl);have T:IntKind.i64.wrap (k:Int)=k:=by rw [IntKind.wrap_i64];omega
   have N:¬((k:Int)<0):=by omega
   have D:¬(281474976710656<(k:Int)*8):=by omega
   have M:k≠0:=by omega
   refine ⟨.slice (some ⟨d,0,none⟩) (b+k) f,c.setRow d (l.toList.take b++zy k (zx .i64 0)++l.toList.drop (b+k)).toArray,?_,⟨p,.inr ⟨d,f,_,rfl,F,setRow_heap c d l _ 3 _ t,w,G,?_,?_⟩⟩,⟨rfl,rfl,rfl,by simp,λj _ o=>setRow_other c d j _ (λC=>o (by simp [Value.ownBlock,C]))⟩,Or.inl rfl⟩
   ·simp [Builtin.append_,run_underlying zt,run_underlying zu,sizeOf,typeInfo,zeroValue,u,z,x,r,asInt,asIntOf,T,N,D,w,M,Addr.add_lit,aJ3];rw [R];simp
   ·simp;omega
   ·rw [Nat.mul_one] at y ⊢;have U:e.length=b:=by have:=g.1;omega
    rw [y,<-show (e++zy k (zx .i64 0)).length=b+k by simp [U]];exact List.take_left
  ·have O:∀j i,e[j]?=some i->c.cell? ((⟨d,0,none⟩ : Addr).add j)=some i:=g.cells (g:=d) rfl;have I:=run_firstCells_some (P:=zz) c.drew A.size b ⟨d,0,none⟩ b f e (by rw [x];exact g.1) (λj i q=>O j i q);have Q:=Go.Lib.run_append_grow_zeros (P:=zz) c 33 3 B 3 A (.int .i64 0) .i64 .i64 zt zu u z (some ⟨d,0,none⟩) b f e I k L (by omega) (by omega) (by omega) (by rw [r];omega) (growslice_fits (by omega) (by rw [r];omega));have J:=grownCap_ge c (b+k) f 3;have H:grownCap c (b+k) f 3<=maxLen:=grownCap_le_maxLen c (b+k) f 3 (by unfold maxLen;omega);refine ⟨_,_,Q,⟨p,.inr ⟨c.heap.size,_,_,rfl,E,heap_alloc_new c.drew _,J,H,?_,?_⟩⟩,⟨rfl,rfl,rfl,by simp,λj o _=>Below.heap_alloc c.drew _ j o⟩,Or.inr rfl⟩
   ·simp [size_zeroCells,g.1,Value.cells];omega
   ·rw [Nat.mul_one];simp only [Array.toList_append,aJ3];rw [<-show (e++zy k (zx .i64 0)).length=b+k by rw [p];omega];exact List.take_left
abbrev Tg:=Int×Nd
def fD(b c:Int)(p:Tg):Bool:=aM p.2 && (decide (p.1=b) && decide (p.2.2=c))
def jF(b:List Tg)(c d:Int):Option Nat:=b.findIdx? (fD c d)
theorem aD1(d:List Tg)(e:Tg)(b c:Int):jF (d++[e]) b c=(jF d b c).or (if fD b c e then some d.length else none):=by
 unfold jF;rw [List.findIdx?_append];congr 1
 by_cases f:fD b c e=true<;>simp [f]
def mV(b:List Tg)(d:Int)(c:Nd):Nat:=if aM c then (jF b d c.2).getD b.length else b.length
structure mW(D:DataW Unit)(M:List Tg):Prop where
 tidy:Maps.Tidy D
 old:∀o x kl p,keyOf zz 212 (oU o x)=some kl->jF M o x=some p->Maps.has D kl=true/\∀z,D.atKey kl z=.lit (.int .i64 p)
 new:∀o x kl,keyOf zz 212 (oU o x)=some kl->jF M o x=none->Maps.has D kl=false
theorem mW.start:mW (.map []) []:=⟨⟨[],rfl,by simp⟩,λd e c p _ b=>by simp [jF] at b,λ_ _ _ _ _=>rfl⟩
theorem mW.skip{l:DataW Unit}{d:List Tg}(f:mW l d){p:Tg}(hp:aM p.2=false\/jF d p.1 p.2.2≠none):mW l (d++[p]):=by
 have m:∀b c,jF (d++[p]) b c=jF d b c:=by
  intro b c;rw [aD1];cases hf:jF d b c with
  |some n=>rfl
  |none=>
   have:fD b c p=false:=by
    rcases hp with hp|hp
    ·simp [fD,hp]
    ·by_cases e:fD b c p=true
     ·simp [fD] at e;rw [e.2.1,e.2.2] at hp;exact absurd hf hp
     ·simpa using e
   simp [this]
 exact ⟨f.tidy,λb c j n g i=>f.old b c j n g (by rw [<-m];exact i),λb c j g i=>f.new b c j g (by rw [<-m];exact i)⟩
theorem aWd{b d c e:Int}(f:oU b d=oU c e):b=c/\d=e:=by simpa [oU] using f
theorem mW.put{u:DataW Unit}{g:List Tg}(m:mW u g){j:Int}{f:Nd}(A:aM f=true)(z:jF g j f.2=none){t:Lit}(p:keyOf zz 212 (oU j f.2)=some t):mW (u.put t (.lit (.int .i64 g.length))) (g++[(j,f)]):=by
 have q:=wP.key p;have v:∀b c i,keyOf zz 212 (oU b c)=some i->¬(b=j/\c=f.2)->i≠t:=by rintro b c i e n rfl;exact n (aWd (wP.inj e p))
 have o:∀b c,fD b c (j,f)=true↔(b=j/\c=f.2):=by
  intro b c;simp [fD,A];constructor
  ·rintro ⟨rfl,rfl⟩;exact ⟨rfl,rfl⟩
  ·rintro ⟨rfl,rfl⟩;exact ⟨rfl,rfl⟩
 refine ⟨m.tidy.put q _,λb c i x e d=>?_,λb c i e d=>?_⟩
 ·rw [aD1] at d;by_cases l:b=j/\c=f.2
  ·obtain ⟨rfl,rfl⟩:=l;rw [z,(o _ _).2 ⟨rfl,rfl⟩] at d;simp at d;subst d;rw [p] at e;simp at e;subst e;exact ⟨Maps.has_put_same m.tidy.isMap q _,λy=>Maps.atKey_put_same m.tidy.isMap q _ _⟩
  ·have s:jF g b c=some x:=by
    cases hfo:jF g b c with
    |some r=>rw [hfo] at d;simpa using d
    |none=>
     rw [hfo] at d;have:fD b c (j,f)=false:=by rw [<-Bool.not_eq_true,o];exact l
     simp [this] at d
   have w:=m.old b c i x e s;have n:=v b c i e l;exact ⟨by rw [Maps.has_put_other n];exact w.1,λy=>by rw [Maps.atKey_put_other n];exact w.2 y⟩
 ·rw [aD1] at d;by_cases l:b=j/\c=f.2
  ·rw [(o _ _).2 l] at d;cases hfo:jF g b c with
   |some r=>rw [hfo] at d;simp at d
   |none=>rw [hfo] at d;simp at d
  ·have s:jF g b c=none:=by
    cases hfo:jF g b c with
    |some r=>rw [hfo] at d;simp at d
    |none=>rfl
   rw [Maps.has_put_other (v b c i e l)];exact m.new b c i e s
theorem aD2{b e:Nat}{c:DataW Unit}{d:World}(i:a.ownsMap zz k fK b e c)(j:d.heap[b]?=a.heap[b]?):d.ownsMap zz k fK b e c:=by obtain ⟨g,f,l,m⟩:=i;exact ⟨g,f,by rw [j];exact l,m⟩
theorem aD3{b f:Nat}{c:DataW Unit}(d:a.ownsMap zz k fK b f c):b<a.heap.size:=by obtain ⟨i,g,e,_⟩:=d;exact (Array.getElem?_eq_some_iff.1 e).1
theorem qP{b f:Nat}{c:DataW Unit}{d:World}(e:a.ownsMap zz k fK b f c)(g:aB a d):d.ownsMap zz k fK b f c:=aD2 e (g.block b (aD3 e))
theorem aWe(F j q a7:Nat)(a6:Option Addr)(r:DataW Unit)(d:List Tg)(c:Int)(e:ByteArray)(b:Int)(g:World)(R:g.cell? ⟨F,0,none⟩=some (.slice a6 d.length a7))(I:g.cell? ⟨F,4,none⟩=some (.map (some j)))
  (E:g.ownsMap zz 212 fK j q r) (C:mW r d) (b3:q<=d.length) (b2:d.length<=1000000) (N : -1000000000<=c/\c<=1000000000) (o : -1000000000<=b/\b<=1000000000):Calls zz 150 #[.pointer (some ⟨F,0,none⟩),.int .i64 c,.agg #[.string e,.int .i64 b]] g λJ a2=>∃a1 P,J=.returned (.int .i64 (mV d c (e,b)))/\a2.ownsMap zz 212 fK j a1 P/\mW P (d++[(c,(e,b))])/\a1<=d.length+1/\g.grownBy a2 (some j):=by
 have b5:F<g.heap.size:=World.block_lt_of_cell? g _ I;have A:=aA (λwx=>nH e b wx);by_cases u:e.toList.isEmpty=true
 ·have i:aM (e,b)=true:=u;rw [u] at A;obtain ⟨a0,U⟩:=aWc c b N o;have B:=aA E;have l:=aA C;have s:=aA U;clear E C u N o;go_enter Tryz.func150,Tryz.ntmps150;go_wp2_with (first
   |(go_at_call 36;refine (aC A _).mono ?_;rintro J f ⟨rfl,t⟩;have m:aB g f:=((Below.refl _ _).alloc (Nat.le_refl _) _).trans (t.mono (by simp));have Y:=aD m R;have Z:=aD m I;have b1:f.cell? ⟨g.heap.size,1,none⟩=some (.int .i64 b):=aD t (by simp);have Q:=aA m;clear m t)
   |go_in)
  have D:aB f (f.alloc (.cells #[.int .i64 c,.int .i64 b] 212)):=(Below.refl _ _).alloc (Nat.le_refl _) _;have b6:=aD D Y;have b7:=aD D Z;have a8:g.heap.size<=f.heap.size:=Q.o.size;have G:=aA (Q.o.trans (D.mono a8));have b8:(f.alloc (.cells #[.int .i64 c,.int .i64 b] 212)).cell? ⟨f.heap.size,0,none⟩=some (.int .i64 c):=by simp
  have b9:(f.alloc (.cells #[.int .i64 c,.int .i64 b] 212)).cell? ⟨f.heap.size,1,none⟩=some (.int .i64 b):=by simp
  generalize f.alloc (.cells #[.int .i64 c,.int .i64 b] 212)=w2 at *;have v:=aA (qP B.o G.o);clear Y Z b1 D U R I;cases hf:jF d c b with
  |some p=>
   have O:=l.o.old c b a0 p s.o hf;have w:aI (mV d c (e,b)=p):=aA (by unfold mV;rw [i];simp [hf]);have H:=aA (l.o.skip (p:=(c,(e,b))) (Or.inr (by simp [hf])));have n:∀wx:World,wx.ownsMap zz 212 fK j q r->(Instr.lookup 189 (.map (some j)) (.agg #[.int .i64 c,.int .i64 b]) true).run zz wx=.ok (.tuple #[.int .i64 p,.bool true]) wx:=λwx o=>by
    obtain ⟨b0,a9,y,z⟩:=o.look_ok wP zv (Tryz.zeroValue3 _) (zd:=.lit (.int .i64 0)) (zp:=[]) rfl s.o;rw [O.2] at z;have L:=yJ z;subst L;rw [O.1] at y;exact y
   have W:=n w2 v.o;have X:=λx=>n (w2.drewN x) (qP v.o (aQ ⟨x,rfl⟩))
   clear O hf i n;go_quiet (fail);go_wp2;go_ret;have S:=aZ G.o (aQ (w1:=w2.drewN nq) ⟨nq,rfl⟩);exact ⟨q,r,vB (by rw [w.o]),qP B.o S,H.o,by omega,fX S⟩
  |none=>
   have M:=l.o.new c b a0 s.o hf;have w:aI (mV d c (e,b)=d.length):=aA (by unfold mV;rw [i];simp [hf]);have H:=aA (l.o.put i hf s.o);have n:∀wx:World,wx.ownsMap zz 212 fK j q r->(Instr.lookup 189 (.map (some j)) (.agg #[.int .i64 c,.int .i64 b]) true).run zz wx=.ok (.tuple #[.int .i64 0,.bool false]) wx:=λwx o=>by
    obtain ⟨b0,a9,y,z⟩:=o.look_ok wP zv (Tryz.zeroValue3 _) (zd:=.lit (.int .i64 0)) (zp:=[]) rfl s.o;rw [yI l.o.tidy.isMap M] at z;have L:=yJ z;subst L;rw [M] at y;exact y
   have W:=n w2 v.o;have X:=λx=>n (w2.drewN x) (qP v.o (aQ ⟨x,rfl⟩))
   clear M hf i n;go_quiet (fail);go_wp2;obtain ⟨c0,b4,V,T⟩:=(qP v.o (aQ (w1:=w2.drewN (nq+1)) ⟨_,rfl⟩)).update wP zv (by unfold maxLen;omega) (key:=.agg #[.int .i64 c,.int .i64 b]) (val:=.int .i64 d.length) (aC s) (d:=.lit (.int .i64 d.length)) (ps:=[]) rfl;have a5:=aA V;have a4:=aA T;clear V T W X;go_region;all_goals
    go_wp2;go_ret;exact ⟨q+1,_,vB (by rw [w.o]),a5.o,H.o,by omega,(fX (aZ G.o (aQ (w1:=w2.drewN (nq+1)) ⟨_,rfl⟩))).trans a4.o⟩
 ·have i:aM (e,b)=false:=by simpa [aM] using u
  rw [show e.toList.isEmpty=false by simpa using u] at A;have w:aI (mV d c (e,b)=d.length):=aA (by unfold mV;rw [i];rfl);have l:=aA (C.skip (p:=(c,(e,b))) (Or.inl i));have B:=aA E;clear E C u i N o;go_enter Tryz.func150,Tryz.ntmps150;go_wp2_with (first
   |(go_at_call 36;refine (aC A _).mono ?_;rintro J f ⟨rfl,t⟩;have a3:=aA t;clear t)
   |go_in)
  go_ret;have m:aB g f:=((Below.refl _ _).alloc (Nat.le_refl _) _).trans (a3.o.mono (by simp));exact ⟨q,r,vB (by rw [w.o]),qP B.o m,l.o,by omega,fX m⟩
