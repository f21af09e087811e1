import Derived.Test.YtmelidkanelpbaaGreatDoorXSr3H
import Derived.Test.YtmelidkanelpbaaGreatDoorGTextH
open List renaming append_assoc→zx,getElem?_eq_getElem→zw,getElem_mem→zv,cons_append→zu,flatMap_cons→zq,getElem_map→zp,getElem?_map→zm,mem_map→zj,mem_flatMap→zg,drop_append→zf,length_drop→ze
open Nat renaming le_refl→zz,zero_le→zs,le_trans→zl,zero_add→zk
open Or renaming inr→zh,inl→zc
open Prod renaming fst→zt
namespace Go.Proofs.YtmelidkanelpbaaGreatDoor
open _root_.Go.Proofs.Tryz renaming prog→zr,ntmps18→zi,func18→zd
open World renaming ownsRow_nil→zy,alloc_heap_new→zo
open Go.RowKit Go.Shelf Go.WideMaps
set_option maxHeartbeats 4000000
set_option maxRecDepth 100000
variable{T:List Tk}{B:Nat}{v:Value}{w:World}
theorem bEe(B:Nat)(w:World)(c:B<=w.heap.size):Calls zr 28 #[.func (.func 29) #[] #[]] w λb a=>b=.returned (.pointer (some ⟨w.heap.size,0,none⟩))/\cG B a w.heap.size (.slice none 0 0) []/\aB w a:=by
 go_enter Tryz.func28,Tryz.ntmps28;go_wp2;go_ret;exact ⟨rfl,⟨zo w _,zy _ _ _ _,c⟩,(Below.refl _ w).alloc (zz _) _⟩
theorem bEf(B b g:Nat)(v l k:Value)(c:List Cd)(j:Nat)(T:List (aK×Value))(i:List Nat)(w:World)(a:bN B w b g v l k c j T i false):Calls zr 32 #[.pointer (some ⟨b,0,none⟩)] w λf m=>f=.returned (.bool true)/\aB w m:=by
 obtain ⟨_,_,_,_,e⟩:=a.cells;have n:=λd=>aC ((Below.refl w.heap.size w).alloc (zz _) d) e
 clear a;go_enter Tryz.func32,Tryz.ntmps32;go_wp2;go_returns;exact ⟨rfl,(Below.refl _ w).alloc (zz _) _⟩
theorem bEg(B b n:Nat)(v q:Value)(j:List Cd)(p:Nat)(T:List (aK×Value))(o:List Nat)(e:Bool)(f:Option Addr)(a g:Nat)(w:World)(i:bN B w b n v (.slice f a g) q j p T o e)(t:1<=a)(u:a<=1000000):Calls zr 20 #[.pointer (some ⟨b,0,none⟩),.int .i64 1] w λm c=>m=.returned (.agg #[.int .i64 1,.slice f a g,.slice none 0 0,.int .i64 ((a-1:Nat):Int),.bool e])/\aB w c:=by
 obtain ⟨_,_,k,_,l⟩:=i.cells;have r:=λd=>aC ((Below.refl w.heap.size w).alloc (zz _) d) k
 have s:=λd=>aC ((Below.refl w.heap.size w).alloc (zz _) d) l
 have x:IntKind.i64.wrap ((a:Int)-1)=(a:Int)-1:=by rw [IntKind.wrap_i64];omega
 clear i;go_enter Tryz.func20,Tryz.ntmps20;go_wp2_with fail;go_region_held3 (λc=>c.cell? ⟨b,2,none⟩=some (.slice f a g)/\c.cell? ⟨b,4,none⟩=some (.bool e)) (go_keep) (fail);all_goals
  go_wp2_with fail;go_returns;refine ⟨by rw [show ((a-1:Nat):Int)=(a:Int)-1 by omega],?_⟩;exact (((Below.refl _ w).alloc (zz _) _).alloc (by simp) _).trans (Below.mono (aU ⟨1,rfl⟩) (by simp;omega))
theorem bEh(B b r:Nat)(v:Value)(m:List Cd)(t:Nat)(T:List (aK×Value))(s:List Nat)(e:Bool)(j f:Option Addr)(d k i g:Nat)(w:World)(l:bN B w b r v (.slice j d k) (.slice f i g) m t T s e):Calls zr 20 #[.pointer (some ⟨b,0,none⟩),.int .i64 2] w λq c=>q=.returned (.agg #[.int .i64 2,.slice j d k,.slice f i g,.int .i64 d,.bool e])/\aB w c:=by
 obtain ⟨_,_,n,o,p⟩:=l.cells;have u:=λa=>aC ((Below.refl w.heap.size w).alloc (zz _) a) n
 have x:=λa=>aC ((Below.refl w.heap.size w).alloc (zz _) a) o
 have y:=λa=>aC ((Below.refl w.heap.size w).alloc (zz _) a) p
 clear l;go_enter Tryz.func20,Tryz.ntmps20;go_wp2_with fail;go_region_held3 (λc=>c.cell? ⟨b,2,none⟩=some (.slice j d k)/\c.cell? ⟨b,3,none⟩=some (.slice f i g)/\c.cell? ⟨b,4,none⟩=some (.bool e)) (go_keep) (fail);all_goals
  go_wp2_with fail;go_returns;refine ⟨rfl,?_⟩;exact (((Below.refl _ w).alloc (zz _) _).alloc (by simp) _).trans (Below.mono (aU ⟨1,rfl⟩) (by simp;omega))
structure sM(B:Nat)(w:World)(v:Value)(P:List (List Lt×Value)):Prop where
 row:w.ownsRow B 51 1 v P.length (P.map Prod.snd)
 cl:∀p∈P,bR B w p.2 p.1
theorem sM.kps{a:List TypeId}{e:World}{b:List (List Lt×Value)}(c:sM B w v b)(d:cO a w e)(f:51∉a)(g:86∉a)(i:117∉a):sM B e v b:=
 ⟨d.row c.row f,λk j=>d.clause (c.cl k j) g i⟩
theorem sM.cell{P:List (List Lt×Value)}(e:sM B w v P){k:Nat}(i:k<P.length):∃g c a b,v=.slice (some ⟨g,0,none⟩) P.length c/\P[k].2=.slice a P[k].1.length b/\w.cell? ⟨g,k,none⟩=some (.slice a P[k].1.length b)/\bR B w (.slice a P[k].1.length b) P[k].1:=by
 have f:=e.cl P[k] (zv i);obtain ⟨a,b,d⟩:=f.shape;obtain ⟨m,⟨_,l⟩|⟨g,c,j,rfl,n,o,p⟩⟩:=e.row
 ·omega
 ·refine ⟨g,c,a,b,rfl,d,?_,by rw [<-d];exact f⟩;rw [e.row.cellAt k (by omega),zm,zw i,<-d];rfl
def gL(P:List (List Lt)):List (aK×Int):=P.mapIdx λa b=>(⟨1,a,0,0,0,b⟩,0)
theorem bEi(b:List (List Lt))(a:Nat)(c:a<b.length):(gL b).take (a+1)=(gL b).take a++[(⟨1,a,0,0,0,b[a]⟩,0)]:=by rw [List.take_add_one];simp [gL,c]
def xG(B:Nat)(j:World)(g e:Nat)(d:List (List Lt))(f:Nat)(b:World):Prop:=
 ∃i a c,bN B b g e i (.slice none 0 0) (.slice none 0 0) a c [] [] false/\bI ((gL d).take f) [] 0 false a c false/\Mv bU B j b
def bEj(B:Nat)(f:World)(a:List (List Lt))(d:Ending)(c:World):Prop:=
 ∃b e,d=.returned (.pointer (some ⟨b,0,none⟩))/\xG B f b e a a.length c
theorem bEk(B:Nat)(v:Value)(b:List (List Lt×Value))(w:World)(A:sM B w v b)(R:∀Y∈b,aS Y.1=true)(b8:b.length<=1000)(C:B<=w.heap.size):Calls zr 19 #[v] w λo a8=>bEj B w (b.map zt) o a8:=by
 obtain ⟨c0,c1,rfl⟩:=bA A.row;have J:=aA (bEe B w C);have a0:=aA A;have a1:=aA R;clear A R;go_enter Tryz.func19,Tryz.ntmps19;go_wp2_with (first
  |(go_at_call 28;refine (aD J).mono ?_;rintro o c ⟨rfl,W,Q⟩;have N:=aA W;have L:=aA Q;clear W Q)
  |go_in)
 have D:aB c (c.alloc (.cells #[.pointer (some ⟨w.heap.size,0,none⟩),.int .i64 0,.slice none 0 0,.slice none 0 0,.bool false] 76)):=(Below.refl _ c).alloc (zz _) _;have O:bN B (c.alloc (.cells #[.pointer (some ⟨w.heap.size,0,none⟩),.int .i64 0,.slice none 0 0,.slice none 0 0,.bool false] 76)) c.heap.size w.heap.size (.slice none 0 0) (.slice none 0 0) (.slice none 0 0) [] 0 [] [] false:=
  ⟨zo c _,N.o.below D,⟨zy _ _ _ _,λY a4=>by simp at a4⟩,zy _ _ _ _,λc2 a5=>by simp at a5,zl C L.o.size⟩
 have U:Mv bU B w (c.alloc (.cells #[.pointer (some ⟨w.heap.size,0,none⟩),.int .i64 0,.slice none 0 0,.slice none 0 0,.bool false] 76)):=(Mv.of_below L.o).trans (Mv.of_below D);have y:aM (xG B w c.heap.size w.heap.size (b.map zt) 0 (c.alloc (.cells #[.pointer (some ⟨w.heap.size,0,none⟩),.int .i64 0,.slice none 0 0,.slice none 0 0,.bool false] 76))):=aA ⟨_,_,_,O,by simp [bI],U⟩;clear O U D J N;go_loopw [11] (λH wr=>∃a:Nat,H=.int .i64 a/\a<=b.length/\xG B w c.heap.size w.heap.size (b.map zt) a wr) (λH _=>b.length-(intOf H).toNat);case atStart=>exact ⟨0,rfl,zs _,y.o⟩
 case round=>
  obtain ⟨a,rfl,b6,a7,d,g,i,j,f⟩:=hrel;by_cases G:a<b.length
  ·obtain ⟨b4,b3,m,n,X,_,b5,p⟩:=(a0.o.kps f.kps (by decide) (by decide) (by decide)).cell G;simp at X;obtain ⟨rfl,rfl⟩:=X;have k:=a1.o _ (zv G);have s:=kV k;have q:bL b[a].1=true:=by
    simp only [aS,Bool.and_eq_true] at k;exact k.1.1
   have F:=bI.len _ j;have S:((gL (b.map zt)).take a).length<=a:=List.length_take_le _ _;simp at F;have b7:(a:Int)<(b.length:Int):=by omega
   have r:=bEi (b.map zt) a (by simpa using G);simp only [zp] at r;have a3:B<=wr.heap.size:=zl C f.size;have M:aM (∀I l t u,bN B u c.heap.size w.heap.size I (.slice none 0 0) (.slice none 0 0) l t [] [] false->bI [(⟨1,a,0,0,0,b[a].1⟩,0)] d g false l t false->Mv bU B wr u->xG B w c.heap.size w.heap.size (b.map zt) (a+1) u):=aA λI l t u b0 b1 b2=>⟨I,l,t,b0,by rw [r];exact bI.snoc _ j b1,f.trans b2⟩
   cases hid:dP b[a].1
   ·have e:=aA (aOt B c.heap.size w.heap.size a7 _ _ d g [] [] false ⟨1,a,0,0,0,b[a].1⟩ m n wr i p s hid (by omega) (by omega) a3);have z:aM (bI [(⟨1,a,0,0,0,b[a].1⟩,0)] d g false (iH d.length (d++[eD ⟨1,a,0,0,0,b[a].1⟩ m n g]) d.length) (g+1) false):=aA (by
     unfold bI;rw [aI (by simp [q]),aI (by simp [hid])];exact ⟨m,n,rfl,rfl,rfl⟩)
    unfold qI at e;simp only at e;clear i p s k q F S r f j y;generalize b[a].1.length=cl at *;go_wp2_with (first
     |(go_at_call 30;refine (aD e).mono ?_;rintro o a9 ⟨⟨a6,rfl⟩,b9,P,V⟩;have x:=aA (M.o _ _ _ _ P z.o V);clear P V)
     |go_in)
    go_roundw;case rel=>exact ⟨a+1,by go_num,by omega,x.o⟩
    case measure=>simp [intOf];omega
   ·have e:=aA (aOs B c.heap.size ⟨1,a,0,0,0,b[a].1⟩ m n wr p s hid);have z:aM (bI [(⟨1,a,0,0,0,b[a].1⟩,0)] d g false d g false):=aA (by
     unfold bI;rw [aI (by simp [q]),aH hid];exact ⟨rfl,rfl,rfl⟩)
    have a2:=aA i;unfold qI at e;simp only at e;clear i p s k q F S r f j y;generalize b[a].1.length=cl at *;go_wp2_with (first
     |(go_at_call 30;refine (aD e).mono ?_;rintro o a9 ⟨⟨a6,rfl⟩,E⟩;have x:=aA (M.o _ _ _ _ (a2.o.below E) z.o (Mv.of_below E));clear E)
     |go_in)
    go_roundw;case rel=>exact ⟨a+1,by go_num,by omega,x.o⟩
    case measure=>simp [intOf];omega
  ·obtain rfl:a=b.length:=by omega
   have Z:aM (xG B w c.heap.size w.heap.size (b.map zt) b.length wr):=aA ⟨_,_,_,i,j,f⟩;clear i j f;go_wp2;go_ret;exact ⟨_,_,rfl,by simpa using Z.o⟩
theorem bEl{a:TypeId}{i e b d c:Nat}{j:List Value}(f:w.ownsRow B a i (.slice (some ⟨e,0,none⟩) b c) d j):b=d/\b<=c:=by
 obtain ⟨_,⟨a,_⟩|⟨m,k,l,a,_,_,g,_⟩⟩:=f
 ·cases a
 ·cases a;exact ⟨rfl,g⟩
theorem bEm{b:World}{a:ByteArray}{d c:Nat}(n:0<(bZ a 0).length)(g:b.ownsRow w.heap.size 120 2 (.slice (some ⟨d,0,none⟩) (bZ a 0).length c) (bZ a 0).length (nI (bZ a 0)))(j:aB w b):∃l i,bO w.heap.size (b.alloc (.cells #[.slice (some ⟨d,0,none⟩) (bZ a 0).length c,.int .i32 0,.int .i64 0,.string ⟨#[]⟩,.slice none 0 0,.slice none 0 0,.map none] 65)) b.heap.size a 0 d 0 l i 0 0 ⟨#[]⟩ (.slice none 0 0) (.slice none 0 0) (.map none):=by
 obtain ⟨_,m⟩:=bEl g;have e:(bZ a 0).length-1+1=(bZ a 0).length:=by omega
 have f:c-1+1=c:=by omega
 have k:=j.size;refine ⟨(bZ a 0).length-1,c-1,⟨?_,k,?_,by omega,rfl,zs _⟩⟩
 ·rw [e,f];unfold bQ;show (b.heap.push _)[b.heap.size]?=_;simp
 ·rw [zk,zk,e,f];exact bG g ((Below.refl b.heap.size b).alloc (zz _) _) (zz _)
theorem bEn(a:ByteArray)(w:World)(o:a.size<=3000):Calls zr 23 #[.string a] w λd s=>∃e b,d=.returned (.pointer (some ⟨e,0,none⟩))/\aB w s/\sT w.heap.size s e a (dD a 0) ⟨0,[],[]⟩ b (.slice none 0 0) (.slice none 0 0) []:=by
 have u:=aA (aRm a w o);have f:=aA (λ(A:World) (e b r k:Nat) (D:bO w.heap.size A e a 0 b 0 r k 0 0 ⟨#[]⟩ (.slice none 0 0) (.slice none 0 0) (.map none))=>(aHg (a.size+1) D o (by omega)).mono λd I H=>aIe (T:=dD a 0) (i:=0) (zs _) (by omega) rfl H);have F:0<(bZ a 0).length:=(aA9 a a.size 0 (by omega)).1;generalize aJ (dD a 0) 0=t at f;obtain ⟨P,R,Q⟩:=t;simp only at f;go_enter Tryz.func23,Tryz.ntmps23;go_wp2_with (first
  |(go_at_call 38;refine (aD u).mono ?_;rintro d I ⟨b,C,rfl,n,g⟩;obtain ⟨r,k,p⟩:=bEm F n g;have j:=aA g;have z:=aA p;clear n g p)
  |(go_at_call 39;refine (f.o _ _ _ _ _ z.o).mono ?_;rintro d S ⟨rfl,m,⟨left,c⟩,l⟩;have J:=c.c1;have L:=c.c2;have M:=c.c3;have N:=c.soft;have x:=aA m;have y:=aA l;clear m l c)
  |go_in)
 go_ret;refine ⟨_,b,rfl,?_,⟨_,y.o⟩,zy _ _ _ _,zy _ _ _ _,λO G=>by simp at G⟩;have q:=j.o.size;have E:=j.o.alloc q (.cells #[.slice (some ⟨b,0,none⟩) (bZ a 0).length C,.int .i32 0,.int .i64 0,.string ⟨#[]⟩,.slice none 0 0,.slice none 0 0,.map none] 65);exact E.grown (rX (rX (rX x.o _) _) _) (by simp;omega) (by simpa using q)
def RdQ(g:ByteArray)(w:World)(e:Ending)(d:World):Prop:=
 ∃v a b c,e=.returned (.tuple #[v,.int .i64 b,.int .i64 c])/\oL g (a.map λf=>f.1.map zt) b c/\lC w.heap.size d v a/\aB w d
theorem lC.mono{d:Nat}{e:List (List (Lt×Value)×Value)}(a:lC B w v e)(b:d<=B):lC d w v e:=
 ⟨⟨iP a.mem.1 b,λp c=>⟨⟨iP (a.mem.2 p c).1.1 b,λg f=>iP ((a.mem.2 p c).1.2 g f) b⟩,(a.mem.2 p c).2⟩⟩,a.once,a.atoms⟩
theorem aGh(e:List Pl)(d:Nat):tH (e.map jO) d↔∀c g,c<d->¬oT e c g:=by
 constructor
 ·intro h c g q a;obtain ⟨l,i⟩:=h c (by simpa using g) q;simp only [zp,jO] at l i;rcases a with a|⟨b,f,m,n⟩
  ·omega
  ·have:=i b f m;simp at this;rcases n with h|h
   ·exact h this.1
   ·exact h this.2
 ·intro h b f p;have o:b<e.length:=by simpa using f
  have a:=h b o p;simp only [oT,not_or,not_exists] at a;refine ⟨by simp [jO];omega,λd r k=>?_⟩;have j:=a.2 d r;simp only [zp,jO] at k ⊢;simp only [aB4,not_and,not_or,Decidable.not_not] at j;have:=j k;rw [this.1,this.2]
theorem bEp{a:List Pl}{f:Int}(l:tI (a.map jO) f):(f=-1/\wS a (-1))\/∃b,∃i:b<a.length,f=b/\wS a a[b].2.2.2:=by
 rcases l with ⟨rfl,p⟩|⟨b,i,rfl,d,g⟩
 ·refine zc ⟨rfl,zc ⟨rfl,λe c=>?_⟩⟩;exact (aGh a a.length).1 (λe c _=>p e c) e c c
 ·have j:b<a.length:=by simpa using i
  rw [aGh a b] at d;rw [aGh a (b+1)] at g;refine zh ⟨b,j,rfl,zh ⟨b,j,?_,d,rfl⟩⟩;refine Classical.byContradiction λo=>g λk m q=>?_
  by_cases n:k=b
  ·subst n;exact o
  ·exact d k m (by omega)
theorem bEq(a:List Pl)(b:Nat)(c:b<a.length):(nL a)[b]?=some (.int .i64 a[b].2.2.2):=by unfold nL;rw [zm,zw c];rfl
theorem bEr(a:List Pc):fJ a=(a.map jK).flatMap λb=>pU b.2:=by
 unfold fJ;induction a with
 |nil=>rfl
 |cons x r ih=>rw [zq,ih,List.map_cons,zq];rfl
theorem bEs{b:ByteArray}(U:b.size<=3000){g:bE}{s:List (Nat×List Lt)}(z:iC (dD b 0) ((dD b 0).length+1) ⟨0,[],[]⟩ []=.ok (g,s))(A:0<(dD b 0).length)(n:(dD b 0).length<=3002){c:List Pc}(m:c.map jK=s):fJ c=g.pz.map jO/\(∀a∈c,aCx a)/\(∀a∈c,∀f∈a.1.2,wL f.1.2)/\c.length<=3002/\g.pz.length<=3002/\(∀a∈g.pz,0<=a.2.2.2)/\∀e∈fJ c,e.1.size<=1000000:=by
 obtain ⟨R,y,q,l,J,L,M,N,O,P⟩:=aI7 (aEj b (by omega)) (aBb b (by omega)) (aIa b 0) _ _ _ _ _ z A;simp only [List.nil_append] at q l;simp only [List.length_nil,zk,Nat.add_zero] at N O;change g.i<(dD b 0).length at M;have i:∀a∈c,aI6 (dD b 0) (a.1.2.map zt):=λa d=>L (jK a) (by rw [<-l,<-m];exact zj.2 ⟨a,d,rfl⟩)
 have S:c.length=y.length:=by rw [<-l,<-m];simp
 have hu:fJ c=g.pz.map jO:=by rw [bEr,m,l,q,J]
 refine ⟨hu,λa d=>⟨λf o=>(i a d).short f.1 (zj.2 ⟨f,o,rfl⟩),by have:=(i a d).count;omega,by have:=(i a d).len;simp at this;omega⟩,λa d f o j C F=>?_,by omega,by omega,by rw [q];exact P,?_⟩
 ·have:=(i a d).vars f.1 (zj.2 ⟨f,o,rfl⟩) j C F;omega
 ·intro e t;unfold fJ at t;obtain ⟨a,d,u⟩:=zg.1 t;rw [uH] at u;obtain ⟨x,G,E⟩:=zg.1 u;have D:=(i a d).short x G;have I:∀(k:List Nd) p,(∀j∈k,j.1.size<=1000000)->∀e∈gW p k,e.1.size<=1000000:=by
   intro k;induction k with
   |nil=>intro p _ e hu;simp [gW] at hu
   |cons j r ih=>
    intro p n e hu;rw [gW] at hu;rcases List.mem_append.1 hu with hu|hu
    ·unfold lY at hu;split at hu
     ·simp at hu
     ·simp at hu;subst hu;exact n j (List.mem_cons_self ..)
    ·exact ih _ (λQ H=>n Q (List.mem_cons_of_mem _ H)) e hu
  exact I x.2 0 D e E
theorem aOy(a:ByteArray)(w:World)(f4:a.size<=140737488355328):Calls zr 18 #[.string a] w λd e7=>RdQ a w d e7:=by
 by_cases d2:3000<a.size
 ·have d5:(3000:Int)<(a.size:Int):=by omega
  go_enter zd,zi;go_wp2;go_returns;exact ⟨_,[],0,1,rfl,zc ⟨d2,rfl,rfl,rfl⟩,lC.nil _ _,Below.refl _ _⟩
 ·have d5:¬(3000:Int)<(a.size:Int):=by omega
  have j:a.size<=3000:=by omega
  have d6:(dD a 0).length<=3002:=by have:=aLh a (a.size+1) 0;show (eE (cD a (a.size+1) 0)).length<=3002;unfold eE;split<;>simp<;>omega
  have D:=aA (bEn a w j);have x:=(aBb a (by omega)).small;have b0:=aEj a (by omega);have b3:=aBb a (by omega);have l:=aA (λC N G (H:sT w.heap.size C N a (dD a 0) ⟨0,[],[]⟩ G (.slice none 0 0) (.slice none 0 0) []) (d3:w.heap.size<=C.heap.size)=>aRx (λe0=>aSu a 0 e0) x j (by omega) (λA g3 e9 b d7=>by have:=aHx b0 b3 b d7;omega) H d3 (zs _) (zs _));have m:aM (uX a=iC (dD a 0) ((dD a 0).length+1) ⟨0,[],[]⟩ []):=aA rfl;clear x b0 b3;cases b:iC (dD a 0) ((dD a 0).length+1) ⟨0,[],[]⟩ [] with
  |error p=>
   rw [List.map_nil,b] at l;rw [b] at m;clear b;go_enter zd,zi;go_wp2_with (first
    |(go_at_call 24;refine (l.o _ _ _ t.o g.o.size).mono ?_;rintro d O ⟨q,f6,e4,e6,e5,rfl,a8,a9⟩;obtain ⟨e1,a2,_⟩:=a8.box;have c9:=a2.c2;rw [a9] at c9;have n:=aA (g.o.trans q);clear q a8 a9 a2)
    |(go_at_call 23;refine (aD D).mono ?_;rintro d C ⟨N,G,rfl,o,s⟩;have g:=aA o;have t:=aA s;clear o s)
    |go_in)
   go_quiet (fail);go_wp2;go_returns;refine ⟨_,[],p,2,rfl,zh ⟨j,?_⟩,lC.nil _ _,bK n.o (aU ⟨_,rfl⟩)⟩;rw [m.o];exact ⟨rfl,rfl,rfl⟩
  |ok y=>
   obtain ⟨A,c8⟩:=y;rw [List.map_nil,b] at l;rw [b] at m;have S:=aA (λ(I:0<(dD a 0).length) (c:List Pc) (u:c.map jK=c8)=>bEs j b I d6 u);clear b;go_enter zd,zi;go_upto_region 6 with (first
    |(go_at_call 24;refine (l.o _ _ _ t.o g.o.size).mono ?_;rintro d O ⟨q,e4,e6,c,rfl,b1,u⟩;have n:=aA (g.o.trans q);have i:=aA b1;have R:=aA u;clear q b1 u)
    |(go_at_call 23;refine (aD D).mono ?_;rintro d C ⟨N,G,rfl,o,s⟩;have g:=aA o;have t:=aA s;clear o s)
    |go_in)
   clear D l;obtain ⟨e5,L⟩:=i.o.pp;obtain ⟨e1,J,f3⟩:=L.box;have F:=J.c4;have X:=J.c5;obtain ⟨z,M,b5,f7,f8,b6,b7⟩:=S.o (Nat.lt_of_le_of_lt (zs _) L.lt) c R.o;have Q:=aA (aS3 i.o.cs F M (by omega) (by rw [z];simp;omega));have P:=aA (λwx (x:aB O wx)=>aSb (i.o.cs.below x) M b5 (by omega));obtain ⟨g6,g7,d9⟩:=bA i.o.cs.row;obtain ⟨f9,g0,d8⟩:=bA i.o.pz;have U:=aA i.o.pz;subst d9;subst d8;have c4:aM (fJ c=A.pz.map jO):=aA z;have c2:=aA b6;have d4:(fJ c).length<=1000000:=by rw [z];simp;omega
   have Y:∀k (H:k<(fJ c).length),(fJ c)[k].1.size<=140737488355328:=λk H=>zl (b7 _ (zv _)) (by omega)
   have c5:=aA Y;have b4:=n.o.size;clear z M b5 b6 b7 Y S J L t g;go_upto_region 7 with (first
    |(go_at_call 25;refine (aY6 e2 e3 (fJ c) e8 c3.o).mono ?_;rintro d g8 ⟨g2,rfl,f,a0⟩;have V:=aA f;have e:=aA (bK b8.o a0);clear f a0)
    |(go_at_call 26;refine (aD Q).mono ?_;rintro d e8 ⟨g4,rfl,a6,Z⟩;obtain ⟨e2,e3,rfl,b2⟩:=aXu a6 d4 c5.o;have c3:=aA b2;have b8:=aA Z;clear a6 Z b2)
    |go_in)
   have f5:=e.o.size;have f0:=aC e.o F;have f1:=aC e.o X;have f:=V.o;rw [c4.o] at f;clear V Q F X;rcases bEp f with ⟨rfl,r⟩|⟨k,a4,rfl,r⟩
   ·have E:=aA r;clear f r;go_wp2_with (first
     |(go_at_call 27;refine (P.o _ e.o).mono ?_;rintro d g9 ⟨g5,c6,c7,d0,rfl,a5,a7,a1⟩;have c0:=aA a5;have c1:=aA a7;have b9:=aA a1;clear a5 a7 a1)
     |go_in)
    go_returns;refine ⟨_,c6,c7,d0,rfl,zh ⟨j,?_⟩,c1.o.mono (by omega),n.o.trans ((e.o.mono b4).trans (b9.o.mono (by omega)))⟩;rw [m.o];refine ⟨-1,E.o,zh ⟨by omega,?_⟩⟩;rw [<-R.o];exact c0.o
   ·have E:=aA r;have I:=c2.o _ (zv a4);obtain ⟨d1,f2,a3⟩:=wU U.o (by omega);simp at a3;obtain ⟨rfl,rfl⟩:=a3;have W:O.cell? ⟨d1,k,none⟩=some (.int .i64 A.pz[k].2.2.2):=by rw [U.o.cellAt _ (by omega),bEq _ k a4]
    have g1:=aC e.o W;clear f r P W;generalize A.pz[k].2.2.2=pk at *;go_wp2;go_quiet (fail);go_wp2;go_returns;refine ⟨_,[],pk,3,rfl,zh ⟨j,?_⟩,lC.nil _ _,(n.o.trans (e.o.mono b4)).trans ((aU ⟨_,rfl⟩).mono (by omega))⟩;rw [m.o];exact ⟨pk,E.o,zc ⟨I,rfl,rfl,rfl⟩⟩
def eJ(s:ByteArray)(q:Nat)(x:ByteArray):Prop:=∃a B,s=a++x++B/\a.size=q
section
variable {s x y:ByteArray}{q q' q'':Nat}
theorem eJ.left(a:eJ s q (x++y)):eJ s q x:=by obtain ⟨b,B,rfl,a⟩:=a;exact ⟨b,y++B,by simp [ByteArray.append_assoc],a⟩
theorem eJ.right(a:eJ s q (x++y)):eJ s (q+x.size) y:=by obtain ⟨b,B,rfl,a⟩:=a;exact ⟨b++x,B,by simp [ByteArray.append_assoc],by rw [ByteArray.size_append,a]⟩
theorem eJ.le(a:eJ s q x):q+x.size<=s.size:=by obtain ⟨b,B,rfl,a⟩:=a;simp only [ByteArray.size_append];omega
theorem aOz(s:ByteArray)(a:Nat):aF s a=((s.data.toList[a]?).map UInt8.toNat).getD 0:=by
 unfold aF;split
 ·rename_i b;have:a<s.data.toList.length:=by simpa using b
  rw [zw this];simp;rfl
 ·rename_i b;have:s.data.toList.length<=a:=by simpa using b
  rw [List.getElem?_eq_none this];rfl
theorem eJ.data(b:eJ s q x)(a:Nat)(d:a<x.size):s.data.toList[q+a]?=x.data.toList[a]?:=by
 obtain ⟨c,B,rfl,b⟩:=b;have e:c.data.toList.length=q:=by simpa using b
 have f:a<x.data.toList.length:=by simpa using d
 simp only [ByteArray.data_append,Array.toList_append];rw [zx,List.getElem?_append_right (by omega),List.getElem?_append_left (by omega)];congr 1
 omega
theorem eJ.byte(b:eJ s q x)(a:Nat)(c:a<x.size):aF s (q+a)=aF x a:=by rw [aOz,aOz,b.data a c]
theorem eJ.cut(d:eJ s q x)(a b:Nat)(e:a+b<=x.size):s.extract (q+a) (q+a+b)=x.extract a (a+b):=by
 obtain ⟨c,B,rfl,d⟩:=d;refine ByteArray.ext (Array.toList_inj.1 ?_);have f:c.data.toList.length=q:=by simpa using d
 have g:a+b<=x.data.toList.length:=by simpa using e
 simp only [ByteArray.data_extract,Array.toList_extract,ByteArray.data_append,Array.toList_append,List.extract_eq_take_drop];rw [zx,zf,zf];rw [List.drop_eq_nil_of_le (show c.data.toList.length<=q+a by omega),List.nil_append,show q+a-c.data.toList.length=a by omega,List.take_append,show q+a+b-(q+a)-(List.drop a x.data.toList).length=0 by rw [ze];omega];simp
def eK:ByteArray:=⟨#[]⟩
def kt(a:Tk):Nat×ByteArray:=(a.kind,a.txt)
def iO(s:ByteArray)(q q':Nat)(b:List (Nat×ByteArray)):Prop:=∃a:List Tk,a.map kt=b/\dD s q=a++dD s q'
theorem iO.trans{a b:List (Nat×ByteArray)}(c:iO s q q' a)(d:iO s q' q'' b):iO s q q'' (a++b):=by obtain ⟨g,rfl,e⟩:=c;obtain ⟨i,rfl,f⟩:=d;exact ⟨g++i,by simp,by rw [e,f,zx]⟩
theorem zT:iO s q q []:=⟨[],rfl,rfl⟩
theorem aGi{f:Nat}(b:q<=s.size)(a:s.size<q+(f+1)):dD s q=eE (cD s (f+1) q):=(uI b a).symm
theorem aGj(a:q<s.size)(b:lF (aF s q)=true):iO s q (q+1) []:=by refine ⟨[],rfl,?_⟩;rw [aGi (f:=s.size) (by omega) (by omega),cD,aH a,aH b,uI (by omega) (by omega)];rfl
theorem aCa{b:Tk}{a:Nat}(c:q<s.size)(g:lF (aF s q)=false)(d:aF s q≠37)(i:dK s q=.tok b a)(e:a<=s.size)(j:q<a):iO s q a [kt b]:=by refine ⟨[b],rfl,?_⟩;rw [aGi (f:=s.size) (by omega) (by omega),cD,aH c,aI (by rw [g];decide),aI d,i,<-uI e (show s.size<a+s.size by omega)];rfl
theorem bEt:dD s s.size=[⟨101,⟨#[]⟩,s.size⟩]:=by rw [aGi (f:=s.size) (zz _) (by omega),cD,aI (by omega)];rfl
theorem xH{c:Nat}(e:q<s.size)(a:aF s q=c)(d:mV c=true):iO s q (q+1) [(c,eK)]:=by
 have b:c=124\/c=126\/c=40\/c=41\/c=44\/c=46:=by unfold mV at d;simpa [or_assoc] using d
 have f:dK s q=.tok ⟨c,⟨#[]⟩,q⟩ (q+1):=by unfold dK;rw [a];rcases b with rfl|rfl|rfl|rfl|rfl|rfl<;>simp [eP,dR,mV]
 exact aCa e (by rw [a];rcases b with rfl|rfl|rfl|rfl|rfl|rfl<;>rfl) (by rw [a];rcases b with rfl|rfl|rfl|rfl|rfl|rfl<;>decide) f (by omega) (by omega)
theorem aCb{c:Nat}(g:q+1<s.size)(a:aF s q=c)(b:(eP c || dR c)=true)(d:eU (aF s (q+1))=false):iO s q (q+1) [(if dR c then 118 else 110,s.extract q (q+1))]:=by
 have e:eC s q=q+1:=by rw [yN (by omega) (by rw [a];unfold eU;rw [b];rfl),aL6 (by rw [d];simp)]
 have f:dK s q=.tok ⟨if dR c then 118 else 110,s.extract q (q+1),q⟩ (q+1):=by unfold dK;rw [a,aH b,e,aI (by omega)]
 have i:65<=c/\c<=122:=by simp [eP,dR] at b;omega
 exact aCa (by omega) (by rw [a];unfold lF;simp;omega) (by rw [a];omega) f (by omega) (by omega)
theorem bEu(a:eJ s q ⟨#[36,102,97,108,115,101]⟩):iO s q (q+6) [(102,eK)]:=by
 have c:q+6<=s.size:=a.le;have b:aF s q=36:=a.byte 0 (by decide);have e:s.extract q (q+6)=⟨#[36,102,97,108,115,101]⟩:=a.cut 0 6 (by decide);have d:dK s q=.tok ⟨102,⟨#[]⟩,q⟩ (q+6):=by unfold dK;rw [b,aI (by decide),aI (by decide),aH rfl,aH ⟨c,e⟩]
 exact aCa (by omega) (by rw [b];rfl) (by rw [b];decide) d (by omega) (by omega)
end
abbrev TT:=Nat×ByteArray
def At(T:List Tk)(a:Nat)(b:List TT):Prop:=(T.drop a).map kt=b
theorem At.hd{b:Nat}{a:TT}{d:List TT}(c:At T b (a::d)):(aJ T b).kind=a.1/\(aJ T b).txt=a.2/\At T (b+1) d:=by
 unfold At at c ⊢;cases hd:T.drop b with
 |nil=>rw [hd] at c;simp at c
 |cons t u=>
  rw [hd] at c;simp only [List.map_cons,List.cons.injEq] at c;have e:T[b]?=some t:=by
   have:(T.drop b)[0]?=some t:=by rw [hd];rfl
   simpa using this
  have f:aJ T b=t:=by unfold aJ;rw [List.getD_eq_getElem?_getD,e];rfl
  have g:T.drop (b+1)=u:=by rw [<-List.drop_drop,hd];rfl
  rw [f,g,<-c.1];exact ⟨rfl,rfl,c.2⟩
theorem At.len{c:Nat}{b:List TT}(a:At T c b):b.length<=T.length:=by unfold At at a;rw [<-a,List.length_map,ze];omega
structure Lk where
 neg:Bool
 nm:ByteArray
 ts:List TT
def oF(b:List ByteArray)(a:TT):List ByteArray:=if a.1=118 then kO b a.2 else b
def qJ(b:List ByteArray)(a:TT):Nd:=if a.1=118 then (⟨#[]⟩,kC b a.2) else (a.2,0)
def nE(b:List ByteArray)(a:List TT):List ByteArray:=a.foldl oF b
def rD:List ByteArray->List TT->List Nd
 |_,[]=>[]
 |vs,t::r=>qJ vs t::rD (oF vs t) r
theorem aP0:∀(a:List TT) (b:List ByteArray),(rD b a).length=a.length
 |[],_=>rfl
 |t::r,b=>by simp [rD,aP0 r]
def vK:List TT->List TT
 |[]=>[]
 |[t]=>[t,(41,eK)]
 |t::u::r=>t::(44,eK)::vK (u::r)
def sN(a:Lk):List TT:=(110,a.nm)::(match a.ts with|[]=>[]|t::r=>(40,eK)::vK (t::r))
def xI(b:List ByteArray)(a:Lk):List Nd:=(a.nm,(a.ts.length:Int))::rD b a.ts
def oG(a:Lk):List TT:=(if a.neg then [(126,eK)] else [])++sN a
def jV:List Lk->List TT
 |[]=>[]
 |[x]=>oG x
 |x::y::r=>oG x++(124,eK)::jV (y::r)
def fN:List ByteArray->List Lk->List Lt
 |_,[]=>[]
 |vs,x::r=>(x.neg,xI vs x)::fN (nE vs x.ts) r
def pH(a:List Lk):List TT:=(match a with|[]=>[(102,eK)]|x::r=>jV (x::r))++[(46,eK)]
def rE(a:List (List Lk)):List TT:=a.flatMap pH++[(101,eK)]
def tT(b:List TT):Prop:=∀a∈b,a.1=118\/a.1=110
theorem aP1{f:Nat}{st:bE}{l:List Nd}{a d:TT}{m:List TT}(ht:a.1=118\/a.1=110)(e:At T st.i (a::d::m))(j:d.1≠40):∃k,cJ T (f+1) false st l=.ok (⟨st.i+1,oF st.vars a,k⟩,l++[qJ st.vars a]):=by
 obtain ⟨b,c,g⟩:=e.hd;obtain ⟨i,_,_⟩:=g.hd;rw [cJ];rcases ht with ht|ht
 ·rw [aH ⟨by rw [b,ht],rfl⟩];exact ⟨st.pz,by simp [oF,qJ,ht,c]⟩
 ·rw [aI (by rw [b,ht];simp),aI (by rw [b,ht];simp),aI (by rw [i];exact j),c];exact ⟨_,by simp only [oF,qJ,ht];rfl⟩
theorem aP2{T:List Tk}:∀(b:List TT) (f:Nat) (st:bE) (l:List Nd) (c:Nat) (a:List TT),tT b->b≠[]->b.length<f->At T (st.i+1) (vK b++a)->∃i g,dT T f st l c=.ok (⟨g,nE st.vars b,i⟩,l++rD st.vars b,c+b.length)/\At T g a
 |[],f,st,l,c,a,_,h,_,_=>absurd rfl h
 |[t],f,st,l,c,a,hk,_,hf,h=>by
  obtain ⟨f,rfl⟩ : ∃j,f=j+2:=⟨f-2,by simp at hf;omega⟩;have d:At T (st.i+1) (t::(41,eK)::a):=h;obtain ⟨i,n⟩:=aP1 (f:=f) (st:=⟨st.i+1,st.vars,st.pz⟩) (l:=l) (hk t (by simp)) d (by simp);obtain ⟨_,_,k⟩:=d.hd;obtain ⟨e,_,m⟩:=k.hd;rw [dT,n];simp only;rw [aI (by rw [e];simp),aH e];exact ⟨_,_,rfl,m⟩
 |t::u::r,f,st,l,c,a,hk,_,hf,h=>by
  obtain ⟨f,rfl⟩ : ∃j,f=j+2:=⟨f-2,by simp at hf;omega⟩;have d:At T (st.i+1) (t::(44,eK)::(vK (u::r)++a)):=h;obtain ⟨i,n⟩:=aP1 (f:=f) (st:=⟨st.i+1,st.vars,st.pz⟩) (l:=l) (hk t (by simp)) d (by simp);obtain ⟨_,_,k⟩:=d.hd;obtain ⟨e,_,m⟩:=k.hd;rw [dT,n];simp only;rw [aH e];obtain ⟨s,g,o,p⟩:=aP2 (u::r) (f+1) ⟨st.i+1+1,oF st.vars t,i⟩ (l++[qJ st.vars t]) (c+1) a (λx q=>hk x (by simp [q])) (by simp) (by simp at hf ⊢;omega) m;refine ⟨s,g,?_,p⟩;rw [o];simp [nE,rD];omega
def aGk(c:List TT):Prop:=∃a b,c=a::b/\a.1≠40
theorem bEv{b:Nat}{st:bE}{c:Lk}{e:List TT}(u:tT c.ts)(s:c.ts.length+1<b)(l:At T st.i (sN c++e))(x:aGk e):∃j d,cJ T b true st []=.ok (⟨d,nE st.vars c.ts,j⟩,xI st.vars c)/\At T d e:=by
 obtain ⟨b,rfl⟩ : ∃p,b=p+1:=⟨b-1,by omega⟩;obtain ⟨A,i,z⟩:=c;unfold sN at l;obtain ⟨m,n,f⟩:=At.hd (a:=(110,i)) l;simp only at m n;rw [cJ,aI (by simp),aI (by rw [m];simp),n];cases z with
 |nil=>
  obtain ⟨C,k,rfl,y⟩:=x;obtain ⟨g,_,_⟩:=f.hd;rw [aI (by rw [g];exact y)];exact ⟨_,_,rfl,f⟩
 |cons t k=>
  obtain ⟨g,_,q⟩:=At.hd (a:=(40,eK)) f;rw [aH g];obtain ⟨j,d,o,r⟩:=aP2 (t::k) b ⟨st.i+1,st.vars,st.pz++[(i,true,0,((aJ T st.i).pos:Int))]⟩ ([]++[(i,0)]) 0 e u (by simp) (by simp at s ⊢;omega) q;rw [o];refine ⟨pW j st.pz.length (0+(t::k).length),d,?_,r⟩;simp [dS,xI,List.modify]
theorem aP3{a:TT}{b:List TT}(c:a.1≠40):aGk (a::b):=⟨a,b,rfl,c⟩
theorem aP4(e:Lk):e.ts.length<(sN e).length:=by
 have:∀b:List TT,b.length<=(vK b).length:=by
  intro b;induction b with
  |nil=>simp
  |cons d a ih=>
   cases a with
   |nil=>simp [vK]
   |cons u a=>simp [vK] at ih ⊢;omega
 unfold sN;split
 ·rename_i c;simp [c]
 ·rename_i d a c;have:=this (d::a);rw [c];simp at this ⊢;omega
theorem aP5{T:List Tk}:∀(g:List Lk) (e:Nat) (b:bE) (i:List Lt) (d:List TT),(∀x∈g,tT x.ts)->g≠[]->g.length<=e->At T b.i (jV g++(46,eK)::d)->∃l,fV T e b i=.ok (l,i++fN b.vars g)/\At T l.i ((46,eK)::d)
 |[],e,b,i,d,_,h,_,_=>absurd rfl h
 |x::r,e,b,i,d,hk,_,hf,h=>by
  obtain ⟨e,rfl⟩ : ∃s,e=s+1:=⟨e-1,by simp at hf;omega⟩;obtain ⟨f,E,A,F⟩ : ∃f,jV (x::r)++(46,eK)::d=oG x++f/\aGk f/\((r=[]/\f=(46,eK)::d)\/(r≠[]/\f=(124,eK)::(jV r++(46,eK)::d))):=by
   cases r with
   |nil=>exact ⟨_,rfl,aP3 (by simp),zc ⟨rfl,rfl⟩⟩
   |cons n r=>exact ⟨(124,eK)::(jV (n::r)++(46,eK)::d),by simp [jV],aP3 (by simp),zh ⟨by simp,rfl⟩⟩
  rw [E] at h;have u:x.ts.length+1<T.length+1:=by have c:=h.len;have j:=aP4 x;unfold oG at c;simp only [List.length_append] at c;omega
  obtain ⟨k,D,y,z⟩ : ∃k,(if (aJ T b.i).kind=126 then b.i+1 else b.i)=k/\decide ((aJ T b.i).kind=126)=x.neg/\At T k (sN x++f):=by
   unfold oG at h;cases hn:x.neg with
   |true=>
    rw [hn] at h;obtain ⟨c,_,j⟩:=At.hd (a:=(126,eK)) h;simp only at c;exact ⟨b.i+1,by rw [aH c],by simp [c],j⟩
   |false=>
    rw [hn] at h;have o:At T b.i (sN x++f):=h;unfold sN at o;obtain ⟨c,_,_⟩:=At.hd (a:=(110,x.nm)) o;simp only at c;exact ⟨b.i,by rw [aI (by rw [c];simp)],by simp [c],h⟩
  obtain ⟨I,H,p,m⟩:=bEv (st:=⟨k,b.vars,b.pz⟩) (hk x (by simp)) u z A;rw [fV,D,p,y];simp only;rcases F with ⟨rfl,rfl⟩|⟨C,rfl⟩
  ·obtain ⟨c,_,_⟩:=m.hd;rw [aI (by rw [c];simp)];exact ⟨_,rfl,m⟩
  ·obtain ⟨c,_,j⟩:=m.hd;rw [aH c];obtain ⟨l,q,t⟩:=aP5 r e ⟨H+1,nE b.vars x.ts,I⟩ (i++[(x.neg,xI b.vars x)]) d (λn G=>hk n (by simp [G])) C (by simp at hf;omega) j;refine ⟨l,?_,t⟩;rw [q];simp [fN]
theorem bEw{e:List Lk}{f:bE}{i:List TT}(s:∀b∈e,tT b.ts)(t:e.length<=T.length+1)(d:At T f.i (pH e++i)):∃m,kP T f=.ok (m,fN [] e)/\At T m.i i:=by
 unfold pH at d;cases e with
 |nil=>
  obtain ⟨j,_,k⟩:=At.hd (a:=(102,eK)) d;obtain ⟨l,_,p⟩:=At.hd (a:=(46,eK)) k;rw [kP,lG,aH j];simp only;rw [aH l];exact ⟨_,rfl,p⟩
 |cons b r=>
  rw [zx] at d;have o:(aJ T f.i).kind≠102:=by
   have:∃a g,jV (b::r)++([(46,eK)]++i)=a::g/\a.1≠102:=by
    have u:∃a g,oG b=a::g/\a.1≠102:=by
     unfold oG;cases b.neg with
     |true=>exact ⟨_,_,rfl,by simp⟩
     |false=>exact ⟨(110,b.nm),_,rfl,by simp⟩
    obtain ⟨a,g,c,n⟩:=u;cases r with
    |nil=>exact ⟨a,_,by simp only [jV,c,zu];rfl,n⟩
    |cons y r=>exact ⟨a,_,by simp only [jV,c,zu];rfl,n⟩
   obtain ⟨a,g,c,q⟩:=this;rw [c] at d;rw [d.hd.1];exact q
  obtain ⟨m,c,j⟩:=aP5 (b::r) (T.length+1) ⟨f.i,[],f.pz⟩ [] i s (by simp) t d;rw [kP,lG,aI o,c];simp only;obtain ⟨k,_,l⟩:=j.hd;rw [aH k];exact ⟨_,rfl,l⟩
theorem aP6{T:List Tk}:∀(i:List (List Lk)) (b:Nat) (c:bE) (d:List (Nat×List Lt)),(∀L∈i,L.length<=T.length+1/\∀f∈L,tT f.ts)->i.length<b->At T c.i (rE i)->∃n g,iC T b c d=.ok (n,d++g)/\g.map Prod.snd=i.map (fN [])
 |[],b,c,d,_,hf,h=>by
  obtain ⟨b,rfl⟩ : ∃k,b=k+1:=⟨b-1,by simp at hf;omega⟩;obtain ⟨m,_,_⟩:=At.hd (a:=(101,eK)) h;rw [iC,aH m];exact ⟨c,[],by simp,rfl⟩
 |L::r,b,c,d,hk,hf,h=>by
  obtain ⟨b,rfl⟩ : ∃k,b=k+1:=⟨b-1,by simp at hf;omega⟩;have l:At T c.i (pH L++rE r):=by unfold rE at h ⊢;rw [zq,zx] at h;exact h
  have t:(aJ T c.i).kind≠101:=by
   have:∃a e,pH L++rE r=a::e/\a.1≠101:=by
    unfold pH;cases L with
    |nil=>exact ⟨(102,eK),_,rfl,by simp⟩
    |cons f r=>
     have A:∃a e,oG f=a::e/\a.1≠101:=by
      unfold oG;cases f.neg with
      |true=>exact ⟨_,_,rfl,by simp⟩
      |false=>exact ⟨(110,f.nm),_,rfl,by simp⟩
     obtain ⟨a,e,j,o⟩:=A;cases r with
     |nil=>exact ⟨a,_,by simp only [jV,j,zu];rfl,o⟩
     |cons y r=>exact ⟨a,_,by simp only [jV,j,zu];rfl,o⟩
   obtain ⟨a,e,j,z⟩:=this;rw [j] at l;rw [l.hd.1];exact z
  obtain ⟨C,q,m⟩:=bEw (hk L (by simp)).2 (hk L (by simp)).1 l;obtain ⟨n,g,s,u⟩:=aP6 r b C (d++[((aJ T c.i).pos,fN [] L)]) (λp x=>hk p (by simp [x])) (by simp at hf;omega) m;rw [iC,aI t,q];simp only;rw [s];exact ⟨n,((aJ T c.i).pos,fN [] L)::g,by simp,by simp [u]⟩
