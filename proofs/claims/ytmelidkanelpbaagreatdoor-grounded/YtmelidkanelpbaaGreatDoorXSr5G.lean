import Derived.Test.YtmelidkanelpbaaGreatDoorXSr2G
import Derived.ArgAppend
import Derived.Deep.AppendLies
import Derived.Lib.AppendZeros
open List renaming filter_cons_of_pos→zw,filter_cons_of_neg→zv,getElem_mem→zs,mem_append→zq,filter_append→zp,take_succ_eq_append_getElem→zm,filter_nil→zl,getElem?_eq_getElem→zi,take_of_length_le→zg,mem_filter→zf,length_take_le→zb,length_append→za,range→z0
open Nat renaming le_refl→zz,le_trans→zu,lt_of_lt_of_le→zj,zero_le→zd
open Or renaming inr→zn,inl→zk
open Prod renaming fst→zr
namespace Go.Proofs.YtmelidkanelpbaaGreatDoor
open _root_.Go.Proofs.Tryz renaming underlying51→zx,prog→zo
open World renaming cell?_of_block→zy,ownsRow_nil→zt,block_lt_of_cell?→zh,alloc_heap_new→ze
open Go.RowKit Go.Shelf Go.WideMaps
set_option maxHeartbeats 4000000
set_option maxRecDepth 100000
variable{G R c:List Lt}{c0:Lt}{B b b0 cap o:Nat}{gk:Option Nat}{av gv v:Value}{w w1 wi wr wx:World}
theorem bDw(B:Nat)(w:World)(e:B<=w.heap.size):Calls zo 28 #[.func (.func 29) #[] #[]] w λd a=>d=.returned (.pointer (some ⟨w.heap.size,0,none⟩))/\cG B a w.heap.size (.slice none 0 0) []/\aB w a:=by
 go_enter Tryz.func28,Tryz.ntmps28;go_wp2;go_ret;exact ⟨rfl,⟨ze w _,zt _ _ _ _,e⟩,(Below.refl _ w).alloc (zz _) _⟩
theorem bDx(B d k:Nat)(v p n:Value)(e:List Cd)(m:Nat)(f:List (aL×Value))(l:List Nat)(w:World)(a:bM B w d k v p n e m f l false):Calls zo 32 #[.pointer (some ⟨d,0,none⟩)] w λj q=>j=.returned (.bool true)/\aB w q:=by
 obtain ⟨_,_,_,_,i⟩:=a.cells;have r:=λg=>aC ((Below.refl w.heap.size w).alloc (zz _) g) i
 clear a;go_enter Tryz.func32,Tryz.ntmps32;go_wp2;go_returns;exact ⟨rfl,(Below.refl _ w).alloc (zz _) _⟩
theorem bDy(B d r:Nat)(v u:Value)(l:List Cd)(t:Nat)(m:List (aL×Value))(s:List Nat)(g:Bool)(i:Option Addr)(a j:Nat)(w:World)(k:bM B w d r v (.slice i a j) u l t m s g)(z:1<=a)(A:a<=1000000):Calls zo 20 #[.pointer (some ⟨d,0,none⟩),.int .i64 1] w λq e=>q=.returned (.agg #[.int .i64 1,.slice i a j,.slice none 0 0,.int .i64 ((a-1:Nat):Int),.bool g])/\aB w e:=by
 obtain ⟨_,_,n,_,p⟩:=k.cells;have x:=λf=>aC ((Below.refl w.heap.size w).alloc (zz _) f) n
 have y:=λf=>aC ((Below.refl w.heap.size w).alloc (zz _) f) p
 have C:IntKind.i64.wrap ((a:Int)-1)=(a:Int)-1:=by rw [IntKind.wrap_i64];omega
 clear k;go_enter Tryz.func20,Tryz.ntmps20;go_wp2_with fail;go_region_held3 (λe=>e.cell? ⟨d,2,none⟩=some (.slice i a j)/\e.cell? ⟨d,4,none⟩=some (.bool g)) (go_keep) (fail);all_goals
  go_wp2_with fail;go_returns;refine ⟨by rw [show ((a-1:Nat):Int)=(a:Int)-1 by omega],?_⟩;exact (((Below.refl _ w).alloc (zz _) _).alloc (by simp) _).trans (Below.mono (aR ⟨1,rfl⟩) (by simp;omega))
theorem bDz(B d x:Nat)(v:Value)(p:List Cd)(z:Nat)(q:List (aL×Value))(y:List Nat)(g:Bool)(l i:Option Addr)(f m k j:Nat)(w:World)(n:bM B w d x v (.slice l f m) (.slice i k j) p z q y g):Calls zo 20 #[.pointer (some ⟨d,0,none⟩),.int .i64 2] w λu e=>u=.returned (.agg #[.int .i64 2,.slice l f m,.slice i k j,.int .i64 f,.bool g])/\aB w e:=by
 obtain ⟨_,_,r,s,t⟩:=n.cells;have A:=λa=>aC ((Below.refl w.heap.size w).alloc (zz _) a) r
 have C:=λa=>aC ((Below.refl w.heap.size w).alloc (zz _) a) s
 have D:=λa=>aC ((Below.refl w.heap.size w).alloc (zz _) a) t
 clear n;go_enter Tryz.func20,Tryz.ntmps20;go_wp2_with fail;go_region_held3 (λe=>e.cell? ⟨d,2,none⟩=some (.slice l f m)/\e.cell? ⟨d,3,none⟩=some (.slice i k j)/\e.cell? ⟨d,4,none⟩=some (.bool g)) (go_keep) (fail);all_goals
  go_wp2_with fail;go_returns;refine ⟨rfl,?_⟩;exact (((Below.refl _ w).alloc (zz _) _).alloc (by simp) _).trans (Below.mono (aR ⟨1,rfl⟩) (by simp;omega))
structure sI(B:Nat)(w:World)(v:Value)(P:List (List Lt×Value)):Prop where
 row:w.ownsRow B 51 1 v P.length (P.map Prod.snd)
 cl:∀p∈P,bR B w p.2 p.1
theorem sI.kps{a:List TypeId}{g:World}{d:List (List Lt×Value)}(e:sI B w v d)(f:cN a w g)(i:51∉a)(j:86∉a)(k:117∉a):sI B g v d:=
 ⟨f.row e.row i,λm l=>f.clause (e.cl m l) j k⟩
theorem sI.cell{P:List (List Lt×Value)}(f:sI B w v P){k:Nat}(j:k<P.length):∃g cap a d,v=.slice (some ⟨g,0,none⟩) P.length cap/\P[k].2=.slice a P[k].1.length d/\w.cell? ⟨g,k,none⟩=some (.slice a P[k].1.length d)/\bR B w (.slice a P[k].1.length d) P[k].1:=by
 have i:=f.cl P[k] (zs j);obtain ⟨a,d,e⟩:=i.shape;obtain ⟨n,⟨_,m⟩|⟨g,cap,l,rfl,p,q,r⟩⟩:=f.row
 ·omega
 ·refine ⟨g,cap,a,d,rfl,e,?_,by rw [<-e];exact i⟩;rw [f.row.cellAt k (by omega),List.getElem?_map,zi j,<-e];rfl
def gN(P:List (List Lt)):List (aL×Int):=P.mapIdx λa c=>(⟨1,a,0,0,0,c⟩,0)
theorem bE0(d:List (List Lt))(a:Nat)(e:a<d.length):(gN d).take (a+1)=(gN d).take a++[(⟨1,a,0,0,0,d[a]⟩,0)]:=by rw [List.take_add_one];simp [gN,e]
def xF(B:Nat)(l:World)(j g:Nat)(f:List (List Lt))(i:Nat)(d:World):Prop:=
 ∃k a e,bM B d j g k (.slice none 0 0) (.slice none 0 0) a e [] [] false/\bH ((gN f).take i) [] 0 false a e false/\Mv bS B l d
def bE1(B:Nat)(i:World)(a:List (List Lt))(f:Ending)(e:World):Prop:=
 ∃d g,f=.returned (.pointer (some ⟨d,0,none⟩))/\xF B i d g a a.length e
theorem bE2(B:Nat)(v:Value)(d:List (List Lt×Value))(w:World)(C:sI B w v d)(U:∀a0∈d,aY a0.1=true)(c1:d.length<=1000)(D:B<=w.heap.size):Calls zo 19 #[v] w λq b1=>bE1 B w (d.map zr) q b1:=by
 obtain ⟨c3,c4,rfl⟩:=aZ C.row;have M:=aA (bDw B w D);have a2:=aA C;have a3:=aA U;clear C U;go_enter Tryz.func19,Tryz.ntmps19;go_wp2_with (first
  |(go_at_call 28;refine (aD M).mono ?_;rintro q w1 ⟨rfl,Y,T⟩;have P:=aA Y;have N:=aA T;clear Y T)
  |go_in)
 have E:aB w1 (w1.alloc (.cells #[.pointer (some ⟨w.heap.size,0,none⟩),.int .i64 0,.slice none 0 0,.slice none 0 0,.bool false] 76)):=(Below.refl _ w1).alloc (zz _) _;have Q:bM B (w1.alloc (.cells #[.pointer (some ⟨w.heap.size,0,none⟩),.int .i64 0,.slice none 0 0,.slice none 0 0,.bool false] 76)) w1.heap.size w.heap.size (.slice none 0 0) (.slice none 0 0) (.slice none 0 0) [] 0 [] [] false:=
  ⟨ze w1 _,P.o.below E,⟨zt _ _ _ _,λa0 a6=>by simp at a6⟩,zt _ _ _ _,λc5 a7=>by simp at a7,zu D N.o.size⟩
 have W:Mv bS B w (w1.alloc (.cells #[.pointer (some ⟨w.heap.size,0,none⟩),.int .i64 0,.slice none 0 0,.slice none 0 0,.bool false] 76)):=(Mv.of_below N.o).trans (Mv.of_below E);have z:aM (xF B w w1.heap.size w.heap.size (d.map zr) 0 (w1.alloc (.cells #[.pointer (some ⟨w.heap.size,0,none⟩),.int .i64 0,.slice none 0 0,.slice none 0 0,.bool false] 76))):=aA ⟨_,_,_,Q,by simp [bH],W⟩;clear Q W E M P;go_loopw [11] (λJ wr=>∃a:Nat,J=.int .i64 a/\a<=d.length/\xF B w w1.heap.size w.heap.size (d.map zr) a wr) (λJ _=>d.length-(intOf J).toNat);case atStart=>exact ⟨0,rfl,zd _,z.o⟩
 case round=>
  obtain ⟨a,rfl,b8,a9,e,i,j,k,g⟩:=hrel;by_cases I:a<d.length
  ·obtain ⟨b6,cap,n,p,Z,_,b7,r⟩:=(a2.o.kps g.kps (by decide) (by decide) (by decide)).cell I;simp at Z;obtain ⟨rfl,rfl⟩:=Z;have l:=a3.o _ (zs I);have u:=lF l;have s:bP d[a].1=true:=by
    simp only [aY,Bool.and_eq_true] at l;exact l.1.1
   have H:=bH.len _ k;have V:((gN (d.map zr)).take a).length<=a:=zb _ _;simp at H;have b9:(a:Int)<(d.length:Int):=by omega
   have t:=bE0 (d.map zr) a (by simpa using I);simp only [List.getElem_map] at t;have a5:B<=wr.heap.size:=zu D g.size;have O:aM (∀L m x y,bM B y w1.heap.size w.heap.size L (.slice none 0 0) (.slice none 0 0) m x [] [] false->bH [(⟨1,a,0,0,0,d[a].1⟩,0)] e i false m x false->Mv bS B wr y->xF B w w1.heap.size w.heap.size (d.map zr) (a+1) y):=aA λL m x y b3 b4 b5=>⟨L,m,x,b3,by rw [t];exact bH.snoc _ k b4,g.trans b5⟩
   cases hid:eR d[a].1
   ·have f:=aA (aOo B w1.heap.size w.heap.size a9 _ _ e i [] [] false ⟨1,a,0,0,0,d[a].1⟩ n p wr j r u hid (by omega) (by omega) a5);have A:aM (bH [(⟨1,a,0,0,0,d[a].1⟩,0)] e i false (iJ e.length (e++[eD ⟨1,a,0,0,0,d[a].1⟩ n p i]) e.length) (i+1) false):=aA (by
     unfold bH;rw [aH (by simp [s]),aH (by simp [hid])];exact ⟨n,p,rfl,rfl,rfl⟩)
    unfold qI at f;simp only at f;clear j r u l s H V t g k z;generalize d[a].1.length=cl at *;go_wp2_with (first
     |(go_at_call 30;refine (aD f).mono ?_;rintro q b2 ⟨⟨a8,rfl⟩,c2,S,X⟩;have G:=aA (O.o _ _ _ _ S A.o X);clear S X)
     |go_in)
    go_roundw;case rel=>exact ⟨a+1,by go_num,by omega,G.o⟩
    case measure=>simp [intOf];omega
   ·have f:=aA (aOn B w1.heap.size ⟨1,a,0,0,0,d[a].1⟩ n p wr r u hid);have A:aM (bH [(⟨1,a,0,0,0,d[a].1⟩,0)] e i false e i false):=aA (by
     unfold bH;rw [aH (by simp [s]),aI hid];exact ⟨rfl,rfl,rfl⟩)
    have a4:=aA j;unfold qI at f;simp only at f;clear j r u l s H V t g k z;generalize d[a].1.length=cl at *;go_wp2_with (first
     |(go_at_call 30;refine (aD f).mono ?_;rintro q b2 ⟨⟨a8,rfl⟩,F⟩;have G:=aA (O.o _ _ _ _ (a4.o.below F) A.o (Mv.of_below F));clear F)
     |go_in)
    go_roundw;case rel=>exact ⟨a+1,by go_num,by omega,G.o⟩
    case measure=>simp [intOf];omega
  ·obtain rfl:a=d.length:=by omega
   have a1:aM (xF B w w1.heap.size w.heap.size (d.map zr) d.length wr):=aA ⟨_,_,_,j,k,g⟩;clear j k g;go_wp2;go_ret;exact ⟨_,_,rfl,by simpa using a1.o⟩
def rB(w:World)(B:Nat)(v:Value)(a:List Nd):Prop:=∃d cap,v=.slice d a.length cap/\a.length<=cap/\fV w B d a
def jH(w:World)(B b0:Nat)(wr:World)(v:Value)(G:List Lt):Prop:=∃a:List (Lt×Value),a.map zr=G/\wr.ownsRow b0 86 2 v a.length (bF a)/\∀d∈a,rB w B d.2 d.1.2
theorem jH.nil(w:World)(B b0:Nat)(wr:World):jH w B b0 wr (.slice none 0 0) []:=⟨[],rfl,zt _ _ _ _,by simp⟩
theorem jH.below(a:jH w B b0 wr v G)(k:aB wr wx):jH w B b0 wx v G:=by obtain ⟨P,d,e,f⟩:=a;exact ⟨P,d,bK e k (zz _),f⟩
theorem jH.kept{a:Option Nat}(e:jH w B b0 wr v G)(k:wr.grownBy wx a)(j:v.ownBlock=none\/v.ownBlock≠a):jH w B b0 wx v G:=by obtain ⟨d,f,g,i⟩:=e;exact ⟨d,f,g.kept k j,i⟩
theorem jH.lt(d:jH w B b0 wr v G):∀a,v.ownBlock=some a->b0<=a/\a<wr.heap.size:=by obtain ⟨P,_,e,_⟩:=d;exact cO e
theorem bE3{g:Nat}{a f:Nat}{m:List Value}(d:w.ownsRow g 86 2 (.slice (some ⟨a,0,none⟩) f cap) f m):lX w B a:=by
 obtain ⟨_,⟨d,_⟩|⟨j,i,q,l,s,k,_⟩⟩:=d
 ·simp at d
 ·obtain ⟨rfl,-⟩ : a=j/\cap=i:=by simpa using l
  refine zn λp n r e=>?_
  rw [k] at e;simp at e;rw [<-e.2.1];exact ⟨by decide,by decide⟩
theorem jH.lits(u:jH w B b0 wr v G)(m:aB w wr)(j:G.length<=8):∃d cap,v=.slice d G.length cap/\G.length<=cap/\dD wr B d G/\∀p,d=some p->v.ownBlock=some p.block:=by
 obtain ⟨P,rfl,i,x⟩:=u;have e:=i;obtain ⟨_,⟨rfl,g⟩|⟨f,cap,C,rfl,D,E,y,F,I,H⟩⟩:=i
 ·exact ⟨none,0,by simp [g],by simp [g],⟨j,λm A=>by simp at A;omega⟩,by simp⟩
 ·refine ⟨some ⟨f,0,none⟩,cap,by simp,by simpa using y,⟨j,λa z=>?_⟩,λp l=>by simp at l;subst l;rfl⟩;have k:a<P.length:=by simpa using z
  obtain ⟨n,q,r,s,t⟩:=x P[a] (zs _);refine ⟨f,0,n,q,rfl,bE3 e,?_,?_,?_,?_⟩
  ·rw [Nat.zero_add,e.cellAt (a*2) (by omega),(xU P a k).1];simp
  ·rw [Nat.zero_add,e.cellAt (a*2+1) (by omega),(xU P a k).2,r];simp
  ·simpa using s
  ·have:=t.fr (Fr.of_below m);simpa using this
def jX(w:World)(B b o:Nat)(c0:Lt)(wr:World)(v:Value)(gk:Option Nat)(G:List Lt):Prop:=
 (v=.slice (some ⟨b,o,none⟩) 1 1/\G=[c0]/\gk=none)\/(jH w B w.heap.size wr v G/\gk=v.ownBlock/\0<G.length)
theorem jX.below(a:jX w B b o c0 wr v gk G)(k:aB wr wx):jX w B b o c0 wx v gk G:=by
 rcases a with a|⟨d,e⟩
 ·exact zk a
 ·exact zn ⟨d.below k,e⟩
theorem jX.kept{e:Option Nat}(d:jX w B b o c0 wr v gk G)(k:wr.grownBy wx e)(j:∀a,e=some a->gk≠some a):jX w B b o c0 wx v gk G:=by
 rcases d with d|⟨g,rfl,i⟩
 ·exact zk d
 ·refine zn ⟨g.kept k ?_,rfl,i⟩;cases hv:v.ownBlock with
  |none=>exact zk rfl
  |some a=>
   right;intro f;exact j a f.symm hv
theorem jX.lt(d:jX w B b o c0 wr v gk G):∀a,gk=some a->w.heap.size<=a/\a<wr.heap.size:=by
 rcases d with ⟨_,_,rfl⟩|⟨e,rfl,_⟩
 ·intro a f;simp at f
 ·exact e.lt
theorem jX.lits(r:0<c.length)(u:dD w B (some ⟨b,o,none⟩) c)(q:jX w B b o c[0] wr v gk G)(l:aB w wr)(t:G.length<=8):∃i j cap,v=.slice (some ⟨i,j,none⟩) G.length cap/\G.length<=cap/\dD wr B (some ⟨i,j,none⟩) G:=by
 rcases q with ⟨rfl,rfl,rfl⟩|⟨d,_,e⟩
 ·refine ⟨b,o,1,rfl,zz _,⟨by simp,λA x=>?_⟩⟩;have y:A=0:=by simpa using x
  subst y;obtain ⟨a,g,m,n,p,z,d,s,e,f⟩:=(u.fr (Fr.of_below l)).cell 0 r;obtain ⟨rfl,rfl⟩ : b=a/\o=g:=by simpa using p
  exact ⟨b,o,m,n,rfl,z,d,s,e,f⟩
 ·obtain ⟨C,cap,rfl,f,k,_⟩:=d.lits l t;obtain ⟨a,g,_,_,rfl,_⟩:=k.cell 0 e;exact ⟨a,g,cap,rfl,f,k⟩
theorem jX.more{a:Value}{x:Lt}{P:List (Lt×Value)}(e:P.map zr=G)(d:∀p∈P,rB w B p.2 p.1.2)(g:rB w B a x.2)
  (f:w1.ownsRow w.heap.size 86 2 v (P.length+1) (bF P++[.bool x.1,a])):jX w B b o c0 w1 v v.ownBlock (G++[x]):=by
 refine zn ⟨⟨P++[(x,a)],by simp [e],by rw [zX,za];exact f,λp hp=>?_⟩,rfl,by simp⟩;rcases zq.1 hp with hp|hp
 ·exact d p hp
 ·simp at hp;subst hp;exact g
theorem jH.more{a:Value}{x:Lt}{P:List (Lt×Value)}(e:P.map zr=G)(d:∀p∈P,rB w B p.2 p.1.2)(g:rB w B a x.2)
  (f:w1.ownsRow b0 86 2 v (P.length+1) (bF P++[.bool x.1,a])):jH w B b0 w1 v (G++[x]):=by
 refine ⟨P++[(x,a)],by simp [e],by rw [zX,za];exact f,λp hp=>?_⟩;rcases zq.1 hp with hp|hp
 ·exact d p hp
 ·simp at hp;subst hp;exact g
structure lR(w wr:World)(B b o:Nat)(c0:Lt)(p:Lt->Bool)(gk:Option Nat)(G R:List Lt)(wi:World)(gv av:Value):Prop where
 grp:∃gk',jX w B b o c0 wi gv gk' (G++R.filter p)/\(∀k,av.ownBlock=some k->gk'≠some k)/\(gk'=gk\/∃k,gk'=some k/\wr.heap.size<=k)
 row:jH w B wr.heap.size wi av (R.filter λy=>!p y)
 rest:∀k,k<wr.heap.size->gk≠some k->wi.heap[k]?=wr.heap[k]?
 size:wr.heap.size<=wi.heap.size
 low:aB w wi
theorem lR.below{p:Lt->Bool}(a:lR w wr B b o c0 p gk G R wi gv av)(k:aB wi wx):lR w wr B b o c0 p gk G R wx gv av:=by obtain ⟨gk',e,f,g⟩:=a.grp;exact ⟨⟨gk',e.below k,f,g⟩,a.row.below k,λj d i=>by rw [k.block j (zj d a.size)];exact a.rest j d i,zu a.size k.size,a.low.trans (k.mono a.low.size)⟩
theorem lR.group{f p:Nat}{y:Lt}{k:Lt->Bool}{gk':Option Nat}(d:lR w wr B b o c0 k gk G R wi gv av)(n:k y=true)
  (l:∀a,av.ownBlock=some a->gk'≠some a) (g:gk'=gk\/∃a,gk'=some a/\wr.heap.size<=a)
  (r:jX w B b o c0 w1 (.slice (some ⟨f,0,none⟩) p cap) (some f) (G++R.filter k++[y])) (j:wi.grownBy w1 gk') (hat:gk'=some f\/wi.heap.size<=f) (q:∀a,gk'=some a->w.heap.size<=a):lR w wr B b o c0 k gk G (R++[y]) w1 (.slice (some ⟨f,0,none⟩) p cap) av:=by
 refine ⟨⟨some f,?_,λa i=>?_,?_⟩,?_,λa i m=>?_,zu d.size j.size,d.low.grown j d.low.size λa e=>q a e⟩
 ·rw [zp,zw n,zl,<-List.append_assoc];exact r
 ·rcases hat with hat|hat
  ·rw [<-hat];exact l a i
  ·have:=(d.row.lt a i).2;simp;omega
 ·rcases hat with hat|hat
  ·rw [<-hat];exact g
  ·exact zn ⟨f,rfl,zu d.size hat⟩
 ·rw [zp,zv (by simp [n]),zl,List.append_nil];refine d.row.kept j ?_;cases hv:av.ownBlock with
  |none=>exact zk rfl
  |some a=>exact zn (λe=>l a hv e.symm)
 ·rw [j.block a (zj i d.size) (λe=>?_)]
  ·exact d.rest a i m
  ·rcases g with g|⟨t,g,s⟩
   ·exact m (by rw [<-g];exact e.symm)
   ·rw [g] at e;simp at e;omega
theorem lR.apart{f m:Nat}{y:Lt}{p:Lt->Bool}(a:lR w wr B b o c0 p gk G R wi gv av)(l:p y=false)
  (s:jH w B wr.heap.size w1 (.slice (some ⟨f,0,none⟩) m cap) ((R.filter λy=>!p y)++[y])) (g:wi.grownBy w1 av.ownBlock) (hat:av.ownBlock=some f\/f=wi.heap.size) (t:w.heap.size<=wr.heap.size):lR w wr B b o c0 p gk G (R++[y]) w1 gv (.slice (some ⟨f,0,none⟩) m cap):=by
 obtain ⟨n,i,j,q⟩:=a.grp;refine ⟨⟨n,?_,λk e=>?_,q⟩,?_,λk e r=>?_,zu a.size g.size,a.low.grown g a.low.size λk d=>zu t (a.row.lt k d).1⟩
 ·rw [zp,zv (by simp [l]),zl,List.append_nil];exact i.kept g j
 ·simp [Value.ownBlock] at e;subst e;rcases hat with hat|hat
  ·exact j _ hat
  ·intro d;have:=(i.lt _ d).2;omega
 ·rw [zp,zw (by simp [l]),zl];exact s
 ·rw [g.block k (zj e a.size) (λd=>?_)]
  ·exact a.rest k e r
  ·have:=(a.row.lt k d.symm).1;omega
theorem lR.start{p:Lt->Bool}(a:jX w B b o c0 wr gv gk G)(d:aB w wr):lR w wr B b o c0 p gk G [] wr gv (.slice none 0 0):=
 ⟨⟨gk,by simpa using a,by simp [Value.ownBlock],zk rfl⟩,jH.nil _ _ _ _,λ_ _ _=>rfl,zz _,d⟩
theorem dD.move{g:Option Addr}(k:dD wr B g R)(p:∀a,a<wr.heap.size->gk≠some a->wi.heap[a]?=wr.heap[a]?)(F:∀q,g=some q->gk≠some q.block)(A:∀a,gk=some a->B<=a):dD wi B g R:=by
 refine ⟨k.few,λa D=>?_⟩;obtain ⟨b,o,s,cap,e,hs,l,x,y,d⟩:=k.cell a D;have f:=p b (zh wr _ l) (F _ e);refine ⟨b,o,s,cap,e,?_,(zy f).trans l,(zy f).trans x,y,⟨⟨d.nodes.few,d.nodes.short,λI C=>?_⟩,d.low⟩⟩
 ·rcases hs with hs|hs
  ·exact zk hs
  ·exact zn λt r u H=>hs t r u (by rw [<-f];exact H)
 ·obtain ⟨i,J,j,m,z⟩:=d.nodes.cell I C;have E:=d.low _ j;have n:=p i (zh wr _ m) (λe=>by have:=A _ e;simp at E;omega);exact ⟨i,J,j,(zy n).trans m,(zy n).trans z⟩
theorem dD.tail(d:dD w B (some ⟨b,o,none⟩) c):dD w B (some ⟨b,o+2,none⟩) c.tail:=by
 refine ⟨by have:=d.few;simp;omega,λa m=>?_⟩;have n:a+1<c.length:=by simp at m;omega
 obtain ⟨f,r,e,cap,g,p,i,j,k,l⟩:=d.cell (a+1) n;obtain ⟨rfl,rfl⟩ : b=f/\o=r:=by simpa using g
 have q:c.tail[a]=c[a+1]:=by simp
 rw [q];exact ⟨b,o+2,e,cap,rfl,p,by rw [show o+2+a*2=o+(a+1)*2 by omega];exact i,by rw [show o+2+a*2+1=o+(a+1)*2+1 by omega];exact j,k,l⟩
theorem bE4{f:Type}(d:f->Bool)(G R c:List f)(g:∀a,a∈c↔a∈G\/a∈R):∀a,a∈c↔a∈G++R.filter d\/a∈R.filter λi=>!d i:=by
 intro a;rw [g a,zq,zf,zf];by_cases e:d a=true
 ·simp [e]
 ·simp [e]
theorem aOt{e:Type}(d:e->Bool)(R:List e):(R.filter d).length+(R.filter λf=>!d f).length=R.length:=by
 induction R with
 |nil=>rfl
 |cons x r ih=>
  by_cases a:d x=true
  ·rw [zw a,zv (by simp [a])];simp;omega
  ·rw [zv a,zw (by simp [a])];simp;omega
def bE5(c G R:List Lt):Prop:=∀a,a∈c↔a∈G\/a∈R
theorem fV.back{d:Option Addr}{g:List Nd}(a:fV wr B d g)(m:aB w wr)(n:B<=w.heap.size):fV w B d g:=
 ⟨⟨a.nodes.few,a.nodes.short,λl k=>by
  obtain ⟨b,o,e,i,j⟩:=a.nodes.cell l k;have p:b<B:=a.low _ e;have f:=m.block b (by omega);exact ⟨b,o,e,(zy f).symm.trans i,(zy f).symm.trans j⟩⟩,a.low⟩
theorem bE6(B f2:Nat)(h0:Value)(i:bG)(w:World)(b o F:Nat)(c:List Lt)(h7:cB w B f2 h0 i)(d7:dD w B (some ⟨b,o,none⟩) c)(q2:c.length<=F)(h3:mP c)(d6:0<c.length)(h2:B<=w.heap.size):Calls zo 99 #[.pointer (some ⟨f2,0,none⟩),.slice (some ⟨b,o,none⟩) c.length F] w λP l=>∃(G R:List Lt) (c8 d0 c9:Nat) (u:Option Addr) (N:Nat),P=.returned (.tuple #[.slice (some ⟨c8,d0,none⟩) G.length c9,.slice u R.length N])/\G.length<=c9/\R.length<=N/\
   dD l B (some ⟨c8,d0,none⟩) G/\dD l B u R/\bE5 c G R/\G.length+R.length=c.length/\0<G.length/\aEn i G R/\aB w l:=by
 have q1:=d7.few;have n2:(1:Int)<=(F:Int):=by omega
 have n3:(1:Int)<=(c.length:Int):=by omega
 have n4:(c.length:Int)<=(F:Int):=by omega
 obtain ⟨p3,n9,j0⟩ : ∃u,(if F=1 then some (⟨b,o,none⟩ : Addr) else some ⟨b,o+2,none⟩)=u/\dD w B u c.tail:=by
  refine ⟨_,rfl,?_⟩;by_cases l9:F=1
  ·have:c.tail=[]:=List.eq_nil_of_length_eq_zero (by simp;omega);rw [this];exact ⟨by simp,λM b4=>by simp at b4⟩
  ·rw [aH l9];exact d7.tail
 have k8:=aA h7;have e5:=aA d7;have g4:=aA h3;have l3:=aA j0;have k2:aM (jX w B b o c[0] w (.slice (some ⟨b,o,none⟩) 1 1) none [c[0]]):=aA (zk ⟨rfl,rfl,rfl⟩);clear h7 d7 h3 j0;obtain ⟨g1,f5,f6,f7,f8⟩:=info_parts tW;go_enter Tryz.func99,Tryz.ntmps99;go_wp2_with fail;go_quiet (fail);go_wp2;have f0:aM (aB w (w.drewN nq)):=aA (aR ⟨_,rfl⟩);clear n9 n2 n3 n4;go_loopw [4,5,6] (λgv p4 g2 wr=>∃(j:Nat) (G R:List Lt) (gk:Option Nat) (u:Option Addr) (N:Nat),j<=G.length/\g2=.int .i64 j/\jX w B b o c[0] wr gv gk G/\p4=.slice u R.length N/\R.length<=N/\dD wr B u R/\(∀q,u=some q->gk≠some q.block)/\aB w wr/\
   (∀e0,e0∈c↔e0∈G\/e0∈R)/\G.length+R.length=c.length/\0<G.length/\(∀g∈G.take j,∀a∈R,g.2.any (eW i a.2)=false)) (λ_ _ g2 _=>c.length-(intOf g2).toNat)
 case atStart=>
  refine ⟨0,[c[0]],c.tail,none,p3,F-1,zd _,rfl,k2.o.below f0.o,?_,by simp;omega,l3.o.fr (Fr.of_below f0.o),by simp,f0.o,?_,by simp;omega,by simp,by simp⟩
  ·simp
  ·intro e0;cases c with
   |nil=>simp at d6
   |cons g r=>simp
 case round=>
  obtain ⟨j,G,R,gk,u,N,q4,rfl,T,rfl,o0,d8,Y,I,b5,n7,m0,b6⟩:=hrel;have m1:G.length<=8:=by omega
  obtain ⟨c8,d0,c9,rfl,m8,f4⟩:=T.lits d6 e5.o I m1;have o5:=I.size;by_cases i8:j<G.length
  ·have n1:(j:Int)<(G.length:Int):=by omega
   obtain ⟨g,L⟩ : ∃g,g=G[j]:=⟨_,rfl⟩;have o7:g∈c:=(b5 g).2 (zk (by rw [L];exact zs _));obtain ⟨j1,o6⟩:=g4.o g o7;have i5:∀M,gk=some M->B<=M:=λM b4=>zu h2 (T.lt M b4).1
   have k6:=aA (lR.start (p:=λa=>g.2.any (eW i a.2)) T I);have g6:=aA L;have e8:=aA d8;have l0:=aA Y;have c4:=aA b5;have l1:=aA b6;have k4:=aA i5;have p7:=aA T.lt;have g3:=aA I;clear L d8 Y b5 b6 i5 T I f4;go_wp2;generalize hWR:wr=W0 at *;clear hWR;go_loopw [4,7,22] (λgv av g0 wi=>∃f:Nat,f<=R.length/\g0=.int .i64 f/\lR w W0 B b o c[0] (λa=>g.2.any (eW i a.2)) gk G (R.take f) wi gv av) (λ_ _ g0 _=>R.length-(intOf g0).toNat);case atStart=>exact ⟨0,zd _,rfl,k6.o⟩
   case round=>
    obtain ⟨f,q3,rfl,s⟩:=hrel;by_cases i6:f<R.length
    ·obtain ⟨f3,J,X,b2⟩:=s.grp;have n8:=aOt (λa=>g.2.any (eW i a.2)) (R.take f);have q7:(R.take f).length<=f:=zb _ _;have h6:(G++(R.take f).filter λa=>g.2.any (eW i a.2)).length<=8:=by simp;omega
     obtain ⟨Q,S,l8,rfl,m9,h5⟩:=J.lits d6 e5.o s.low h6;have n6:j<(G++(R.take f).filter λa=>g.2.any (eW i a.2)).length:=by simp;omega
     have i7:(G++(R.take f).filter λa=>g.2.any (eW i a.2))[j]=g:=by rw [List.getElem_append_left i8];exact g6.o.symm
     obtain ⟨l6,p2,e1,e3,P,o1,Z,a1,j4,d9⟩:=h5.cell j n6;obtain ⟨rfl,rfl⟩ : Q=l6/\S=p2:=by simpa using P
     rw [i7] at Z a1 j4 d9;have h9:=e8.o.move s.rest l0.o k4.o;obtain ⟨p8,q8,m,n,rfl,o2,b7,b8,f9,a9⟩:=h9.cell f i6;obtain ⟨a,y⟩ : ∃a,a=R[f]:=⟨_,rfl⟩;have o9:a∈c:=(c4.o a).2 (zn (by rw [y];exact zs _));obtain ⟨o3,o8⟩:=g4.o a o9;rw [<-y] at b7 b8 f9 a9;have i9:R.take (f+1)=R.take f++[a]:=by rw [zm i6,y]
     have h8:=k8.o.below s.low;have n5:(j:Int)<((G++(R.take f).filter λa=>g.2.any (eW i a.2)).length:Int):=by omega
     generalize hGG:(G++(R.take f).filter λa=>g.2.any (eW i a.2))=GG at *;obtain ⟨e2,O⟩:=g;obtain ⟨k,e⟩:=a;simp only at Z a1 j4 d9 b7 b8 f9 a9 o3 o8 j1 o6 J X b2;have x:aB wr (wr.alloc (.cells #[.bool k,.slice m e.length n] 86)):=(Below.refl _ _).alloc (zz _) _;have m7:=uL wr (.bool k) (.slice m e.length n) 86;have a3:=aA (λwx (L:∃p0,wx=(wr.alloc (.cells #[.bool k,.slice m e.length n] 86)).drewN p0)=>bC9 B f2 h0 i wx e2 k e1 m e3 n O e ((h8.below x).drawn L) ((d9.fr (Fr.of_below x)).fr ((Fr.refl _ _).drawn L)) ((a9.fr (Fr.of_below x)).fr ((Fr.refl _ _).drawn L)) j1);have a0:=aC x Z;have a2:=aC x a1;obtain ⟨U,V⟩:=m7;have c3:=aA (s.below x);have c1:=aA (J.below x);have k3:=aA X;have g5:=aA b2;have e9:=aA i9;have e4:aM (rB w B (.slice m e.length n) e):=aA ⟨m,n,rfl,f9,a9.back s.low h2⟩;clear s J X b2 i9 h8 d9 a9 o1 o2 h5 y n8 h9;cases hpv:O.any (eW i e) with
     |false=>
      rw [hpv] at a3;have c5:=aA hpv;clear hpv;go_wp2_with fail;generalize hWI:wr.alloc (.cells #[.bool k,.slice m e.length n] 86)=WI at *;clear x hWI;go_region_held3 (λl=>l.cell? ⟨Q,S+j*2,none⟩=some (.bool e2)/\l.cell? ⟨Q,S+j*2+1,none⟩=some (.slice e1 O.length e3)/\l.cell? ⟨wr.heap.size,0,none⟩=some (.bool k)/\l.cell? ⟨wr.heap.size,1,none⟩=some (.slice m e.length n)) (go_keep)
       ((go_at_call 111;refine (aD a3 _ (by first|exact ⟨0,rfl⟩|exact ⟨1,rfl⟩|exact ⟨_,rfl⟩)).mono ?_;rintro P w1 ⟨rfl,d⟩;replace d:=uM (W:=WI) (by first|exact ⟨0,rfl⟩|exact ⟨1,rfl⟩|exact ⟨_,rfl⟩) d;have c0:=aC d a0;have a6:=aC d a2;have g8:=aC d U;have g9:=aC d V;have E:=aA d;clear d))
      clear a0 a2 U V Z a1 b7 b8 c0 a6;obtain ⟨f1,H,D,a8⟩:=(c3.o.below E.o).row;have e7:=aA H;have a4:=aA a8;have m3:f1.length<=8:=by have:=congrArg List.length H;simp at this;have p9:=List.length_filter_le (λa=>!(O.any (eW i a.2))) (R.take f);omega
      clear H a8;have t:=aA (c3.o.below E.o);have j3:=(t.o).size;go_wp2_with (first
       |(at_builtin;refine wpList_append_lies _ rfl _ _ 51 rfl W0.heap.size 86 g1 (.agg #[.bool false,.slice none 0 0]) 2 32 zx f5 f6 f7 f8 rfl (by decide) _ _ _ rfl (D.alloc _) ⟨w1.heap.size,0,none⟩ 1 1 [.bool k,.slice m e.length n] rfl rfl ?d1 ?d2 (by decide) ?d3 ?d4 ?d5 _ rfl ?_)
       |go_in)
      case d1=>exact lA _ _ _ _ _ (by simp)
      case d2=>first|exact tX _ _ _ _|exact ⟨rfl,rfl⟩
      case d3=>unfold maxLen;omega
      case d4=>omega
      case d5=>simp;omega
      intro h1 cap j5 z C b1 _;have a5:=aA (lR.apart (y:=(k,e)) (t.o.below ((Below.refl _ _).alloc (zz _) _)) c5.o (jH.more (x:=(k,e)) e7.o a4.o e4.o z) C (b1.imp id λa7=>by rw [a7];simp) o5);clear z C b1 D;go_wp2;go_roundw;case rel=>exact ⟨f+1,by omega,by go_num,by rw [e9.o];exact a5.o⟩
      case measure=>simp [intOf];omega
     |true=>
      rw [hpv] at a3;have c5:=aA hpv;clear hpv;rcases c1.o with ⟨j2,h4,b3⟩|⟨⟨f1,H,D,a8⟩,b3,-⟩
      ·have o4:(b=Q/\o=S)/\GG.length=1/\l8=1:=by
        have:=j2;simp at this;exact ⟨⟨this.1.1.symm,this.1.2.symm⟩,this.2⟩
       obtain ⟨⟨m5,m6⟩,m2,n0⟩:=o4;subst m5 m6 n0;obtain ⟨l5,p1,c6,c7,l7,-,j6,j7,j8,i1⟩:=e5.o.cell 0 d6;obtain ⟨rfl,rfl⟩ : b=l5/\o=p1:=by simpa using l7
       have k1:aM (rB w B (.slice c6 c[0].2.length c7) c[0].2):=aA ⟨c6,c7,rfl,j8,i1⟩;have e6:aM (G++(R.take f).filter (λa=>O.any (eW i a.2))=[c[0]]):=aA (hGG.trans h4);have c2:=aA b3;have q5:(j:Int)<1:=by omega
       subst h4;clear j2 m2 b3 i1 j8 hGG i7 n5 m9 h6;go_wp2_with fail;generalize hWI:wr.alloc (.cells #[.bool k,.slice m e.length n] 86)=WI at *;clear x hWI;go_region_held3 (λl=>l.cell? ⟨b,o+j*2,none⟩=some (.bool e2)/\l.cell? ⟨b,o+j*2+1,none⟩=some (.slice e1 O.length e3)/\l.cell? ⟨wr.heap.size,0,none⟩=some (.bool k)/\l.cell? ⟨wr.heap.size,1,none⟩=some (.slice m e.length n)) (go_keep)
        ((go_at_call 111;refine (aD a3 _ (by first|exact ⟨0,rfl⟩|exact ⟨1,rfl⟩|exact ⟨_,rfl⟩)).mono ?_;rintro P w1 ⟨rfl,d⟩;replace d:=uM (W:=WI) (by first|exact ⟨0,rfl⟩|exact ⟨1,rfl⟩|exact ⟨_,rfl⟩) d;have c0:=aC d a0;have a6:=aC d a2;have g8:=aC d U;have g9:=aC d V;have E:=aA d;clear d))
       clear a0 a2 U V Z a1 b7 b8 c0 a6;have t:=aA (c3.o.below E.o);have j3:=(t.o).size;have p5:=Below.at' ((t.o.below ((Below.refl _ _).alloc (zz _) (.cells #[.bool k,.slice m e.length n] 86))).low) (zz _) j6;have p6:=Below.at' ((t.o.below ((Below.refl _ _).alloc (zz _) (.cells #[.bool k,.slice m e.length n] 86))).low) (zz _) j7;clear j6 j7;go_wp2_with (first
        |(at_builtin;refine wpList_append_grows _ rfl _ _ 51 rfl 86 g1 (.agg #[.bool false,.slice none 0 0]) 2 32 zx f5 f6 f7 f8 rfl (by decide) (some ⟨b,o,none⟩) 1 1 (bF [(c[0],.slice c6 c[0].2.length c7)]) (by rfl) (by simp) rfl ?s2 ⟨w1.heap.size,0,none⟩ 1 1 [.bool k,.slice m e.length n] rfl rfl ?d1 ?d2 (by decide) ?d3 ?d4 ?_)
        |go_in)
       case s2=>
        rintro _ ⟨⟩ q q9 A;rw [Addr.add_lit];match q,A with
        |0,A=>simp [bF] at A;subst A;simpa using p5
        |1,A=>simp [bF] at A;subst A;simpa using p6
        |q+2,A=>simp [bF] at A
       case d1=>exact lA _ _ _ _ _ (by simp)
       case d2=>first|exact tX _ _ _ _|exact ⟨rfl,rfl⟩
       case d3=>unfold maxLen;omega
       case d4=>omega
       intro r0 j5 z C;obtain ⟨h1,cap,rfl,i4,-⟩:=z.form (by omega);have a5:=aA (lR.group (y:=(k,e)) (gk':=none) (t.o.below ((Below.refl _ _).alloc (zz _) _)) c5.o (by simp) (by rw [<-c2.o];exact g5.o)
        (by rw [e6.o];exact jX.more (x:=(k,e)) (P:=[(c[0],.slice c6 c[0].2.length c7)]) rfl (λq Y=>by simp at Y;subst Y;exact k1.o) e4.o (iP (B':=w.heap.size) z (by have:=(t.o).low.size;first|(simp;omega)|omega))) C (zn (by simpa using i4)) (by simp))
       clear z C i4;go_wp2;go_roundw;case rel=>exact ⟨f+1,by omega,by go_num,by rw [e9.o];exact a5.o⟩
       case measure=>simp [intOf];omega
      ·have e7:=aA H;have a4:=aA a8;have c2:=aA b3;have e6:=aA hGG;have m3:f1.length<=8:=by
        have:=congrArg List.length H;simp at this;omega
       have k9:=aA D;clear H a8 b3 hGG D;go_wp2_with fail;generalize hWI:wr.alloc (.cells #[.bool k,.slice m e.length n] 86)=WI at *;clear x hWI;go_region_held3 (λl=>l.cell? ⟨Q,S+j*2,none⟩=some (.bool e2)/\l.cell? ⟨Q,S+j*2+1,none⟩=some (.slice e1 O.length e3)/\l.cell? ⟨wr.heap.size,0,none⟩=some (.bool k)/\l.cell? ⟨wr.heap.size,1,none⟩=some (.slice m e.length n)) (go_keep)
        ((go_at_call 111;refine (aD a3 _ (by first|exact ⟨0,rfl⟩|exact ⟨1,rfl⟩|exact ⟨_,rfl⟩)).mono ?_;rintro P w1 ⟨rfl,d⟩;replace d:=uM (W:=WI) (by first|exact ⟨0,rfl⟩|exact ⟨1,rfl⟩|exact ⟨_,rfl⟩) d;have c0:=aC d a0;have a6:=aC d a2;have g8:=aC d U;have g9:=aC d V;have E:=aA d;clear d))
       clear a0 a2 U V Z a1 b7 b8 c0 a6;have t:=aA (c3.o.below E.o);have j3:=(t.o).low.size;have D:=bK k9.o E.o (zz _);go_wp2_with (first
        |(at_builtin;refine wpList_append_lies _ rfl _ _ 51 rfl w.heap.size 86 g1 (.agg #[.bool false,.slice none 0 0]) 2 32 zx f5 f6 f7 f8 rfl (by decide) _ _ _ rfl (D.alloc _) ⟨w1.heap.size,0,none⟩ 1 1 [.bool k,.slice m e.length n] rfl rfl ?d1 ?d2 (by decide) ?d3 ?d4 ?d5 _ rfl ?_)
        |go_in)
       case d1=>exact lA _ _ _ _ _ (by simp)
       case d2=>first|exact tX _ _ _ _|exact ⟨rfl,rfl⟩
       case d3=>unfold maxLen;omega
       case d4=>omega
       case d5=>simp;omega
       intro h1 cap j5 z C b1 _;have a5:=aA (lR.group (y:=(k,e)) (gk':=f3) (t.o.below ((Below.refl _ _).alloc (zz _) _)) c5.o k3.o g5.o
        (by rw [e6.o];exact jX.more (x:=(k,e)) e7.o a4.o e4.o z) (by rw [c2.o];exact C) (by rw [c2.o];exact b1.imp id λa7=>by rw [a7];simp) (λM b4=>(c1.o.lt M b4).1))
       clear z C b1 D;go_wp2;go_roundw;case rel=>exact ⟨f+1,by omega,by go_num,by rw [e9.o];exact a5.o⟩
       case measure=>simp [intOf];omega
    ·have i0:R.take f=R:=zg (by omega);rw [i0] at s;have q6:=aOt (λa=>g.2.any (eW i a.2)) R;obtain ⟨f3,J,X,b2⟩:=s.grp;obtain ⟨g7,l4,rfl,m4,i2,i3⟩:=s.row.lits s.low (by omega);have c1:=aA J;have j9:=aA i2;have k0:=aA (λq (a7:g7=some q)=>X q.block (i3 q a7));have k7:=aA s.low;have l2:aM (∀b9∈(G++R.filter λa=>g.2.any (eW i a.2)).take (j+1),∀a∈R.filter λa=>!(g.2.any (eW i a.2)),b9.2.any (eW i a.2)=false):=aA (by
      intro b9 hz a y;rw [List.take_append_of_le_length (by omega),zm i8] at hz;rw [zf] at y;rcases zq.1 hz with hz|hz
      ·exact l1.o b9 hz a y.1
      ·simp at hz;rw [hz,<-g6.o];simpa using y.2)
     have q0:(G++R.filter λa=>g.2.any (eW i a.2)).length=G.length+(R.filter λa=>g.2.any (eW i a.2)).length:=by simp
     clear i0 s J X b2 i2 i3;go_wp2;go_roundw;case rel=>exact ⟨j+1,_,_,f3,g7,l4,by omega,by go_num,c1.o,rfl,m4,j9.o,k0.o,k7.o,bE4 _ G R c c4.o,by omega,by omega,l2.o⟩
     case measure=>simp [intOf];omega
  ·have k5:=aA f4;have e8:=aA d8;have c4:=aA b5;have g3:=aA I;have a4:aM (aEn i G R):=aA (by
    intro b9 hz a y;rw [zg (by omega)] at b6;exact bCa (b6 b9 hz a y))
   have n1:¬(j:Int)<(G.length:Int):=by omega
   clear f4 d8 Y b5 b6 T I;go_wp2;go_ret2;exact ⟨G,R,c8,d0,c9,u,N,rfl,m8,o0,k5.o,e8.o,c4.o,n7,m0,a4.o,g3.o⟩
theorem bE7(w:World)(a cap:Nat)(d:Value)(f:d.cells.size=2)(g:a<=cap)(e:cap<=maxLen):(w.drew.alloc (.cells (Builtin.zeroCells d.cells a++Builtin.zeroCells d.cells (cap-a)) 86)).ownsRow w.heap.size 86 2 (.slice (some ⟨w.heap.size,0,none⟩) 0 cap) 0 []:=by
 refine ⟨by simp,.inr ⟨w.heap.size,cap,_,rfl,zz _,heap_alloc_new w.drew _,zd _,e,?_,by simp⟩⟩;simp only [Array.size_append,size_zeroCells,f,<-Nat.add_mul];congr 1
 omega
theorem bE8(a:Nat)(w:World)(t:a<=16):Calls zo 133 #[.slice none 0 0,.int .i64 a] w λi e=>∃v,i=.returned v/\e.ownsRow w.heap.size 86 2 v 0 []/\aB w e:=by
 obtain ⟨q,j,k,r,l⟩:=info_parts tW;by_cases d:a=0
 ·subst d;go_enter Tryz.func133,Tryz.ntmps133;go_wp2;go_ret;exact ⟨_,rfl,zt _ _ _ _,Below.refl _ _⟩
 ·have n:=grownCap_ge w a 0 86;have p:=grownCap_le_maxLen w a 0 86 (by unfold maxLen;omega);have m:=aA (Lib.run_append_nil_zeros (P:=zo) w 51 3 51 86 q (.agg #[.bool false,.slice none 0 0]) .i64 .i64 zx Tryz.underlying3 j k a (by omega) (by omega) (by omega) (by rw [l];omega));have g:=aA (bE7 w a (grownCap w a 0 86) (.agg #[.bool false,.slice none 0 0]) rfl n p);have s:(0:Int)<=(grownCap w a 0 86:Int):=by omega
  have u:(0:Int)<(a:Int):=by omega
  have f:aM (aB w (w.drew.alloc (.cells (Builtin.zeroCells (Value.agg #[.bool false,.slice none 0 0]).cells a++Builtin.zeroCells (Value.agg #[.bool false,.slice none 0 0]).cells (grownCap w a 0 86-a)) 86))):=aA ((aR (w:=w) (w1:=w.drew) ⟨1,rfl⟩).alloc (zz _) _);clear d;go_enter Tryz.func133,Tryz.ntmps133;go_wp2_with (first
   |(at_builtin;refine Lib.wpList_append_run _ rfl _ _ _ _ rfl _ _ rfl rfl _ _ (aD m) ?_)
   |go_in)
  go_ret;exact ⟨_,rfl,g.o,f.o⟩
theorem aOu(a d:List (Lt×Value)):bF (a++d)=bF a++bF d:=by simp [bF]
theorem aOv(w:World)(B:Nat)(d:List (Lt×Value))(g:∀p∈d,rB w B p.2 p.1.2):∀e∈bF d,e.oneCell'=true:=by
 intro e a;simp only [bF,List.mem_flatMap] at a;obtain ⟨p,i,a⟩:=a;obtain ⟨j,cap,f,_⟩:=g p i;simp at a;rcases a with rfl|rfl
 ·rfl
 ·rw [f];rfl
theorem dD.cells(A:dD w B (some ⟨b,o,none⟩) c):∃P:List (Lt×Value),P.map zr=c/\(∀p∈P,rB w B p.2 p.1.2)/\∀j l,(bF P)[j]?=some l->w.cell? ⟨b,o+j,none⟩=some l:=by
 obtain ⟨f,q⟩:=Deep.choose_lt (α:=Value) (n:=c.length) (p:=λk v=>∀a:k<c.length,rB w B v c[k].2/\w.cell? ⟨b,o+k*2,none⟩=some (.bool c[k].1)/\w.cell? ⟨b,o+k*2+1,none⟩=some v) (λk a=>by
  obtain ⟨x,H,u,cap,e,_,m,g,C,D⟩:=A.cell k a;obtain ⟨rfl,rfl⟩ : b=x/\o=H:=by simpa using e
  exact ⟨_,λ_=>⟨⟨u,cap,rfl,C,D⟩,m,g⟩⟩)
 have r:((z0 c.length).map λk=>((c[k]?).getD (false,[]),f k)).length=c.length:=by simp
 refine ⟨(z0 c.length).map λk=>((c[k]?).getD (false,[]),f k),?_,λp F=>?_,λj l d=>?_⟩
 ·rw [List.map_map];refine List.ext_getElem (by simp) λk m g=>?_
  simp [g]
 ·obtain ⟨k,a,rfl⟩:=List.mem_map.1 F;have i:k<c.length:=by simpa using a
  simp only [zi i,Option.getD_some];exact (q k i i).1
 ·have E:j<(bF ((z0 c.length).map λk=>((c[k]?).getD (false,[]),f k))).length:=(List.getElem?_eq_some_iff.1 d).1;rw [aCh,r] at E;have a:j / 2<c.length:=by omega
  obtain ⟨s,t⟩:=xU ((z0 c.length).map λk=>((c[k]?).getD (false,[]),f k)) (j / 2) (by rw [r];exact a);simp [a] at s t;obtain ⟨_,y,z⟩:=q (j / 2) a a;rcases Nat.mod_two_eq_zero_or_one j with h0|h0
  ·have e:j=j / 2*2:=by omega
   rw [e] at d ⊢;rw [s] at d;simp at d;rw [<-d];exact y
  ·have e:j=j / 2*2+1:=by omega
   rw [e] at d ⊢;rw [t] at d;simp at d;rw [<-d,<-Nat.add_assoc];exact z
theorem bE9(B S I P b3 J Q b4:Nat)(j m:List Lt)(w:World)(L:dD w B (some ⟨I,P,none⟩) j)(M:dD w B (some ⟨J,Q,none⟩) m)(c6:w.cell? ⟨S,0,none⟩=some (.slice (some ⟨I,P,none⟩) j.length b3))(c7:w.cell? ⟨S,1,none⟩=some (.slice (some ⟨J,Q,none⟩) m.length b4)):Calls zo 113 #[.slice (some ⟨S,0,none⟩) 2 2] w λe b6=>∃v,e=.returned v/\jH w B w.heap.size b6 v (j++m)/\aB w b6:=by
 obtain ⟨b2,a1,a2,a3,a4⟩:=info_parts tW;have c9:=L.few;have d0:=M.few;obtain ⟨d,N,Z,a6⟩:=L.cells;obtain ⟨i,O,a0,a7⟩:=M.cells;have a8:d.length=j.length:=by rw [<-N];simp
 have a9:i.length=m.length:=by rw [<-O];simp
 have b7:=aA (bE8 (j.length+m.length) w (by omega));have s:=aA a8;have t:=aA a9;have b9:=aA a6;have c1:=aA a7;have W:=aA Z;have X:=aA a0;have c3:=aA N;have c4:=aA O;clear L M N O Z a0 a6 a7 a8 a9;go_enter Tryz.func113,Tryz.ntmps113;go_wp2;go_loop [3,11] (λT q=>∃a r:Nat,a<=2/\q=.int .i64 a/\T=.int .i64 r/\r<=16/\((a=0/\r=0)\/(a=1/\r=j.length)\/(a=2/\r=j.length+m.length))) (λ_ q=>2-(intOf q).toNat);case atStart=>exact ⟨0,0,by omega,rfl,rfl,by omega,zk ⟨rfl,rfl⟩⟩
 case round=>
  obtain ⟨a,r,c5,rfl,rfl,d7,x⟩:=hrel;rcases x with ⟨rfl,rfl⟩|⟨rfl,x⟩|⟨rfl,x⟩
  ·go_wp2;go_round;case rel=>exact ⟨1,j.length,by omega,by go_num,by go_num,by omega,zn (zk ⟨rfl,rfl⟩)⟩
   case measure=>simp [intOf]
  ·have Y:=aA x;clear x;go_wp2;go_round;case rel=>exact ⟨2,r+m.length,by omega,by go_num,by go_num,by have:=Y.o;omega,zn (zn ⟨rfl,by rw [Y.o]⟩)⟩
   case measure=>simp [intOf]
  ·subst x;go_wp2_with (go_at_call 133;refine (aD b7).mono ?_;rintro e w1 ⟨v,rfl,g,a5⟩;have c2:=aA g;have b8:=aA a5;clear g a5);go_loopw [6,27] (λT q wr=>∃(a:Nat) (u:List (Lt×Value)),a<=2/\q=.int .i64 a/\wr.ownsRow w.heap.size 86 2 T u.length (bF u)/\aB w wr/\((a=0/\u=[])\/(a=1/\u=d)\/(a=2/\u=d++i))) (λ_ q _=>2-(intOf q).toNat);case atStart=>exact ⟨0,[],by omega,rfl,c2.o,b8.o,zk ⟨rfl,rfl⟩⟩
   case round=>
   obtain ⟨a,u,c5,rfl,b1,f,p⟩:=hrel;have z:=aA b1;clear b1;rcases p with ⟨rfl,rfl⟩|⟨rfl,p⟩|⟨rfl,p⟩
   ·have g:=z.o;have F:=aA (λk l (n:(bF d)[k]?=some l)=>aC f (b9.o k l n));have y:=aA f;have c8:=aC f c6;have A:=f.size;clear f z;go_wp2_with (first
     |(at_builtin;refine wpList_append_own _ rfl _ _ 51 rfl w.heap.size 86 b2 (.agg #[.bool false,.slice none 0 0]) 2 32 zx a1 a2 a3 a4 rfl (by decide) _ _ _ rfl g ⟨I,P,none⟩ j.length b3 (bF d) rfl ?d1 ?d2 ?d3 ?d4 ?d5 ?d6 ?_)
     |go_in)
    case d1=>rw [aCh,s.o]
    case d2=>exact λk l n=>by rw [Addr.add_lit];exact F.o k l n
    case d3=>exact aOv w B d W.o
    case d4=>unfold maxLen;have:=s.o;have:=t.o;simp;omega
    case d5=>have:=s.o;have:=t.o;simp;omega
    case d6=>exact A
    intro U V D C _;have H:aM (V.ownsRow w.heap.size 86 2 U ([]++d).length (bF ([]++d))):=aA (by
     have e:=D;rw [<-s.o,<-aOu] at e;simpa using e)
    have E:=aA (y.o.grown C A λa e=>(cO g a e).1);clear D C g;go_wp2;go_roundw;case rel=>exact ⟨1,[]++d,by omega,by go_num,H.o,E.o,zn (zk ⟨rfl,by simp⟩)⟩
    case measure=>simp [intOf]
   ·replace p:=p.symm
    subst p;have g:=z.o;have F:=aA (λk l (n:(bF i)[k]?=some l)=>aC f (c1.o k l n));have y:=aA f;have c8:=aC f c7;have A:=f.size;clear f z;go_wp2_with (first
     |(at_builtin;refine wpList_append_own _ rfl _ _ 51 rfl w.heap.size 86 b2 (.agg #[.bool false,.slice none 0 0]) 2 32 zx a1 a2 a3 a4 rfl (by decide) _ _ _ rfl g ⟨J,Q,none⟩ m.length b4 (bF i) rfl ?d1 ?d2 ?d3 ?d4 ?d5 ?d6 ?_)
     |go_in)
    case d1=>rw [aCh,t.o]
    case d2=>exact λk l n=>by rw [Addr.add_lit];exact F.o k l n
    case d3=>exact aOv w B i X.o
    case d4=>unfold maxLen;have:=s.o;have:=t.o;simp;omega
    case d5=>have:=s.o;have:=t.o;simp;omega
    case d6=>exact A
    intro U V D C _;have H:aM (V.ownsRow w.heap.size 86 2 U (d++i).length (bF (d++i))):=aA (by
     have e:=D;rw [<-t.o,<-aOu] at e;simpa using e)
    have E:=aA (y.o.grown C A λa e=>(cO g a e).1);clear D C g;go_wp2;go_roundw;case rel=>exact ⟨2,d++i,by omega,by go_num,H.o,E.o,zn (zn ⟨rfl,by simp⟩)⟩
    case measure=>simp [intOf]
   ·subst p;have y:=aA f;clear f;go_wp2;go_ret;exact ⟨_,rfl,⟨d++i,by rw [List.map_append,c3.o,c4.o],z.o,λb5 hp=>by rcases zq.1 hp with hp|hp;exact W.o b5 hp;exact X.o b5 hp⟩,y.o⟩
