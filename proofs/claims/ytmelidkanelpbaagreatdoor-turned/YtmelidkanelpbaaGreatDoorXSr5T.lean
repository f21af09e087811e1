import Derived.Test.YtmelidkanelpbaaGreatDoorXSr2T
import Derived.Test.YtmelidkanelpbaaGreatDoorTxTokT
open List renaming getElem?_map→zy,append_assoc→zx,getElem?_append_right→zw,mem_append→zv,getElem?_eq_getElem→zu,map_cons→zs,getElem?_append_left→zr,getElem?_eq_some_iff→zq,getElem_mem→zp,mem_of_getElem?→zo,mem_cons→zn,getElem?_cons_succ→zm,cons_append→zl,nil_append→zk,foldl_cons→zj,getD_eq_getElem?_getD→zi,getElem?_eq_none_iff→zh,flatMap_cons→zf,getElem_map→zd,length_cons→zc,getElem?_eq_none→zb,getElem_of_mem→z1,nodup_append→z2
open Nat renaming le_refl→zt
open Option renaming getD_some→z4,some→z5,map_some→z6
open Prod renaming snd→zz,fst→ze
namespace Go.Proofs.YtmelidkanelpbaaGreatDoor
open _root_.Go.Proofs.Tryz renaming prog→z0
open World renaming ownsRow_nil→zg,alloc_heap_new→za
open Go.RowKit Go.Shelf Go.WideMaps
set_option maxHeartbeats 4000000
set_option maxRecDepth 100000
variable{s:ByteArray}{V:Int->Int->Prop}{l m:List Nd}{T:List Tk}{i:Nat}
theorem bCv(b:Nat)(a:World)(e:b<=a.heap.size):Calls z0 28 #[.func (.func 29) #[] #[]] a λd c=>d=.returned (.pointer (some ⟨a.heap.size,0,none⟩))/\cG b c a.heap.size (.slice none 0 0) []/\aB a c:=by
 go_enter Tryz.func28,Tryz.ntmps28;go_wp2;go_ret;exact ⟨rfl,⟨za a _,zg _ _ _ _,e⟩,(Below.refl _ a).alloc (zt _) _⟩
theorem bCw(d c k:Nat)(p r q:Value)(e:List Cd)(o:Nat)(T:List (aK×Value))(n:List Nat)(a:World)(b:bM d a c k p r q e o T n false):Calls z0 32 #[.pointer (some ⟨c,0,none⟩)] a λj t=>j=.returned (.bool true)/\aB a t:=by
 obtain ⟨_,_,_,_,g⟩:=b.cells;have u:=λf=>aC ((Below.refl a.heap.size a).alloc (zt _) f) g
 clear b;go_enter Tryz.func32,Tryz.ntmps32;go_wp2;go_returns;exact ⟨rfl,(Below.refl _ a).alloc (zt _) _⟩
theorem bCx(n c t:Nat)(w x:Value)(o:List Cd)(v:Nat)(T:List (aK×Value))(u:List Nat)(f:Bool)(g:Option Addr)(a j:Nat)(b:World)(k:bM n b c t w (.slice g a j) x o v T u f)(A:1<=a)(B:a<=1000000):Calls z0 20 #[.pointer (some ⟨c,0,none⟩),.int .i64 1] b λr d=>r=.returned (.agg #[.int .i64 1,.slice g a j,.slice none 0 0,.int .i64 ((a-1:Nat):Int),.bool f])/\aB b d:=by
 obtain ⟨_,_,p,_,q⟩:=k.cells;have y:=λe=>aC ((Below.refl b.heap.size b).alloc (zt _) e) p
 have z:=λe=>aC ((Below.refl b.heap.size b).alloc (zt _) e) q
 have C:IntKind.i64.wrap ((a:Int)-1)=(a:Int)-1:=by rw [IntKind.wrap_i64];omega
 clear k;go_enter Tryz.func20,Tryz.ntmps20;go_wp2_with fail;go_region_held3 (λd=>d.cell? ⟨c,2,none⟩=some (.slice g a j)/\d.cell? ⟨c,4,none⟩=some (.bool f)) (go_keep) (fail);all_goals
  go_wp2_with fail;go_returns;refine ⟨by rw [show ((a-1:Nat):Int)=(a:Int)-1 by omega],?_⟩;exact (((Below.refl _ b).alloc (zt _) _).alloc (by simp) _).trans (Below.mono (aS ⟨1,rfl⟩) (by simp;omega))
theorem bCy(q c x:Nat)(A:Value)(r:List Cd)(z:Nat)(T:List (aK×Value))(y:List Nat)(f:Bool)(n g:Option Addr)(e o k j:Nat)(a:World)(p:bM q a c x A (.slice n e o) (.slice g k j) r z T y f):Calls z0 20 #[.pointer (some ⟨c,0,none⟩),.int .i64 2] a λw d=>w=.returned (.agg #[.int .i64 2,.slice n e o,.slice g k j,.int .i64 e,.bool f])/\aB a d:=by
 obtain ⟨_,_,t,u,v⟩:=p.cells;have B:=λb=>aC ((Below.refl a.heap.size a).alloc (zt _) b) t
 have C:=λb=>aC ((Below.refl a.heap.size a).alloc (zt _) b) u
 have D:=λb=>aC ((Below.refl a.heap.size a).alloc (zt _) b) v
 clear p;go_enter Tryz.func20,Tryz.ntmps20;go_wp2_with fail;go_region_held3 (λd=>d.cell? ⟨c,2,none⟩=some (.slice n e o)/\d.cell? ⟨c,3,none⟩=some (.slice g k j)/\d.cell? ⟨c,4,none⟩=some (.bool f)) (go_keep) (fail);all_goals
  go_wp2_with fail;go_returns;refine ⟨rfl,?_⟩;exact (((Below.refl _ a).alloc (zt _) _).alloc (by simp) _).trans (Below.mono (aS ⟨1,rfl⟩) (by simp;omega))
structure sB(B:Nat)(w:World)(v:Value)(P:List (List Lt×Value)):Prop where
 row:w.ownsRow B 51 1 v P.length (P.map zz)
 cl:∀p∈P,bR B w p.2 p.1
theorem sB.kps{a:List TypeId}{b:Nat}{w f:World}{v:Value}{c:List (List Lt×Value)}(d:sB b w v c)(e:cN a w f)(g:51∉a)(j:86∉a)(k:117∉a):sB b f v c:=
 ⟨e.row d.row g,λo n=>e.clause (d.cl o n) j k⟩
theorem sB.cell{B:Nat}{w:World}{v:Value}{P:List (List Lt×Value)}(e:sB B w v P){k:Nat}(j:k<P.length):∃g c a b,v=.slice (some ⟨g,0,none⟩) P.length c/\P[k].2=.slice a P[k].1.length b/\w.cell? ⟨g,k,none⟩=some (.slice a P[k].1.length b)/\bR B w (.slice a P[k].1.length b) P[k].1:=by
 have f:=e.cl P[k] (zp j);obtain ⟨a,b,d⟩:=f.shape;obtain ⟨p,⟨_,o⟩|⟨g,c,n,rfl,q,r,t⟩⟩:=e.row
 ·omega
 ·refine ⟨g,c,a,b,rfl,d,?_,by rw [<-d];exact f⟩;rw [e.row.cellAt k (by omega),zy,zu j,<-d];rfl
def gK(P:List (List Lt)):List (aK×Int):=P.mapIdx λa b=>(⟨1,a,0,0,0,b⟩,0)
theorem bCz(b:List (List Lt))(a:Nat)(c:a<b.length):(gK b).take (a+1)=(gK b).take a++[(⟨1,a,0,0,0,b[a]⟩,0)]:=by rw [List.take_add_one];simp [gK,c]
def wY(a:Nat)(n:World)(j f:Nat)(e:List (List Lt))(g:Nat)(c:World):Prop:=
 ∃k b d,bM a c j f k (.slice none 0 0) (.slice none 0 0) b d [] [] false/\bH ((gK e).take g) [] 0 false b d false/\Mv bS a n c
def bD0(c:Nat)(g:World)(a:List (List Lt))(e:Ending)(d:World):Prop:=
 ∃b f,e=.returned (.pointer (some ⟨b,0,none⟩))/\wY c g b f a a.length d
theorem bD1(d:Nat)(a2:Value)(b:List (List Lt×Value))(c:World)(E:sB d c a2 b)(U:∀a1∈b,aY a1.1=true)(c2:b.length<=1000)(F:d<=c.heap.size):Calls z0 19 #[a2] c λu b2=>bD0 d c (b.map ze) u b2:=by
 obtain ⟨c4,c5,rfl⟩:=aZ E.row;have M:=aA (bCv d c F);have a4:=aA E;have a5:=aA U;clear E U;go_enter Tryz.func19,Tryz.ntmps19;go_wp2_with (first
  |(go_at_call 28;refine (aD M).mono ?_;rintro u e ⟨rfl,Z,S⟩;have P:=aA Z;have N:=aA S;clear Z S)
  |go_in)
 have G:aB e (e.alloc (.cells #[.pointer (some ⟨c.heap.size,0,none⟩),.int .i64 0,.slice none 0 0,.slice none 0 0,.bool false] 76)):=(Below.refl _ e).alloc (zt _) _;have Q:bM d (e.alloc (.cells #[.pointer (some ⟨c.heap.size,0,none⟩),.int .i64 0,.slice none 0 0,.slice none 0 0,.bool false] 76)) e.heap.size c.heap.size (.slice none 0 0) (.slice none 0 0) (.slice none 0 0) [] 0 [] [] false:=
  ⟨za e _,P.o.below G,⟨zg _ _ _ _,λa1 a8=>by simp at a8⟩,zg _ _ _ _,λc6 a9=>by simp at a9,Nat.le_trans F N.o.size⟩
 have X:Mv bS d c (e.alloc (.cells #[.pointer (some ⟨c.heap.size,0,none⟩),.int .i64 0,.slice none 0 0,.slice none 0 0,.bool false] 76)):=(Mv.of_below N.o).trans (Mv.of_below G);have C:aM (wY d c e.heap.size c.heap.size (b.map ze) 0 (e.alloc (.cells #[.pointer (some ⟨c.heap.size,0,none⟩),.int .i64 0,.slice none 0 0,.slice none 0 0,.bool false] 76))):=aA ⟨_,_,_,Q,by simp [bH],X⟩;clear Q X G M P;go_loopw [11] (λi wr=>∃a:Nat,i=.int .i64 a/\a<=b.length/\wY d c e.heap.size c.heap.size (b.map ze) a wr) (λi _=>b.length-(intOf i).toNat);case atStart=>exact ⟨0,rfl,Nat.zero_le _,C.o⟩
 case round=>
  obtain ⟨a,rfl,c0,b1,f,k,n,o,j⟩:=hrel;by_cases J:a<b.length
  ·obtain ⟨b8,b7,r,t,a0,_,b9,v⟩:=(a4.o.kps j.kps (by decide) (by decide) (by decide)).cell J;simp at a0;obtain ⟨rfl,rfl⟩:=a0;have p:=a5.o _ (zp J);have y:=lA p;have w:bP b[a].1=true:=by
    simp only [aY,Bool.and_eq_true] at p;exact p.1.1
   have I:=bH.len _ o;have W:((gK (b.map ze)).take a).length<=a:=List.length_take_le _ _;simp at I;have c1:(a:Int)<(b.length:Int):=by omega
   have x:=bCz (b.map ze) a (by simpa using J);simp only [zd] at x;have a7:d<=wr.heap.size:=Nat.le_trans F j.size;have O:aM (∀L q z A,bM d A e.heap.size c.heap.size L (.slice none 0 0) (.slice none 0 0) q z [] [] false->bH [(⟨1,a,0,0,0,b[a].1⟩,0)] f k false q z false->Mv bS d wr A->wY d c e.heap.size c.heap.size (b.map ze) (a+1) A):=aA λL q z A b4 b5 b6=>⟨L,q,z,b4,by rw [x];exact bH.snoc _ o b5,j.trans b6⟩
   cases hid:eO b[a].1
   ·have g:=aA (aO2 d e.heap.size c.heap.size b1 _ _ f k [] [] false ⟨1,a,0,0,0,b[a].1⟩ r t wr n v y hid (by omega) (by omega) a7);have D:aM (bH [(⟨1,a,0,0,0,b[a].1⟩,0)] f k false (iE f.length (f++[eC ⟨1,a,0,0,0,b[a].1⟩ r t k]) f.length) (k+1) false):=aA (by
     unfold bH;rw [aH (by simp [w]),aH (by simp [hid])];exact ⟨r,t,rfl,rfl,rfl⟩)
    unfold qB at g;simp only at g;clear n v y p w I W x j o C;generalize b[a].1.length=cl at *;go_wp2_with (first
     |(go_at_call 30;refine (aD g).mono ?_;rintro u b3 ⟨⟨b0,rfl⟩,c3,R,Y⟩;have B:=aA (O.o _ _ _ _ R D.o Y);clear R Y)
     |go_in)
    go_roundw;case rel=>exact ⟨a+1,by go_num,by omega,B.o⟩
    case measure=>simp [intOf];omega
   ·have g:=aA (aO1 d e.heap.size ⟨1,a,0,0,0,b[a].1⟩ r t wr v y hid);have D:aM (bH [(⟨1,a,0,0,0,b[a].1⟩,0)] f k false f k false):=aA (by
     unfold bH;rw [aH (by simp [w]),aI hid];exact ⟨rfl,rfl,rfl⟩)
    have a6:=aA n;unfold qB at g;simp only at g;clear n v y p w I W x j o C;generalize b[a].1.length=cl at *;go_wp2_with (first
     |(go_at_call 30;refine (aD g).mono ?_;rintro u b3 ⟨⟨b0,rfl⟩,H⟩;have B:=aA (O.o _ _ _ _ (a6.o.below H) D.o (Mv.of_below H));clear H)
     |go_in)
    go_roundw;case rel=>exact ⟨a+1,by go_num,by omega,B.o⟩
    case measure=>simp [intOf];omega
  ·obtain rfl:a=b.length:=by omega
   have a3:aM (wY d c e.heap.size c.heap.size (b.map ze) b.length wr):=aA ⟨_,_,_,n,o,j⟩;clear n o j;go_wp2;go_ret;exact ⟨_,_,rfl,by simpa using a3.o⟩
theorem wH.none{l:List Pl}{b:Int}(a:wH l b)(c:∀i a,¬oN l i a):b=-1:=by
 rcases a with ⟨rfl,_⟩|⟨i,d,a,_⟩
 ·rfl
 ·exact absurd a (c i d)
theorem aO7{f:List (List Lt)}{c d:Int}(a:nO s f c d)(v:s.size<=3000){g:bC}{b:List (Nat×List Lt)}(r:uJ s=.ok (g,b))(n:∀i a,¬oN g.pz i a)(p:∀i a,¬qQ b i a):f=b.map (λt=>aV t.2)/\c=0/\d=0:=by
 rcases a with ⟨e,_⟩|⟨_,a⟩
 ·omega
 ·rw [r] at a;obtain ⟨w,e,j⟩:=a;have:=e.none n;subst this;rcases j with ⟨u,_⟩|⟨_,k⟩
  ·omega
  ·rcases k with ⟨i,q,o,_⟩|⟨_,rfl,rfl,rfl⟩
   ·exact absurd o (p i q)
   ·exact ⟨rfl,rfl,rfl⟩
def pN:Nd:=(⟨#[112]⟩,0)
def cP:List Lt:=[(false,[pN])]
def cNp:List Lt:=[(true,[pN])]
theorem bD3{a:Nat->Nat->Prop}(n:∀i,a i i)(o:∀i e,a i e->a e i)(g:∀i e j,a i e->a e j->a i j):∃p:Nat->Nat,∀b c,p b=p c↔a b c:=by
 refine ⟨λb=>Classical.epsilon (a b),λb c=>⟨λd=>?_,λd=>?_⟩⟩
 ·have k:a b (Classical.epsilon (a b)):=Classical.epsilon_spec ⟨b,n b⟩;have q:a c (Classical.epsilon (a c)):=Classical.epsilon_spec ⟨c,n c⟩;have d:Classical.epsilon (a b)=Classical.epsilon (a c):=d;rw [d] at k;exact g _ _ _ k (o _ _ q)
 ·have:a b=a c:=funext λj=>propext ⟨λf=>g _ _ _ (o _ _ d) f,λf=>g _ _ _ d f⟩
  show Classical.epsilon (a b)=Classical.epsilon (a c);rw [this]
theorem aO8(e:List Tg)(f g:Nat):∃d:Nat->Nat,∀b c,d b=d c↔dE e f g b c:=
 bD3 (λi=>Cl.refl i) (λ_ _ a=>Cl.symm a) (λ_ _ _ a j=>Cl.trans a j)
def sC(a:Nd):Prop:=aL a=false/\aX a=0
theorem aBz{g:Nd}(L:sC g)(v w:Int)(c:List (Int×Lt))(t:∀a∈c,∃m,a.2.2=[m]/\sC m)(x:aR (aV (c.map zz))<=500):eG [(v,g),(w,g)] 0 1 c (aV (c.map zz)) true 0:=by
 have r:∀n∈[(v,g),(w,g)]++aU c,sC n.2:=by
  intro n hx;rcases zv.1 hx with hx|hx
  ·simp at hx;rcases hx with rfl|rfl<;>exact L
  ·obtain ⟨a,N,A⟩:=List.mem_flatMap.1 hx;obtain ⟨m,o,q⟩:=t a N;rw [o] at A;simp at A;subst A;exact q
 obtain ⟨b,f⟩ : ∃b,[(v,g),(w,g)]++aU c=b:=⟨_,rfl⟩;have p:∀i,(aG (b.map zz)).ch i=[]:=by
  intro i;unfold aG;simp only;cases hi:(b.map zz)[i]? with
  |none=>rfl
  |some m=>
   simp only;have q:m∈b.map zz:=zo hi;obtain ⟨n,hx,rfl⟩:=List.mem_map.1 q;rw [<-f] at hx;rw [(r n hx).2];rfl
 have u:∀i,bI b i=i:=by
  intro i;cases hi:b[i]? with
  |none=>exact pR (zh.1 hi)
  |some n=>exact lE hi (r n (by rw [f];exact zo hi)).1
 have y:∀i k,dE b 0 1 i k->(aG (b.map zz)).lab i=(aG (b.map zz)).lab k:=by
  intro i k d;induction d with
  |refl=>rfl
  |base d=>
   rcases d with d|⟨rfl,rfl⟩
   ·rw [u,u] at d;rw [d]
   ·unfold aG;rw [<-f];rfl
  |symm _ ih=>exact ih.symm
  |trans _ _ ih1 ih2=>exact ih1.trans ih2
  |down _ _ _ d=>rw [p] at d;simp at d
 obtain ⟨D,B⟩:=aO8 b 0 1;refine Or.inr ⟨⟨λi k d _ _=>?_,λC _=>⟨C,λk _ _ Q F=>?_⟩⟩,D,c.map (λa=>a.2.2),?_,?_,Or.inr ⟨?_,?_,rfl,rfl⟩⟩
 ·rw [f] at d ⊢;exact y i k d
 ·rw [f,p] at F;cases F
 ·rw [f];exact B
 ·rw [f];have O:∀(e:List (Int×Lt)) (j:List Tg),j++aU e=b->(∀a∈e,∃m,a.2.2=[m]/\sC m)->aP (λC l=>aW (aG (b.map zz)) (dE b 0 1) D [C] l) (cU j.length e) (e.map (λa=>a.2.2)):=by
   intro e;induction e with
   |nil=>intro _ _ _;exact aP.nil
   |cons a e ih=>
    intro j z H;obtain ⟨m,o,q⟩:=H a (by simp);have M:aU (a::e)=(a.1,m)::aU e:=by simp [aU,o]
    rw [M] at z;have J:(b.map zz)[j.length]?=some m:=by rw [<-z];simp
    refine aP.cons ?_ ?_
    ·show aW _ _ _ _ a.2.2;rw [o];have E:(aG (b.map zz)).lab j.length=m:=by unfold aG;simp only [J,z4]
     have:=aW.name (G:=aG (b.map zz)) (R:=dE b 0 1) (rep:=D) (i:=j.length) (j:=j.length) (r:=[]) (l:=[]) (Cl.refl _) (by unfold Gr.named;rw [E];exact q.1) (by rw [p];exact aW.nil);rwa [E] at this
    ·have:=ih (j++[(a.1,m)]) (by rw [<-z];simp) (λP I=>H P (by simp [I]));simpa [o] using this
  exact O c [(v,g),(w,g)] f t
 ·have:bX c (c.map λa=>a.2.2)=c.map zz:=by
   unfold bX;clear r f p u y B t x;induction c with
   |nil=>rfl
   |cons a e ih=>simp at ih ⊢;exact ih
  rw [this];exact x
 ·have:bX c (c.map λa=>a.2.2)=c.map zz:=by
   unfold bX;clear r f p u y B t x;induction c with
   |nil=>rfl
   |cons a e ih=>simp at ih ⊢;exact ih
  rw [this]
theorem bD4(s:ByteArray):∀b e f c d,fE s b e f=some (c,d)->eR c=true:=by
 intro b;induction b with
 |zero=>intro e f c d a;simp [fE] at a
 |succ b ih=>
  intro e f c d a;rw [fE] at a;split at a
  ·split at a
   ·split at a
    ·rename_i g;simp only [z5.injEq,Prod.mk.injEq] at a;rw [<-a.1];exact g
    ·simp at a
   ·split at a
    ·split at a
     ·exact ih _ _ _ _ a
     ·simp at a
    ·split at a
     ·simp at a
     ·exact ih _ _ _ _ a
  ·simp at a
theorem bD5(s:ByteArray):∀c a i,a<=i->i<qM s c a->fD (aE s i)=true:=by
 intro c;induction c with
 |zero=>intro a i e b;simp [qM] at b;omega
 |succ c ih=>
  intro a i e b;rw [qM] at b;split at b
  ·rename_i d;by_cases f:i=a
   ·subst f;exact d.2
   ·exact ih (a+1) i (by omega) b
  ·omega
theorem bD6{a:Int}(b:fD a=true):a<128/\a≠10/\0<=a:=by unfold fD eK dM sZ at b;simp at b;omega
theorem bD7(a:ByteArray)(f:∀i,i<a.size->aE a i<128/\aE a i≠10)(q:a.size<=20):∀c b m,a.size-b<=c->b<=a.size->b=m->1<=a.size->gA a c b m=true:=by
 intro c;induction c with
 |zero=>
  intro b m g j k d;simp [gA];omega
 |succ c ih=>
  intro b m g j k d;rw [gA];split
  ·rename_i n;obtain ⟨p,r⟩:=f b n;have o:dF (aE a b)=1:=by unfold dF;rw [aI p]
   have e:bO a b=1:=by rw [tL a b (by omega),o]
   rw [aH (by rw [e];omega),e];exact ih (b+1) (m+1) (by omega) (by omega) (by omega) d
  ·simp;omega
theorem bD8{a b:Nat}(e:b<=s.size)(f:i<b-a):aE (s.extract a b) i=aE s (a+i):=by
 have c:i<(s.extract a b).size:=by rw [ByteArray.size_extract];omega
 have d:a+i<s.size:=by omega
 rw [mW _ _ c,mW _ _ d];congr 1
 exact ByteArray.getElem_extract c
theorem bD9{b g:Nat}{d:Tk}(k:b<s.size)(a:dP s b=.tok d g)(c:d.kind=110):eR d.txt=true:=by
 unfold dP at a;split at a
 ·rename_i n;split at a
  ·cases a
  ·rename_i t;simp only [Nx.tok.injEq] at a;rw [<-a.1];simp only;have j:=aCh n;have v:=yI k j;have u:b+1<=eB s (b+1):=aK8 s (b+1);have o:eB s b<=s.size:=aK9 (by omega);have q:(s.extract b (eB s b)).size=eB s b-b:=by rw [ByteArray.size_extract];omega
   refine bD7 _ (λi e=>?_) (by omega) _ 0 0 (by omega) (by omega) rfl (by omega);rw [q] at e;rw [bD8 o e];have:=bD6 (bD5 s _ b (b+i) (by omega) (by show b+i<eB s b;omega));omega
 ·split at a
  ·split at a
   ·rename_i w r p;simp only [Nx.tok.injEq] at a;rw [<-a.1];exact bD4 s _ _ _ _ _ p
   ·cases a
  ·split at a
   ·split at a
    ·simp only [Nx.tok.injEq] at a;rw [<-a.1] at c;simp at c
    ·cases a
   ·split at a
    ·rename_i f;simp only [Nx.tok.injEq] at a;rw [<-a.1] at c;simp only at c;rw [c] at f;simp [mP] at f
    ·cases a
theorem bDa(s:ByteArray):∀a d,∀c∈(cD s a d).1,c.kind=110->eR c.txt=true:=by
 intro a;induction a with
 |zero=>intro d;simp [cD]
 |succ a ih=>
  intro d;rw [cD];split
  ·rename_i f;split
   ·exact ih _
   ·split
    ·exact ih _
    ·split
     ·rename_i c j b;intro g hu;rcases zn.1 hu with rfl|hu
      ·exact bD9 f b
      ·exact ih _ g hu
     ·simp
  ·intro c b e;simp at b;rw [b] at e;simp at e
theorem bDb(s:ByteArray)(c d i:Nat)(a:(aJ (eD (cD s c d)) i).kind=110):eR (aJ (eD (cD s c d)) i).txt=true:=by
 have g:∀e∈eD (cD s c d),e.kind=110->eR e.txt=true:=by
  intro e ht;unfold eD at ht;rcases zv.1 ht with ht|ht
  ·exact bDa s _ _ e ht
  ·generalize (cD s c d).2=b at ht;cases b with
   |none=>simp at ht
   |some p=>
    simp at ht;rw [ht];intro a;simp at a
 unfold aJ at a ⊢;by_cases f:i<(eD (cD s c d)).length
 ·rw [zi,zu f,z4] at a ⊢;exact g _ (zp _) a
 ·rw [zi,zb (by omega)] at a;simp [uI] at a
structure PT(k:Nat)(st st':bC)(l l':List Nd)(Q:List Pl)(M:List Nd):Prop where
 pl:st'.pz=st.pz++Q
 nd:l'=l++M
 tm:lW M k
 nm:∀n∈M,aL n=false->eR n.1=true/\0<=n.2/\∃p∈Q,p.2.2.1=n.2
 vs:∀n∈M,aL n=true->0<=n.2
 ps:∀p∈Q,0<=p.2.2.2
theorem bDc(M:∀i,(aJ T i).kind=110->eR (aJ T i).txt=true):∀w,(∀q b l n k,cJ T w q b l=.ok (n,k)->∃o j,PT 1 b n l k o j/\(q=true->aL (j.headD (⟨#[]⟩,0))=false))/\
  (∀b l e n k B,dT T w b l e=.ok (n,k,B)->∃o j A,B=e+A/\PT A b n l k o j):=by
 intro w;induction w with
 |zero=>exact ⟨λq b l n k a=>by simp [cJ] at a,λb l e n k B a=>by simp [dT] at a⟩
 |succ w ih=>
  obtain ⟨S,H⟩:=ih;constructor
  ·intro q b l n k a;rw [cJ] at a;split at a
   ·rename_i C;simp only [Except.ok.injEq,Prod.mk.injEq] at a;obtain ⟨rfl,rfl⟩:=a;have p:=jK (pG (jZ b.vars (aJ T b.i).txt));refine ⟨[],[(⟨#[]⟩,jZ b.vars (aJ T b.i).txt)],⟨by simp,rfl,⟨by simp [dZ,p],by simp [aO,p]⟩,λe hn c=>?_,λe hn _=>?_,λf d=>by simp at d⟩,λN=>?_⟩
    ·simp at hn;subst hn;rw [pG] at c;cases c
    ·simp at hn;subst hn;exact (aLz _ _).1
    ·rw [N] at C;cases C.2
   ·split at a
    ·simp at a
    ·rename_i F;simp only [ne_eq,Decidable.not_not] at F;have D:=M _ F;have Q:=aM6 (aM7 D);have r:∀m:Int,aL ((aJ T b.i).txt,m)=false:=λm=>Q
     split at a
     ·split at a
      ·simp at a
      ·rename_i X W x R;simp only [Except.ok.injEq,Prod.mk.injEq] at a;obtain ⟨rfl,rfl⟩:=a;obtain ⟨o,j,A,C,d⟩:=H _ _ _ _ _ _ R;have G:=d.pl;have P:=d.nd;simp only at G;have O:x=A:=by omega
       subst O;have p:aX ((aJ T b.i).txt,(x:Int))=x:=by unfold aX;rw [r];simp
       refine ⟨((aJ T b.i).txt,q,(x:Int),((aJ T b.i).pos:Int))::o,((aJ T b.i).txt,(x:Int))::j,⟨?_,?_,⟨?_,?_⟩,λe hn c=>?_,λe hn c=>?_,λf hpm=>?_⟩,λ_=>r _⟩
       ·simp only;rw [G,aM1];simp
       ·rw [P,aM2];simp
       ·simp only [dZ,p,Nat.zero_add];exact d.tm.1
       ·have:=d.tm.2;simp only [aO,p,Nat.zero_add,zc];omega
       ·rcases zn.1 hn with rfl|hn
        ·exact ⟨D,by simp,_,List.mem_cons_self,rfl⟩
        ·obtain ⟨u,v,f,y,z⟩:=d.nm e hn c;exact ⟨u,v,f,by simp [y],z⟩
       ·rcases zn.1 hn with rfl|hn
        ·rw [r] at c;cases c
        ·exact d.vs e hn c
       ·rcases zn.1 hpm with rfl|hpm
        ·simp
        ·exact d.ps f hpm
     ·simp only [Except.ok.injEq,Prod.mk.injEq] at a;obtain ⟨rfl,rfl⟩:=a;have p:aX ((aJ T b.i).txt,(0:Int))=0:=by unfold aX;rw [r];simp
      refine ⟨[((aJ T b.i).txt,q,0,((aJ T b.i).pos:Int))],[((aJ T b.i).txt,0)],⟨rfl,rfl,⟨by simp [dZ,p],by simp [aO,p]⟩,λe hn _=>?_,λe hn c=>?_,λf d=>by simp at d;subst d;simp⟩,λ_=>r _⟩
      ·simp at hn;subst hn;exact ⟨D,Int.le_refl _,_,List.mem_singleton.2 rfl,rfl⟩
      ·simp at hn;subst hn;rw [r] at c;cases c
  ·intro b l e n k B a;rw [dT] at a;split at a
   ·simp at a
   ·rename_i X W d;obtain ⟨o,j,g,_⟩:=S _ _ _ _ _ d;have E:=g.pl;have I:=g.nd;simp only at E;split at a
    ·obtain ⟨L,J,U,Y,t⟩:=H _ _ _ _ _ _ a;refine ⟨o++L,j++J,1+U,by omega,by rw [t.pl,E,zx],by rw [t.nd,I,zx],aKz g.tm t.tm,λm hm c=>?_,λm hm c=>?_,λf d=>(zv.1 d).elim (g.ps f) (t.ps f)⟩
     ·rcases zv.1 hm with hm|hm
      ·obtain ⟨u,v,f,y,z⟩:=g.nm m hm c;exact ⟨u,v,f,by simp [y],z⟩
      ·obtain ⟨u,v,f,y,z⟩:=t.nm m hm c;exact ⟨u,v,f,by simp [y],z⟩
     ·rcases zv.1 hm with hm|hm
      ·exact g.vs m hm c
      ·exact t.vs m hm c
    ·split at a
     ·simp only [Except.ok.injEq,Prod.mk.injEq] at a;obtain ⟨rfl,rfl,rfl⟩:=a;exact ⟨o,j,1,rfl,E,I,g.tm,g.nm,g.vs,g.ps⟩
     ·simp at a
structure qC(Q:List Pl)(l:List Nd):Prop where
 tm:lW l 1
 nm:∀n∈l,aL n=false->eR n.1=true/\0<=n.2/\∃p∈Q,p.2.2.1=n.2
 vs:∀n∈l,aL n=true->0<=n.2
 hd:aL (l.headD (⟨#[]⟩,0))=false
theorem qC.more{c d:List Pl}(b:qC c l)(j:∀p∈c,p∈d):qC d l:=
 ⟨b.tm,λk f g=>by obtain ⟨a,e,p,n,o⟩:=b.nm k f g;exact ⟨a,e,p,j p n,o⟩,b.vs,b.hd⟩
theorem bDd(x:∀i,(aJ T i).kind=110->eR (aJ T i).txt=true):∀p k f n o,fW T p k f=.ok (n,o)->(∀b∈f,qC k.pz b.2)->(∃e,n.pz=k.pz++e/\∀c∈e,0<=c.2.2.2)/\∀b∈o,qC n.pz b.2:=by
 intro p;induction p with
 |zero=>intro k f n o a;simp [fW] at a
 |succ p ih=>
  intro k f n o a z;rw [fW] at a;split at a
  ·simp at a
  ·rename_i v q g;obtain ⟨e,L,d,A⟩:=(bDc x _).1 _ _ _ _ _ g;have j:=d.pl;have u:=d.nd;simp only at j;simp only [zk] at u;subst u;have y:qC v.pz q:=⟨d.tm,λD B C=>by obtain ⟨b,J,c,E,F⟩:=d.nm D B C;exact ⟨b,J,c,by rw [j];simp [E],F⟩,d.vs,A rfl⟩;have t:∀r:Bool,∀b∈f++[(r,q)],qC v.pz b.2:=by
    intro r b hx;rcases zv.1 hx with hx|hx
    ·exact (z b hx).more λc g=>by rw [j];simp [g]
    ·simp at hx;subst hx;exact y
   split at a
   ·obtain ⟨⟨w,G,I⟩,H⟩:=ih _ _ _ _ a (t _);exact ⟨⟨e++w,by rw [G];simp only;rw [j,zx],λc g=>(zv.1 g).elim (d.ps c) (I c)⟩,H⟩
   ·simp only [Except.ok.injEq,Prod.mk.injEq] at a;obtain ⟨rfl,rfl⟩:=a;exact ⟨⟨e,j,d.ps⟩,t _⟩
theorem bDe(k:∀i,(aJ T i).kind=110->eR (aJ T i).txt=true){e f:bC}{j:List Lt}(a:kO T e=.ok (f,j)):(∃b,f.pz=e.pz++b/\∀d∈b,0<=d.2.2.2)/\∀g∈j,qC f.pz g.2:=by
 unfold kO at a;cases hq:lC T e with
 |error d=>rw [hq] at a;simp at a
 |ok r=>
  obtain ⟨u,t⟩:=r;rw [hq] at a;simp only at a;split at a
  ·simp only [Except.ok.injEq,Prod.mk.injEq] at a;obtain ⟨rfl,rfl⟩:=a;unfold lC at hq;split at hq
   ·simp only [Except.ok.injEq,Prod.mk.injEq] at hq;obtain ⟨rfl,rfl⟩:=hq;exact ⟨⟨[],by simp,λd n=>by simp at n⟩,λg c=>by simp at c⟩
   ·obtain ⟨⟨b,o,q⟩,p⟩:=bDd k _ _ _ _ _ hq (λg c=>by simp at c);exact ⟨⟨b,o,q⟩,p⟩
  ·simp at a
theorem bDf(q:∀i,(aJ T i).kind=110->eR (aJ T i).txt=true):∀j d f e g,gZ T j d f=.ok (e,g)->(∀a∈d.pz,0<=a.2.2.2)->(∀a∈f,∀c∈a.2,qC d.pz c.2)->(∀a∈e.pz,0<=a.2.2.2)/\∀a∈g,∀c∈a.2,qC e.pz c.2:=by
 intro j;induction j with
 |zero=>intro d f e g b;simp [gZ] at b
 |succ j ih=>
  intro d f e g b k n;rw [gZ] at b;split at b
  ·simp only [Except.ok.injEq,Prod.mk.injEq] at b;obtain ⟨rfl,rfl⟩:=b;exact ⟨k,n⟩
  ·split at b
   ·simp at b
   ·rename_i z x r;obtain ⟨⟨w,p,v⟩,u⟩:=bDe q r;refine ih _ _ _ _ b (λa hp=>by rw [p] at hp;exact (zv.1 hp).elim (k a) (v a)) λa hp c o=>?_
    rcases zv.1 hp with hp|hp
    ·exact (n a hp c o).more λy t=>by rw [p];simp [t]
    ·simp at hp;subst hp;exact u c o
theorem aO9:∀(l:List Nd) (a:List Nd×List Int),∃b,(l.foldl cI a).2=a.2++b
 |[],a=>⟨[],by simp⟩
 |n::l,a=>by
  obtain ⟨b,c⟩:=aO9 l (cI a n);rw [zj,c];unfold cI;split
  ·split
   ·exact ⟨[n.2]++b,by simp⟩
   ·exact ⟨b,rfl⟩
  ·exact ⟨b,rfl⟩
theorem eX.more{s g:List Int}{a b:Int}(d:eX s a b):eX (s++g) a b:=by obtain ⟨e,c,f⟩:=d;exact ⟨e,by rw [zr (zq.1 c).1];exact c,f⟩
theorem bDg:∀(b c:List Lt) (a:List Lt×List Int),a.2.Nodup->aP (jM (eX a.2)) c a.1->(b.foldl dK a).2.Nodup/\aP (jM (eX (b.foldl dK a).2)) (c++b) (b.foldl dK a).1:=by
 intro b;induction b with
 |nil=>intro c a d e;simpa using ⟨d,e⟩
 |cons x b ih=>
  intro c a d e;rw [zj];have k:=aY8 x.2 [] ([],a.2) d aP.nil;obtain ⟨u,n⟩:=aO9 x.2 ([],a.2);simp only at n;have p:(dK a x).2.Nodup/\aP (jM (eX (dK a x).2)) (c++[x]) (dK a x).1:=by
   refine ⟨k.1,aP.snoc (e.mono λf g o=>⟨o.1,o.2.mono λt m r=>aL2 (λf g q=>?_) r⟩) ⟨rfl,?_⟩⟩
   ·show eX (dW x.2 a.2).2 f g;unfold dW;rw [n];exact q.more
   ·have j:=k.2;rw [zk] at j;exact j
  have:=ih (c++[x]) (dK a x) p.1 p.2;rwa [zx,List.singleton_append] at this
theorem uU(a:List Lt):(cW (bT a)).2.Nodup/\aP (jM (eX (cW (bT a)).2)) (bT a) (aV a):=bDg (bT a) [] ([],[]) (by simp) aP.nil
theorem bDh:∀(b a:List Lt),a.Nodup->(b.foldl eF a).Nodup:=by
 intro b;induction b with
 |nil=>intro a c;exact c
 |cons x b ih=>
  intro a c;rw [zj];refine ih _ ?_;unfold eF;split
  ·exact c
  ·rename_i f;rw [z2];refine ⟨c,by simp,λg e j d=>?_⟩;simp at d;subst d;rintro rfl;exact f ((xM _ _).2 e)
theorem bDi:∀(b a:List Lt),(a++b).Nodup->b.foldl eF a=a++b:=by
 intro b;induction b with
 |nil=>intro a _;simp
 |cons x b ih=>
  intro a c;rw [zj];have f:eF a x=a++[x]:=by unfold eF;rw [aH];intro e;have d:=(xM _ _).1 e;rw [z2] at c;exact c.2.2 x d x (by simp) rfl
  rw [f,ih (a++[x]) (by simpa using c)];simp
theorem bDj(a:List Lt):bT (bT a)=bT a:=by have:=bDi (bT a) [] (by simpa [bT] using bDh a [] (by simp));simpa [bT] using this
theorem aOa(a:List Lt):aV (aV a)=aV a:=by obtain ⟨b,c⟩:=uU a;have d:=aDp (eX.pairs b) c;rw [<-d];show (cW (bT (bT a))).1=(cW (bT a)).1;rw [bDj]
theorem aOb{a m:Nd}(d:fS V a m):aX a=aX m/\aL a=aL m:=by
 rcases d with ⟨b,c,_,_⟩|⟨_,rfl⟩
 ·exact ⟨by rw [jK b,jK c],by rw [b,c]⟩
 ·exact ⟨rfl,rfl⟩
theorem aOc(b:aP (fS V) l m):∀a,lW l a->lW m a:=by
 induction b with
 |nil=>intro a b;exact b
 |@cons n n' l m h1 h2 ih=>
  intro a c;cases a with
  |zero=>have:=c.2;simp at this
  |succ a=>
   have d:=ih (a+aX n) ⟨by have:=c.1;simpa [dZ] using this,by have:=c.2;simp [aO] at this;omega⟩;rw [(aOb h1).1] at d;refine ⟨by simpa [dZ] using d.1,?_⟩;have:=d.2;simp only [aO,zc];omega
theorem oY{d e:Type}{c:d->e->Prop}{l:List d}{m:List e}(f:aP c l m):∀a∈m,∃b∈l,c b a:=by
 induction f with
 |nil=>intro a hb;simp at hb
 |cons h1 _ ih=>
  intro a hb;rcases zn.1 hb with rfl|hb
  ·exact ⟨_,by simp,h1⟩
  ·obtain ⟨b,g,j⟩:=ih a hb;exact ⟨b,by simp [g],j⟩
theorem aOd{a b:List Lt}(c:aP (jM V) a b):aR a=aR b:=by
 induction c with
 |nil=>rfl
 |cons h1 _ ih=>
  have:=h1.2.length;simp [aR] at ih ⊢;omega
theorem aOe(b:aP (fS V) l m)(a:Nd):aL (l.headD a)=aL (m.headD a):=by
 cases b with
 |nil=>rfl
 |cons q _=>exact (aOb q).2
theorem bDk{a:List Lt}{j:List Pl}(q:∀c∈a,qC j c.2)(r:∀g∈j,g.2.2.1<=5)(b:bP (aV a)=true):aY (aV a)=true:=by
 obtain ⟨F,n⟩:=uU a;have G:aR (aV a)<=60:=by unfold bP at b;simp at b;exact b.2
 have I:(cW (bT a)).2.length<=60:=by have:=(pA (bT a)).2;rw [aOd n] at this;omega
 unfold aY;rw [b,aOa,Bool.true_and,Bool.and_eq_true,List.all_eq_true];refine ⟨λd o=>?_,by simp⟩;obtain ⟨c,A,_,f⟩:=oY n d o;have e:=q c ((mD a).2.2 c A);have y:∀m∈d.2,cZ m=true:=by
  intro m v;obtain ⟨C,w,x⟩:=oY f m v;unfold cZ;rcases x with ⟨_,p,_,J,B,L⟩|⟨k,rfl⟩
  ·rw [aI p];have:=(zq.1 B).1;simp;omega
  ·obtain ⟨D,M,g,E,N⟩:=e.nm C w k;have:=r g E;rw [aH (by simp [k])];simp [D];omega
 have z:=aEn _ 1 (aOc f 1 e.tm) y;have H:=uZ (aV a) d o;unfold gD iX;have t:=e.hd;have u:aL (d.2.headD (⟨#[]⟩,0))=false:=by rw [<-aOe f];exact t
 rw [z,u];simp;omega
theorem aOf{j:List (List Lt)}{n:Int}(a:nO s j n 0):∀f∈j,aY f=true:=by
 rcases a with ⟨_,_,_,a⟩|⟨_,a⟩
 ·cases a
 ·cases b:uJ s with
  |error e=>rw [b] at a;have:=a.2.2;omega
  |ok k=>
   obtain ⟨x,y⟩:=k;rw [b] at a;obtain ⟨k,d,⟨_,_,_,a⟩|⟨A,a⟩⟩:=a
   ·omega
   ·rcases a with ⟨_,_,_,_,_,_,a⟩|⟨q,rfl,_,_⟩
    ·omega
    ·obtain ⟨o,p⟩:=bDf (bDb s _ _) _ _ _ _ _ b (λe b=>by simp at b) (λe b=>by simp at b);have u:∀i c,¬oN x.pz i c:=by
      rcases d with ⟨_,d⟩|⟨i,c,_,_,z⟩
      ·exact d
      ·have:=o _ (zp c);omega
     intro f r;obtain ⟨e,g,rfl⟩:=List.mem_map.1 r;obtain ⟨w,t,rfl⟩:=z1 g;refine bDk (p _ g) (λB v=>?_) ?_
     ·obtain ⟨i,c,rfl⟩:=z1 v;have:=u i c;unfold oN at this;rw [not_or] at this;omega
     ·have:=q w t;unfold qQ at this;rw [not_or] at this;simpa using this.2
def bK(θ:Int->Nd)(l:List Nd):List Nd:=l.map λa=>if aL a=true then θ a.2 else a
theorem aC0{f e:Int->Nd}(b:aP (fS V) l m)(k:∀c d,V c d->f c=e d):bK f l=bK e m:=by
 unfold bK;induction b with
 |nil=>rfl
 |cons b _ ih=>
  rw [zs,zs,ih];congr 1
  rcases b with ⟨a,g,_,j⟩|⟨a,rfl⟩
  ·rw [aI a,aI g,k _ _ j]
  ·rw [aH (by simp [a]),aH (by simp [a])]
theorem aOg{e f:Type}{d:e->f->Prop}{l:List e}{m:List f}(c:aP d l m):∀a∈l,∃b∈m,d a b:=by
 induction c with
 |nil=>intro a ha;simp at ha
 |cons c _ ih=>
  intro a ha;rcases zn.1 ha with rfl|ha
  ·exact ⟨_,by simp,c⟩
  ·obtain ⟨b,g,j⟩:=ih a ha;exact ⟨b,by simp [g],j⟩
theorem bDl{s:List Int}(g:s.Nodup){b:Int}{i a:Int}(n:eX s b i)(o:eX s b a):i=a:=by obtain ⟨c,j,rfl⟩:=n;obtain ⟨d,k,rfl⟩:=o;obtain ⟨p,e⟩:=zq.1 j;obtain ⟨q,f⟩:=zq.1 k;have:c=d:=(List.getElem_inj g).1 (e.trans f.symm);rw [this]
theorem bDm{s:List Int}{b c i:Int}(g:eX s b i)(j:eX s c i):b=c:=by
 obtain ⟨d,f,k⟩:=g;obtain ⟨e,a,n⟩:=j;obtain rfl:d=e:=by omega
 rw [f] at a;exact z5.inj a
theorem bDn(e:List Lt)(c:Int->Nd):∃d:Int->Nd,(∀b,∃a,d b=c a)/\(∀l∈e,∃m∈aV e,m.1=l.1/\bK c m.2=bK d l.2)/\∀m∈aV e,∃l∈e,m.1=l.1/\bK c m.2=bK d l.2:=by
 obtain ⟨q,j⟩:=uU e;generalize (cW (bT e)).2=s at q j;obtain ⟨d,r,o⟩ : ∃d:Int->Nd,(∀b,∃a,d b=c a)/\∀b a,eX s b a->d b=c a:=by refine ⟨λb=>c (Classical.epsilon λa=>eX s b a),λb=>⟨_,rfl⟩,λb a n=>?_⟩;have:=Classical.epsilon_spec (p:=λa=>eX s b a) ⟨a,n⟩;show c _=c a;rw [bDl q this n]
 refine ⟨d,r,λl k=>?_,λm k=>?_⟩
 ·obtain ⟨m,u,f,g⟩:=aOg j l (aEm k);exact ⟨m,u,f.symm,(aC0 g o).symm⟩
 ·obtain ⟨l,t,f,g⟩:=oY j m k;exact ⟨l,(mD e).2.2 l t,f.symm,(aC0 g o).symm⟩
theorem bDo(e:List Lt)(d:Int->Nd):∃c:Int->Nd,(∀b,∃a,c b=d a)/\(∀l∈e,∃m∈aV e,m.1=l.1/\bK c m.2=bK d l.2)/\∀m∈aV e,∃l∈e,m.1=l.1/\bK c m.2=bK d l.2:=by
 obtain ⟨u,j⟩:=uU e;generalize (cW (bT e)).2=s at u j;obtain ⟨c,q,o⟩ : ∃c:Int->Nd,(∀b,∃a,c b=d a)/\∀a b,eX s a b->d a=c b:=by refine ⟨λb=>d (Classical.epsilon λa=>eX s a b),λb=>⟨_,rfl⟩,λa b n=>?_⟩;have:=Classical.epsilon_spec (p:=λa=>eX s a b) ⟨a,n⟩;show d a=d _;rw [bDm this n]
 refine ⟨c,q,λl k=>?_,λm k=>?_⟩
 ·obtain ⟨m,t,f,g⟩:=aOg j l (aEm k);exact ⟨m,t,f.symm,(aC0 g o).symm⟩
 ·obtain ⟨l,r,f,g⟩:=oY j m k;exact ⟨l,(mD e).2.2 l r,f.symm,(aC0 g o).symm⟩
section
variable {G:Gr}{R:Nat->Nat->Prop}{V:Nat->Nd}
def uV(G:Gr)(V:Nat->Nd)(i a:Nat):Prop:=V i=V a/\(G.ch i).map V=(G.ch a).map V
def gx(G:Gr)(V:Nat->Nd)(i:Nat):List Nd:=V i::(G.ch i).map V
theorem bDp{d:Nat->Nat->Prop}(f:∀i,∀c∈G.ch i,G.ch c=[])(g:∀i a,d i a->uV G V i a):∀i a,Cl G d i a->uV G V i a:=by
 intro i a b;induction b with
 |refl=>exact ⟨rfl,rfl⟩
 |base b=>exact g _ _ b
 |symm _ ih=>exact ⟨ih.1.symm,ih.2.symm⟩
 |trans _ _ ih1 ih2=>exact ⟨ih1.1.trans ih2.1,ih1.2.trans ih2.2⟩
 |@down i a k p c _ _ _ hp hq ih=>
  have e:=congrArg (λl=>l[k]?) ih.2;simp only [zy,hp,hq,z6] at e;refine ⟨z5.inj e,?_⟩;rw [f i p (zo hp),f a c (zo hq)]
theorem bDq(o:∀i,∀b∈G.ch i,G.ch b=[])(e:∀i,G.named i->V i=G.lab i)(f:∀i a,R i a->uV G V i a):kJ G R/\∀c,cE G R c:=by
 refine ⟨λi a j p q=>?_,λc=>⟨c,λa _ _ b r=>⟨b,λt k _ u g=>?_⟩⟩⟩
 ·rw [<-e i p,<-e a q];exact (f i a j).1
 ·have d:=(f _ _ k).2;rw [o a b r] at d;have n:(G.ch t).map V=[]:=d.symm;rw [List.map_eq_nil_iff.1 n] at g;simp at g
theorem aOh{e:Nat->Nat}{j:Int->Nd}(n:∀i,∀b∈G.ch i,G.ch b=[])(o:∀i,G.named i->V i=G.lab i)(p:∀i,¬G.named i->G.ch i=[])(u:∀i,R i i)(f:∀i a,R i a->uV G V i a)(v:∀i,(∀a,R i a->¬G.named a)->j (e i:Int)=V i){g:List Nat}{l:List Nd}(c:aW G R e g l):bK j l=g.flatMap (gx G V):=by
 induction c with
 |nil=>rfl
 |@var i r l h1 _ ih=>
  have d:aL ((⟨#[]⟩,(e i:Int)):Nd)=true:=by rw [pG]
  unfold bK at ih ⊢;rw [zs,ih,aI d,zf];unfold gx;rw [p i (h1 i (u i))];simp [v i h1]
 |@name i a r l h1 h2 _ ih=>
  have d:aL (G.lab a)=false:=h2;unfold bK at ih ⊢;rw [zs,ih,aH (by simp [d]),List.flatMap_append,zf];have k:(G.ch a).flatMap (gx G V)=(G.ch a).map V:=by
   have:∀(l:List Nat),(∀b∈l,G.ch b=[])->l.flatMap (gx G V)=l.map V:=by
    intro l;induction l with
    |nil=>intro _;rfl
    |cons b l ih=>
     intro c;rw [zf,zs,ih λw t=>c w (by simp [t])];unfold gx;rw [c b (by simp)];rfl
   exact this _ λb q=>n a b q
  rw [k,<-(f i a h1).2,<-o a h2,<-(f i a h1).1];rfl
end
def D1(l:List Nd):Prop:=∃a b,l=a::b/\aL a=false/\aX a=b.length/\∀c∈b,aX c=0
def jU(b:List (Int×List Nd)):List Tg:=b.flatMap λa=>aN a.1 a.2
theorem aOi:∀(a c:List Nd) (b:Nat),(∀t∈a,aX t=0)->gW (a++c) a.length b=List.range' b a.length
 |[],_,_,_=>rfl
 |t::a,c,b,h=>by
  rw [zl,zc,aWi _ _ _ (h t (by simp)),aOi a c (b+1) λe d=>h e (by simp [d])];rfl
theorem aOj:∀(d:List (Int×List Nd)) (a:List Tg),(∀b∈d,D1 b.2)->∀i f,a.length<=i->(a++jU d)[i]?=some f->aX f.2=0\/∃n p e c q,a++jU d=n++aN p (e::c)++q/\n.length=i/\f=(p,e)/\aL e=false/\aX e=c.length/\∀y∈c,aX y=0
 |[],a,_,i,f,hi,ht=>by
  rw [show a++jU []=a by simp [jU],zb hi] at ht;cases ht
 |b::d,a,hD,i,f,hi,ht=>by
  obtain ⟨e,c,t,v,w,o⟩:=hD b (by simp);have j:jU (b::d)=aN b.1 (e::c)++jU d:=by rw [<-t];rfl
  by_cases u:i=a.length
  ·subst u;refine Or.inr ⟨a,b.1,e,c,jU d,by rw [j,zx],rfl,?_,v,w,o⟩;rw [j] at ht;simp [aN] at ht;exact ht.symm
  ·by_cases z:i<a.length+1+c.length
   ·left;obtain ⟨g,rfl⟩ : ∃g,i=a.length+1+g:=⟨i-a.length-1,by omega⟩;have k:g<c.length:=by omega
    rw [j,zw (by omega),show a.length+1+g-a.length=g+1 by omega] at ht;simp only [aN,zs,zl,zm] at ht;rw [zr (by simpa using k),zy,zu k] at ht;simp at ht;rw [<-ht];exact o _ (zp k)
   ·rw [j,<-zx] at ht ⊢;rcases aOj d (a++aN b.1 (e::c)) (λr x=>hD r (by simp [x])) i f (by simp [aN];omega) ht with h4|h4
    ·exact Or.inl h4
    ·exact Or.inr h4
section
variable {bs:List (Int×List Nd)}
theorem zL{a:List Tg}{b:Tg}(c:a[i]?=some b)(d:aX b.2=0):(aG (a.map zz)).ch i=[]:=by unfold aG;simp only [zy,c,z6,d,aWe]
theorem aOk{a:List Tg}(b:a[i]?=none):(aG (a.map zz)).ch i=[]:=by unfold aG;simp only [zy,b,Option.map_none]
theorem aFt{a d:List Tg}{e:Int}{c:Nd}{b:List Nd}(k:aX c=b.length)(j:∀n∈b,aX n=0):(aG ((a++aN e (c::b)++d).map zz)).ch a.length=List.range' (a.length+1) b.length:=by
 have f:(a++aN e (c::b)++d).map zz=a.map zz++(c::(b++d.map zz)):=by simp [aN];exact (List.map_congr_left (g:=id) λ_ _=>rfl).trans (List.map_id b)
 unfold aG;simp only [f];rw [zw (by simp),show a.length-(a.map zz).length=0 by simp];simp only [List.getElem?_cons_zero];rw [List.drop_append,show (a.map zz).length=a.length by simp,List.drop_eq_nil_of_le (by simp),show a.length+1-a.length=1 by omega,zk,List.drop_succ_cons,List.drop_zero,k,aOi b _ _ j]
theorem aC1(p:∀k∈bs,D1 k.2):∀i,∀c∈(aG ((jU bs).map zz)).ch i,(aG ((jU bs).map zz)).ch c=[]:=by
 intro i c b;cases ht:(jU bs)[i]? with
 |none=>rw [aOk ht] at b;simp at b
 |some t=>
  rcases aOj bs [] p i t (Nat.zero_le _) (by simpa using ht) with f|⟨A,o,f,j,C,d,n,-,-,r,g⟩
  ·rw [zL ht f] at b;simp at b
  ·rw [zk] at d;rw [d,<-n,aFt r g,List.mem_range'_1] at b;obtain ⟨a,rfl⟩ : ∃a,c=A.length+1+a:=⟨c-A.length-1,by omega⟩;have e:a<j.length:=by omega
   have q:(jU bs)[A.length+1+a]?=some (o,j[a]):=by rw [d,zx,zw (by omega),show A.length+1+a-A.length=a+1 by omega];simp only [aN,zs,zl,zm];rw [zr (by simpa using e),zy,zu e];rfl
   exact zL q (g _ (zp e))
end
def kV(θ:Int->Int->Nd)(a:List Tg)(i:Nat):Nd:=match a[i]? with|some t=>if aL t.2=true then θ t.1 t.2.2 else t.2|none=>θ 0 0
section
variable {θ:Int->Int->Nd}{M:List Tg}
theorem uW{a:Tg}(b:M[i]?=some a):kV θ M i=if aL a.2=true then θ a.1 a.2.2 else a.2:=by unfold kV;rw [b]
theorem aOl(b:(aG (M.map zz)).named i):kV θ M i=(aG (M.map zz)).lab i:=by
 obtain ⟨n,a,c⟩:=nJ b;rw [zy] at a;cases ht:M[i]? with
 |none=>rw [ht] at a;cases a
 |some t=>
  rw [ht] at a;obtain rfl:t.2=n:=by simpa using a
  rw [uW ht,aH (by simp [c])];unfold aG;simp [ht]
theorem aFu(b:¬(aG (M.map zz)).named i):(aG (M.map zz)).ch i=[]/\∃c n,kV θ M i=θ c n:=by
 cases ht:M[i]? with
 |none=>exact ⟨aOk ht,0,0,by unfold kV;rw [ht]⟩
 |some t=>
  have a:aL t.2=true:=by
   cases a:aL t.2 with
   |true=>rfl
   |false=>exact absurd ((fL (L:=M.map zz) (i:=i) (n:=t.2) (by rw [zy,ht];rfl)).2 a) b
  exact ⟨zL ht (jK a),t.1,t.2.2,by rw [uW ht,aI a]⟩
theorem aFv{c:Nat}(a:bI M i=bI M c):uV (aG (M.map zz)) (kV θ M) i c:=by
 have e:∀{f:Nat},M[f]?=none->bI M f=f:=λo=>pR (zh.1 o)
 cases hi:M[i]? with
 |none=>
  rw [e hi] at a;cases hj:M[c]? with
  |none=>
   rw [e hj] at a;subst a;exact ⟨rfl,rfl⟩
  |some s=>
   cases hv:aL s.2 with
   |true=>
    obtain ⟨_,_,r,b,_⟩:=kA hj hv;rw [<-a,hi] at b;cases b
   |false=>
    rw [lE hj hv] at a;subst a;exact ⟨rfl,rfl⟩
 |some t=>
  cases hv:aL t.2 with
  |true=>
   obtain ⟨_,_,r,b,j,k,n⟩:=kA hi hv;cases hj:M[c]? with
   |none=>
    rw [a,e hj,hj] at b;cases b
   |some s=>
    cases hw:aL s.2 with
    |true=>
     obtain ⟨_,_,u,d,g,p,q⟩:=kA hj hw;rw [<-a,b] at d;cases d;refine ⟨?_,by rw [zL hi (jK hv),zL hj (jK hw)]⟩;rw [uW hi,uW hj,aI hv,aI hw,<-k,<-n,p,q]
    |false=>
     rw [a,lE hj hw,hj] at b;cases b;rw [j] at hw;cases hw
  |false=>
   rw [lE hi hv] at a;cases hj:M[c]? with
   |none=>
    rw [e hj] at a;subst a;exact ⟨rfl,rfl⟩
   |some s=>
    cases hw:aL s.2 with
    |true=>
     obtain ⟨_,_,u,d,g,_⟩:=kA hj hw;rw [<-a,hi] at d;cases d;rw [hv] at g;cases g
    |false=>
     rw [lE hj hw] at a;subst a;exact ⟨rfl,rfl⟩
theorem aC2{A C:List Tg}{o:Int}(n:D1 l):gx (aG ((A++aN o l++C).map zz)) (kV θ (A++aN o l++C)) A.length=bK (θ o) l:=by
 obtain ⟨c,b,rfl,p,f,g⟩:=n;unfold gx bK;rw [aFt f g,zs];have e:(A++aN o (c::b)++C)[A.length]?=some (o,c):=by rw [zx,zw (zt _)];simp [aN]
 rw [uW e];congr 1
 refine List.ext_getElem (by simp) λa q k=>?_
 have d:a<b.length:=by simpa using k
 have j:(A++aN o (c::b)++C)[A.length+1+a]?=some (o,b[a]):=by rw [zx,zw (by omega),show A.length+1+a-A.length=a+1 by omega];simp only [aN,zs,zl,zm];rw [zr (by simpa using d),zy,zu d];rfl
 rw [zd,zd,List.getElem_range',Nat.one_mul,uW j]
end
