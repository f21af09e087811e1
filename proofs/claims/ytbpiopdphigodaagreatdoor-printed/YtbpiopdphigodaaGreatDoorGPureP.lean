import Derived.Test.YtbpiopdphigodaaGreatDoorGCl0P
import Derived.Test.YtbpiopdphigodaaGreatDoorRPrimP
open List renaming mem_append→zz,append_assoc→zy,mem_cons→zx,getElem_mem→zw,getD_eq_getElem?_getD→zv,getElem?_eq_getElem→zu,nil_append→zt,take_succ_eq_append_getElem→zs,flatMap_cons→zr,getElem?_eq_none→zq,length_cons→zp,getElem_map→zo,foldl_cons→zn,length_append→zl,getElem?_eq_some_iff→zk,flatMap_singleton→zi,mem_map→zh,map_append→zg,getElem_of_mem→ze,mem_cons_self→zd,nodup_append→za,cons_append→z0,take_length→z1,mem_flatMap→z3,all_eq_true→z5
open Nat renaming zero_add→zm,zero_le→zj,le_refl→zf
namespace Go.Proofs.YtbpiopdphigodaaGreatDoor
open _root_.Go.Proofs.Tryz renaming ntmps10→zb,func10→z6,prog→z8
open Go.RowKit Go.WideMaps
set_option maxHeartbeats 4000000
set_option maxRecDepth 100000
variable{s:ByteArray}{V:Int->Int->Prop}{c:List Lt}{l:List Nd}{T:List Tk}{w:World}
def gW:Nat->List Nd->List Us
 |_,[]=>[]
 |k,n::r=>lD k n++gW (k+1) r
theorem aF2(b d:List Nd):∀a,gW a (b++d)=gW a b++gW (a+b.length) d:=by
 induction b with
 |nil=>intro a;simp [gW]
 |cons x r ih=>intro a;simp only [z0,gW,ih,zy,zp];rw [show a+1+r.length=a+(r.length+1) by omega]
theorem aNq(l:List Nd):∀a,a<=l.length->hH l a=gW 0 (l.take a):=by
 intro a;induction a with
 |zero=>intro _;simp [hH,gW]
 |succ a ih=>
  intro b;rw [aHc l a b,ih (by omega),zs b,aF2];simp [gW,Nat.min_eq_left (show a<=l.length by omega)]
theorem aNr(c:List Lt):∀a,a<=c.length->jX c a=(c.take a).flatMap λd=>gW 0 d.2:=by
 intro a;induction a with
 |zero=>intro _;simp [jX]
 |succ a ih=>
  intro b;rw [aC4 c a b,ih (by omega),zs b,List.flatMap_append,zi,aNq _ _ (zf _),z1]
theorem sS(c:List Lt):eJ c=c.flatMap λa=>gW 0 a.2:=by unfold eJ;rw [aNr c _ (zf _),z1]
def mH(b:Nat)(l:List Nd):Prop:=∀a∈l,aM a=true->0<=a.2/\a.2<=b
theorem mH.mono{m a:Nat}(b:mH m l)(f:m<=a):mH a l:=λn d e=>by have:=b n d e;omega
theorem mH.append{a:Nat}{b d:List Nd}(f:mH a b)(g:mH a d):mH a (b++d):=λe hn=>by
 rcases zz.1 hn with hn|hn
 ·exact f e hn
 ·exact g e hn
theorem aF3(l:List ByteArray)(a:ByteArray):0<=jN l a/\jN l a<=(kN l a).length:=by
 have:=aUt l a;unfold jN kN;split
 ·simp;omega
 ·omega
theorem aF4{b:Type}(e:b->b)(f:b)(d:List b):∀a:List b,(a++[f]++d).modify a.length e=a++[e f]++d:=by
 intro a;induction a with
 |nil=>rfl
 |cons x r ih=>simp only [z0,zp,List.modify_succ_cons,ih]
theorem aF5(b d:List Pl)(a:Pl)(e:Nat):oR (b++[a]++d) b.length e=b++[(a.1,a.2.1,(e:Int),a.2.2.2)]++d:=aF4 _ _ _ _
theorem aAs(a b:List Nd)(e:Nd)(d:Nat):eB (a++[e]++b) a.length d=a++[(e.1,(d:Int))]++b:=aF4 _ _ _ _
structure aF6(st st':bA)(l l':List Nd)(Q:List Pl)(M:List Nd):Prop where
 pl:st'.pz=st.pz++Q
 nd:l'=l++M
 us:Q.map iY=gW l.length M
 vs:mH st'.vars.length M
 ps:∀p∈Q,0<=p.2.2.2
theorem aNs(I:∀B,(aH T B).kind=110->(aH T B).txt.toList.isEmpty=false):∀j,(∀i b l e d,cB T j i b l=.ok (e,d)->i=decide (l.length=0)->∃g f,aF6 b e l d g f)/\
  (∀b l k e d r,dW T j b l k=.ok (e,d,r)->0<l.length->∃g f,aF6 b e l d g f):=by
 intro j;induction j with
 |zero=>exact ⟨λi b l e d a=>by simp [cB] at a,λb l k e d r a=>by simp [dW] at a⟩
 |succ j ih=>
  obtain ⟨Q,C⟩:=ih;constructor
  ·intro i b l e d a J;rw [cB] at a;split at a
   ·simp only [Except.ok.injEq,Prod.mk.injEq] at a;obtain ⟨rfl,rfl⟩:=a;refine ⟨[],[(⟨#[]⟩,jN b.vars (aH T b.i).txt)],by simp,rfl,?_,?_,λp hp=>by simp at hp⟩
    ·simp [gW,lD,aM]
    ·intro k hn _;simp at hn;subst hn;exact aF3 _ _
   ·split at a
    ·simp at a
    ·rename_i v;simp only [ne_eq,Decidable.not_not] at v;have x:=I _ v;have z:∀o:Int,lD l.length ((aH T b.i).txt,o)=[((aH T b.i).txt,i,o)]:=by
      intro o;unfold lD aM;simp only;rw [x,J];rfl
     have A:∀o:Int,aM ((aH T b.i).txt,o)=false:=λo=>x
     split at a
     ·split at a
      ·simp at a
      ·rename_i R D E O;simp only [Except.ok.injEq,Prod.mk.injEq] at a;obtain ⟨rfl,rfl⟩:=a;obtain ⟨g,f,hp⟩:=C _ _ _ _ _ _ O (by simp);have y:=hp.pl;have M:=hp.nd;have P:=hp.us;have N:=hp.ps;simp only at y;refine ⟨((aH T b.i).txt,i,(E:Int),((aH T b.i).pos:Int))::g,((aH T b.i).txt,(E:Int))::f,?_,?_,?_,?_,λp hp=>?_⟩
       ·simp only;rw [y,aF5];simp
       ·rw [M,aAs];simp
       ·rw [List.map_cons,P,gW,z];simp [iY]
       ·intro k hn n;rcases zx.1 hn with rfl|hn
        ·rw [A] at n;cases n
        ·exact hp.vs k hn n
       ·rcases zx.1 hp with rfl|hp
        ·simp
        ·exact N p hp
     ·simp only [Except.ok.injEq,Prod.mk.injEq] at a;obtain ⟨rfl,rfl⟩:=a;refine ⟨[((aH T b.i).txt,i,0,((aH T b.i).pos:Int))],[((aH T b.i).txt,0)],rfl,rfl,?_,?_,λp hp=>by simp at hp;subst hp;simp⟩
      ·rw [gW,z];rfl
      ·intro k hn n;simp at hn;subst hn;rw [A] at n;cases n
  ·intro b l k e d r a S;rw [dW] at a;split at a
   ·simp at a
   ·rename_i R D hp;obtain ⟨g,f,m⟩:=Q _ _ _ _ _ hp (gH (by omega)).symm;have U:=(uN T j).1 _ _ _ _ _ hp;have t:=m.pl;have u:=m.nd;have F:=m.us;simp only at t;split at a
    ·have L:0<D.length:=by omega
     have W:=(uN T j).2 _ _ _ _ _ _ a;obtain ⟨H,G,q⟩:=C _ _ _ _ _ _ a L;refine ⟨g++H,f++G,?_,?_,?_,?_,λp hp=>(zz.1 hp).elim (m.ps p) (q.ps p)⟩
     ·rw [q.pl,t,zy]
     ·rw [q.nd,u,zy]
     ·rw [zg,F,q.us,aF2,u,zl]
     ·exact (m.vs.mono (by omega)).append q.vs
    ·split at a
     ·simp only [Except.ok.injEq,Prod.mk.injEq] at a;obtain ⟨rfl,rfl,rfl⟩:=a;exact ⟨g,f,t,u,F,m.vs,m.ps⟩
     ·simp at a
theorem aNt(B:∀v,(aH T v).kind=110->(aH T v).txt.toList.isEmpty=false):∀k a c d i,fN T k a c=.ok (d,i)->(∀e∈c,mH a.vars.length e.2)->∃f o,d.pz=a.pz++f/\i=c++o/\f.map iY=eJ o/\(∀e∈i,mH d.vars.length e.2)/\a.vars.length<=d.vars.length/\a.i<=d.i/\d.vars.length+a.i<=a.vars.length+d.i/\∀j∈f,0<=j.2.2.2:=by
 intro k;induction k with
 |zero=>intro a c d i b;simp [fN] at b
 |succ k ih=>
  intro a c d i b E;cases hq:cB T (T.length+1) true (iJ T a) [] with
  |error j=>rw [zC hq] at b;simp at b
  |ok r=>
   obtain ⟨y,n⟩:=r;obtain ⟨Q,R,F,G⟩:=aCq T a;obtain ⟨f,P,g⟩:=(aNs B (T.length+1)).1 _ _ _ _ _ hq rfl;have C:=(uN T (T.length+1)).1 _ _ _ _ _ hq;have m:=g.pl;have q:=g.nd;have t:=g.us;rw [G] at m;rw [F] at C;simp only [zt] at q;subst q;have u:∀e∈c++[(decide ((aH T a.i).kind=126),n)],mH y.vars.length e.2:=by
    intro e hx;rcases zz.1 hx with hx|hx
    ·exact (E e hx).mono (by omega)
    ·simp at hx;subst hx;exact g.vs
   by_cases p:(aH T y.i).kind=124
   ·rw [aCo hq p] at b;obtain ⟨A,z,x,H,I,J,L,M,N,O⟩:=ih _ _ _ _ b u;simp only at x L M N;refine ⟨f++A,(decide ((aH T a.i).kind=126),n)::z,?_,?_,?_,J,by omega,by omega,by omega,λj D=>(zz.1 D).elim (g.ps j) (O j)⟩
    ·rw [x,m,zy]
    ·rw [H,zy];rfl
    ·rw [zg,t,I,sS,sS,zr];rfl
   ·rw [aCp hq p] at b;simp only [Except.ok.injEq,Prod.mk.injEq] at b;obtain ⟨rfl,rfl⟩:=b;refine ⟨f,[(decide ((aH T a.i).kind=126),n)],m,rfl,?_,u,by omega,by omega,by omega,g.ps⟩;rw [t,sS,zi];rfl
theorem aNu(m:∀j,(aH T j).kind=110->(aH T j).txt.toList.isEmpty=false){g i:bA}{c:List Lt}(a:jE T g=.ok (i,c)):∃b,i.pz=g.pz++b/\b.map iY=eJ c/\(∀e∈c,mH i.i e.2)/\∀f∈b,0<=f.2.2.2:=by
 unfold jE at a;cases hq:jO T g with
 |error f=>rw [hq] at a;simp at a
 |ok r=>
  obtain ⟨A,x⟩:=r;rw [hq] at a;simp only at a;split at a
  ·simp only [Except.ok.injEq,Prod.mk.injEq] at a;obtain ⟨rfl,rfl⟩:=a;unfold jO at hq;split at hq
   ·simp only [Except.ok.injEq,Prod.mk.injEq] at hq;obtain ⟨rfl,rfl⟩:=hq;exact ⟨[],by simp,rfl,λe d=>by simp at d,λf n=>by simp at n⟩
   ·obtain ⟨b,v,o,k,p,q,y,z,t,u⟩:=aNt m _ _ _ _ _ hq (λe d=>by simp at d);simp only [zt] at k;subst k;simp only [List.length_nil] at t;exact ⟨b,o,p,λe d=>(q e d).mono (by simp;omega),u⟩
  ·simp at a
structure aF7(T:List Tk)(c:List Lt):Prop where
 short:∀x∈c,eD x.2
 count:aS c<=T.length
 len:c.length<=T.length
 vars:∀x∈c,mH T.length x.2
theorem aAt{n:List Tk}{t:Int}(v:TL n T t)(m:wG n T)(u:∀q,(aH T q).kind=110->(aH T q).txt.toList.isEmpty=false):∀k d i e j,fU T k d i=.ok (e,j)->d.i<T.length->∃g f,e.pz=d.pz++g/\j=i++f/\g.map iY=(f.flatMap λa=>eJ a.2)/\(∀a∈f,aF7 T a.2)/\e.i<T.length/\d.i+f.length<=e.i/\e.pz.length+d.i<=d.pz.length+e.i/\∀a∈g,0<=a.2.2.2:=by
 intro k;induction k with
 |zero=>intro d i e j b;simp [fU] at b
 |succ k ih=>
  intro d i e j b o;rw [fU] at b;split at b
  ·simp only [Except.ok.injEq,Prod.mk.injEq] at b;obtain ⟨rfl,rfl⟩:=b;exact ⟨[],[],by simp,by simp,rfl,λa hp=>by simp at hp,o,by simp,by omega,λa hp=>by simp at hp⟩
  ·split at b
   ·simp at b
   ·rename_i S c p;obtain ⟨x,N,y,z,A,O,P⟩:=aIq v m p o;obtain ⟨g,B,C,D,E⟩:=aNu u p;obtain ⟨r,f,F,G,H,I,J,Q,R,L⟩:=ih _ _ _ _ b y;refine ⟨g++r,((aH T d.i).pos,c)::f,?_,?_,?_,?_,J,by simp;omega,by omega,λa hp=>(zz.1 hp).elim (E a) (L a)⟩
    ·rw [F,B,zy]
    ·rw [G,zy];rfl
    ·rw [zg,C,H,zr]
    ·intro a hp;rcases zx.1 hp with rfl|hp
     ·exact ⟨x,z,A,λM m=>(D M m).mono (by omega)⟩
     ·exact I a hp
theorem aAu{a:ByteArray}(b:0<a.size):a.toList.isEmpty=false:=by
 cases he:a.toList.isEmpty with
 |false=>rfl
 |true=>
  rw [List.isEmpty_iff] at he;have:a=⟨#[]⟩:=xO.1 (by rw [he];simp);subst this;rw [uP] at b;omega
theorem aAv{b:ByteArray}(a:dL b=true):0<b.size:=by
 rcases Nat.eq_zero_or_pos b.size with hx|hx
 ·unfold dL at a;rw [sH _ _ _ _ (by omega)] at a;simp at a
 ·exact hx
theorem aNv(s:ByteArray):∀b f g d e,eO s b f g=some (d,e)->0<d.size:=by
 intro b;induction b with
 |zero=>intro f g d e a;simp [eO] at a
 |succ b ih=>
  intro f g d e a;rw [eO] at a;split at a
  ·split at a
   ·split at a
    ·rename_i i;simp only [Option.some.injEq,Prod.mk.injEq] at a;rw [<-a.1];exact aAv i
    ·simp at a
   ·split at a
    ·split at a
     ·exact ih _ _ _ _ a
     ·simp at a
    ·split at a
     ·simp at a
     ·exact ih _ _ _ _ a
  ·simp at a
theorem aNw{b g:Nat}{e:Tk}(k:b<s.size)(a:dH s b=.tok e g)(d:e.kind=110):0<e.txt.size:=by
 unfold dH at a;split at a
 ·rename_i m;split at a
  ·cases a
  ·simp only [Nx.tok.injEq] at a;rw [<-a.1];simp only;have j:=aAo m;have o:=wF k j;have i:=aCk s (s.size-(b+1)) (b+1);have q:b+1<=dV s (b+1)/\(b+1<=s.size->dV s (b+1)<=s.size):=i;rw [o,ByteArray.size_extract];omega
 ·split at a
  ·split at a
   ·rename_i r p n;simp only [Nx.tok.injEq] at a;rw [<-a.1];exact aNv s _ _ _ _ _ n
   ·cases a
  ·split at a
   ·split at a
    ·simp only [Nx.tok.injEq] at a;rw [<-a.1] at d;simp at d
    ·cases a
   ·split at a
    ·rename_i f;simp only [Nx.tok.injEq] at a;rw [<-a.1] at d;simp only at d;rw [d] at f;simp [mB] at f
    ·cases a
theorem aNx(s:ByteArray):∀a e,∀d∈(bW s a e).1,d.kind=110->0<d.txt.size:=by
 intro a;induction a with
 |zero=>intro e;simp [bW]
 |succ a ih=>
  intro e;rw [bW];split
  ·rename_i g;split
   ·exact ih _
   ·split
    ·exact ih _
    ·split
     ·rename_i d j b;intro i hu;rcases zx.1 hu with rfl|hu
      ·exact aNw g b
      ·exact ih _ i hu
     ·simp
  ·intro d b f;simp at b;rw [b] at f;simp at f
theorem aAw(s:ByteArray)(d f:Nat)(a:(aH (cN s d) f).kind=110):(aH (cN s d) f).txt.toList.isEmpty=false:=by
 refine aAu ?_;have i:∀e∈cN s d,e.kind=110->0<e.txt.size:=by
  intro e ht;unfold cN eC at ht;rcases zz.1 ht with ht|ht
  ·exact aNx s _ _ e ht
  ·generalize (bW s (s.size+1-d) d).2=b at ht;cases b with
   |none=>simp at ht
   |some p=>
    simp at ht;rw [ht];intro a;simp at a
 unfold aH at a ⊢;by_cases g:f<(cN s d).length
 ·rw [zv,zu g,Option.getD_some] at a ⊢;exact i _ (zw _) a
 ·rw [zv,zq (by omega)] at a;exact absurd a (by decide)
theorem aNy{f:Nat}{a:TypeId}{k g b e d:Nat}{m:List Value}(i:w.ownsRow f a k (.slice (some ⟨g,0,none⟩) b d) e m):b=e/\b<=d:=by
 obtain ⟨_,⟨a,_⟩|⟨p,n,o,a,_,_,j,_⟩⟩:=i
 ·cases a
 ·cases a;exact ⟨rfl,j⟩
theorem aNz{a:World}{d b:Nat}(n:0<(bT s 0).length)(g:a.ownsRow w.heap.size 109 2 (.slice (some ⟨d,0,none⟩) (bT s 0).length b) (bT s 0).length (mK (bT s 0)))(i:aB w a):∃k c,bJ w.heap.size (a.alloc (.cells #[.slice (some ⟨d,0,none⟩) (bT s 0).length b,.int .i32 0,.int .i64 0,.string ⟨#[]⟩,.slice none 0 0,.slice none 0 0,.map none] 54)) a.heap.size s 0 d 0 k c 0 0 ⟨#[]⟩ (.slice none 0 0) (.slice none 0 0) (.map none):=by
 obtain ⟨_,m⟩:=aNy g;have e:(bT s 0).length-1+1=(bT s 0).length:=by omega
 have f:b-1+1=b:=by omega
 have j:=i.size;refine ⟨(bT s 0).length-1,b-1,⟨?_,j,?_,by omega,rfl,zj _⟩⟩
 ·rw [e,f];unfold bM;show (a.heap.push _)[a.heap.size]?=_;simp
 ·rw [zm,zm,e,f];exact bF g ((Below.refl a.heap.size a).alloc (zf _) _) (zf _)
theorem aO0(s:ByteArray)(w:World)(o:s.size<=3000):Calls z8 14 #[.string s] w λd u=>∃e a,d=.returned (.pointer (some ⟨e,0,none⟩))/\aB w u/\rH w.heap.size u e s (cN s 0) ⟨0,[],[]⟩ a (.slice none 0 0) (.slice none 0 0) []:=by
 have v:=aA (aPb s w o);have f:=aA (λ(A:World) (e a r c:Nat) (C:bJ w.heap.size A e s 0 a 0 r c 0 0 ⟨#[]⟩ (.slice none 0 0) (.slice none 0 0) (.map none))=>(aEy (s.size+1) C o (by omega)).mono λd H G=>aF0 (T:=cN s 0) (i:=0) (zj _) (by omega) rfl G);have E:0<(bT s 0).length:=(yB s s.size 0 (by omega)).1;generalize aH (cN s 0) 0=t at f;obtain ⟨O,Q,P⟩:=t;simp only at f;go_enter Tryz.func14,Tryz.ntmps14;go_wp2_with (first
  |(go_at_call 29;refine (aC v).mono ?_;rintro d H ⟨a,B,rfl,n,g⟩;obtain ⟨r,c,p⟩:=aNz E n g;have j:=aA g;have z:=aA p;clear n g p)
  |(go_at_call 30;refine (f.o _ _ _ _ _ z.o).mono ?_;rintro d R ⟨rfl,m,⟨left,b⟩,k⟩;have I:=b.c1;have J:=b.c2;have L:=b.c3;have M:=b.soft;have x:=aA m;have y:=aA k;clear m k b)
  |go_in)
 go_ret;refine ⟨_,a,rfl,?_,⟨_,y.o⟩,World.ownsRow_nil _ _ _ _,World.ownsRow_nil _ _ _ _,λN F=>by simp at F⟩;have q:=j.o.size;have D:=j.o.alloc q (.cells #[.slice (some ⟨a,0,none⟩) (bT s 0).length B,.int .i32 0,.int .i64 0,.string ⟨#[]⟩,.slice none 0 0,.slice none 0 0,.map none] 54);exact D.grown (qK (qK (qK x.o _) _) _) (by simp;omega) (by simpa using q)
def RdQ(s:ByteArray)(w:World)(g:Ending)(f:World):Prop:=
 ∃e a b d,g=.returned (.tuple #[e,.int .i64 b,.int .i64 d])/\kO s (a.map λi=>i.1.map Prod.fst) b d/\kP w.heap.size f e a/\aB w f
theorem kP.mono{B e:Nat}{v:Value}{f:List (List (Lt×Value)×Value)}(a:kP B w v f)(b:e<=B):kP e w v f:=
 ⟨⟨gS a.mem.1 b,λp d=>⟨⟨gS (a.mem.2 p d).1.1 b,λi g=>gS ((a.mem.2 p d).1.2 i g) b⟩,(a.mem.2 p d).2⟩⟩,a.once,a.atoms⟩
theorem aAx(f:List Pl)(e:Nat):rQ (f.map iY) e↔∀d i,d<e->¬nK f d i:=by
 constructor
 ·intro h d i t a;obtain ⟨n,j⟩:=h d (by simpa using i) t;simp only [zo,iY] at n j;rcases a with a|⟨b,g,o,p⟩
  ·omega
  ·have:=j b g o;simp at this;rcases p with h|h
   ·exact h this.1
   ·exact h this.2
 ·intro h b g r;have q:b<f.length:=by simpa using g
  have a:=h b q r;simp only [nK,not_or,not_exists] at a;refine ⟨by simp [iY];omega,λe u m=>?_⟩;have k:=a.2 e u;simp only [zo,iY] at m ⊢;simp only [yQ,not_and,not_or,Decidable.not_not] at k;have:=k m;rw [this.1,this.2]
theorem aO1{a:List Pl}{g:Int}(n:rR (a.map iY) g):(g=-1/\uI a (-1))\/∃b,∃j:b<a.length,g=b/\uI a a[b].2.2.2:=by
 rcases n with ⟨rfl,r⟩|⟨b,j,rfl,e,i⟩
 ·refine Or.inl ⟨rfl,Or.inl ⟨rfl,λf d=>?_⟩⟩;exact (aAx a a.length).1 (λf d _=>r f d) f d d
 ·have k:b<a.length:=by simpa using j
  rw [aAx a b] at e;rw [aAx a (b+1)] at i;refine Or.inr ⟨b,k,rfl,Or.inr ⟨b,k,?_,e,rfl⟩⟩;refine Classical.byContradiction λq=>i λm o t=>?_
  by_cases p:m=b
  ·subst p;exact q
  ·exact e m o (by omega)
theorem aO2(a:List Pl)(b:Nat)(d:b<a.length):(mT a)[b]?=some (.int .i64 a[b].2.2.2):=by unfold mT;rw [List.getElem?_map,zu d];rfl
theorem aO3(a:List Pc):fF a=(a.map iS).flatMap λb=>eJ b.2:=by
 unfold fF;induction a with
 |nil=>rfl
 |cons x r ih=>rw [zr,ih,List.map_cons,zr];rfl
theorem aO4(S:s.size<=3000){g:bA}{t:List (Nat×List Lt)}(z:fU (cN s 0) ((cN s 0).length+1) ⟨0,[],[]⟩ []=.ok (g,t))(A:0<(cN s 0).length)(n:(cN s 0).length<=3002){b:List Pc}(m:b.map iS=t):fF b=g.pz.map iY/\(∀a∈b,aAm a)/\(∀a∈b,∀f∈a.1.2,uD f.1.2)/\b.length<=3002/\g.pz.length<=3002/\(∀a∈g.pz,0<=a.2.2.2)/\∀e∈fF b,e.1.size<=1000000:=by
 obtain ⟨Q,y,q,k,I,J,L,M,N,O⟩:=aAt (zB s (by omega)) (wH s (by omega)) (aAw s 0) _ _ _ _ _ z A;simp only [zt] at q k;simp only [List.length_nil,zm,Nat.add_zero] at M N;change g.i<(cN s 0).length at L;have i:∀a∈b,aF7 (cN s 0) (a.1.2.map Prod.fst):=λa d=>J (iS a) (by rw [<-k,<-m];exact zh.2 ⟨a,d,rfl⟩)
 have R:b.length=y.length:=by rw [<-k,<-m];simp
 have hu:fF b=g.pz.map iY:=by rw [aO3,m,k,q,I]
 refine ⟨hu,λa d=>⟨λf o=>(i a d).short f.1 (zh.2 ⟨f,o,rfl⟩),by have:=(i a d).count;omega,by have:=(i a d).len;simp at this;omega⟩,λa d f o j B E=>?_,by omega,by omega,by rw [q];exact O,?_⟩
 ·have:=(i a d).vars f.1 (zh.2 ⟨f,o,rfl⟩) j B E;omega
 ·intro e u;unfold fF at u;obtain ⟨a,d,v⟩:=z3.1 u;rw [sS] at v;obtain ⟨x,F,D⟩:=z3.1 v;have C:=(i a d).short x F;have H:∀(l:List Nd) p,(∀j∈l,j.1.size<=1000000)->∀e∈gW p l,e.1.size<=1000000:=by
   intro l;induction l with
   |nil=>intro p _ e hu;simp [gW] at hu
   |cons j r ih=>
    intro p n e hu;rw [gW] at hu;rcases zz.1 hu with hu|hu
    ·unfold lD at hu;split at hu
     ·simp at hu
     ·simp at hu;subst hu;exact n j (zd ..)
    ·exact ih _ (λP G=>n P (List.mem_cons_of_mem _ G)) e hu
  exact H x.2 0 C e D
theorem aAy(s:ByteArray)(w:World)(f4:s.size<=140737488355328):Calls z8 10 #[.string s] w λd e8=>RdQ s w d e8:=by
 by_cases d3:3000<s.size
 ·have d6:(3000:Int)<(s.size:Int):=by omega
  go_enter z6,zb;go_wp2;go_returns;exact ⟨_,[],0,1,rfl,Or.inl ⟨d3,rfl,rfl,rfl⟩,kP.nil _ _,Below.refl _ _⟩
 ·have d6:¬(3000:Int)<(s.size:Int):=by omega
  have j:s.size<=3000:=by omega
  have d7:(cN s 0).length<=3002:=by have:=aIn s (s.size+1) 0;show (eC (bW s (s.size+1) 0)).length<=3002;unfold eC;split<;>simp<;>omega
  have D:=aA (aO0 s w j);have z:=(wH s (by omega)).small;have b1:=zB s (by omega);have b4:=wH s (by omega);have m:=aA (λC N G (H:rH w.heap.size C N s (cN s 0) ⟨0,[],[]⟩ G (.slice none 0 0) (.slice none 0 0) []) (d4:w.heap.size<=C.heap.size)=>aN0 (λe1=>aNo s 0 e1) z j (by omega) (λB g3 c a d8=>by have:=aIq b1 b4 a d8;omega) H d4 (zj _) (zj _));have n:aI (rU s=fU (cN s 0) ((cN s 0).length+1) ⟨0,[],[]⟩ []):=aA rfl;clear z b1 b4;cases a:fU (cN s 0) ((cN s 0).length+1) ⟨0,[],[]⟩ [] with
  |error p=>
   rw [List.map_nil,a] at m;rw [a] at n;clear a;go_enter z6,zb;go_wp2_with (first
    |(go_at_call 15;refine (m.o _ _ _ v.o g.o.size).mono ?_;rintro d O ⟨r,f6,e5,e7,e6,rfl,a9,b0⟩;obtain ⟨e2,a3,_⟩:=a9.box;have d0:=a3.c2;rw [b0] at d0;have o:=aA (g.o.trans r);clear r a9 b0 a3)
    |(go_at_call 14;refine (aC D).mono ?_;rintro d C ⟨N,G,rfl,q,u⟩;have g:=aA q;have v:=aA u;clear q u)
    |go_in)
   go_quiet (fail);go_wp2;go_returns;refine ⟨_,[],p,2,rfl,Or.inr ⟨j,?_⟩,kP.nil _ _,aZ o.o (aQ ⟨_,rfl⟩)⟩;rw [n.o];exact ⟨rfl,rfl,rfl⟩
  |ok y=>
   obtain ⟨B,c9⟩:=y;rw [List.map_nil,a] at m;rw [a] at n;have S:=aA (λ(I:0<(cN s 0).length) (b:List Pc) (x:b.map iS=c9)=>aO4 j a I d7 x);clear a;go_enter z6,zb;go_upto_region 6 with (first
    |(go_at_call 15;refine (m.o _ _ _ v.o g.o.size).mono ?_;rintro d O ⟨r,e5,e7,b,rfl,b2,x⟩;have o:=aA (g.o.trans r);have i:=aA b2;have R:=aA x;clear r b2 x)
    |(go_at_call 14;refine (aC D).mono ?_;rintro d C ⟨N,G,rfl,q,u⟩;have g:=aA q;have v:=aA u;clear q u)
    |go_in)
   clear D m;obtain ⟨e6,L⟩:=i.o.pp;obtain ⟨e2,J,f3⟩:=L.box;have F:=J.c4;have Y:=J.c5;obtain ⟨A,M,b6,f7,f8,b7,b8⟩:=S.o (Nat.lt_of_le_of_lt (zj _) L.lt) b R.o;have Q:=aA (aN6 i.o.cs F M (by omega) (by rw [A];simp;omega));have P:=aA (λwx (z:aB O wx)=>aNa (i.o.cs.below z) M b6 (by omega));obtain ⟨g6,g7,e0⟩:=aY i.o.cs.row;obtain ⟨f9,g0,d9⟩:=aY i.o.pz;have U:=aA i.o.pz;subst e0;subst d9;have c5:aI (fF b=B.pz.map iY):=aA A;have c3:=aA b7;have d5:(fF b).length<=1000000:=by rw [A];simp;omega
   have Z:∀k (H:k<(fF b).length),(fF b)[k].1.size<=140737488355328:=λk H=>Nat.le_trans (b8 _ (zw _)) (by omega)
   have c6:=aA Z;have b5:=o.o.size;clear A M b6 b7 b8 Z S J L v g;go_upto_region 7 with (first
    |(go_at_call 16;refine (aHr e3 e4 (fF b) e9 c4.o).mono ?_;rintro d g8 ⟨g2,rfl,f,a1⟩;have W:=aA f;have e:=aA (aZ b9.o a1);clear f a1)
    |(go_at_call 17;refine (aC Q).mono ?_;rintro d e9 ⟨g4,rfl,a7,a0⟩;obtain ⟨e3,e4,rfl,b3⟩:=aGk a7 d5 c6.o;have c4:=aA b3;have b9:=aA a0;clear a7 a0 b3)
    |go_in)
   have f5:=e.o.size;have f0:=aD e.o F;have f1:=aD e.o Y;have f:=W.o;rw [c5.o] at f;clear W Q F Y;rcases aO1 f with ⟨rfl,t⟩|⟨k,a5,rfl,t⟩
   ·have E:=aA t;clear f t;go_wp2_with (first
     |(go_at_call 18;refine (P.o _ e.o).mono ?_;rintro d g9 ⟨g5,c7,c8,d1,rfl,a6,a8,a2⟩;have c1:=aA a6;have c2:=aA a8;have c0:=aA a2;clear a6 a8 a2)
     |go_in)
    go_returns;refine ⟨_,c7,c8,d1,rfl,Or.inr ⟨j,?_⟩,c2.o.mono (by omega),o.o.trans ((e.o.mono b5).trans (c0.o.mono (by omega)))⟩;rw [n.o];refine ⟨-1,E.o,Or.inr ⟨by omega,?_⟩⟩;rw [<-R.o];exact c1.o
   ·have E:=aA t;have I:=c3.o _ (zw a5);obtain ⟨d2,f2,a4⟩:=uO U.o (by omega);simp at a4;obtain ⟨rfl,rfl⟩:=a4;have X:O.cell? ⟨d2,k,none⟩=some (.int .i64 B.pz[k].2.2.2):=by rw [U.o.cellAt _ (by omega),aO2 _ k a5]
    have g1:=aD e.o X;clear f t P X;generalize B.pz[k].2.2.2=pk at *;go_wp2;go_quiet (fail);go_wp2;go_returns;refine ⟨_,[],pk,3,rfl,Or.inr ⟨j,?_⟩,kP.nil _ _,(o.o.trans (e.o.mono b5)).trans ((aQ ⟨_,rfl⟩).mono (by omega))⟩;rw [n.o];exact ⟨pk,E.o,Or.inl ⟨I,rfl,rfl,rfl⟩⟩
def qB(b:Nat)(a:Lt):List UInt8:=(if b=0 then [] else [32,124,32])++((if a.1 then [126] else [])++(cE 60 a.2).1)
def mI(c:List Lt):Nat->List UInt8
 |0=>[]
 |k+1=>mI c k++((c[k]?).map (qB k)).getD []
theorem aAz(c:List Lt)(a:Nat)(b:a<c.length):mI c (a+1)=mI c a++qB a c[a]:=by simp [mI,b]
def eR(c:List Lt):List UInt8:=(if c.length=0 then [36,102,97,108,115,101] else mI c c.length)++[46,10]
def aB0(c:List Lt)(b:List UInt8)(a:Int):Prop:=(bK c=true/\kM (eJ c)/\b=eR c/\a=0)\/(¬(bK c=true/\kM (eJ c))/\b=[]/\a=5)
theorem aB1(a:bK c=true):(c.length<=8/\aS c<=60)/\∀b∈c,gD b.2=true:=by simp only [bK,Bool.and_eq_true] at a;refine ⟨by simpa [cZ] using a.1.1,?_⟩;have:=a.1.2;rw [z5] at this;exact this
theorem aO5(a:gD l=true):(cE 60 l).1.length<=12000:=by obtain ⟨b,d⟩:=yW a;obtain ⟨g,_,f,_,_,e⟩:=aHo 60 l 0 d b;omega
theorem aF9(b:∀e∈c,gD e.2=true)(a:Nat):(mI c a).length<=12010*a:=by
 induction a with
 |zero=>simp [mI]
 |succ a ih=>
  by_cases d:a<c.length
  ·rw [aAz c a d,zl];have i:=aO5 (b c[a] (zw _));have:(qB a c[a]).length<=12010:=by
    unfold qB;simp only [zl];have f:(if a=0 then ([]:List UInt8) else [32,124,32]).length<=3:=by split<;>simp
    have g:(if c[a].1=true then ([126]:List UInt8) else []).length<=1:=by split<;>simp
    omega
   omega
  ·simp only [mI,zq (show c.length<=a by omega)];simp;omega
theorem aFa{a:List Pl}{i:Int}(h:uI a i)(q:∀t∈a,0<=t.2.2.2):(i<0->kM (a.map iY))/\(0<=i->¬kM (a.map iY)):=by
 rcases h with ⟨rfl,h⟩|⟨d,e,b,_,rfl⟩
 ·refine ⟨λ_ d e=>?_,λh=>by omega⟩;have p:d<a.length:=by simpa using e
  have b:=h d p;simp only [nK,not_or,not_exists] at b;refine ⟨by simp [iY];omega,λg f k=>?_⟩;have j:=b.2 g f;simp only [zo,iY] at k ⊢;simp only [yQ,not_and,not_or,Decidable.not_not] at j;have:=j k;rw [this.1,this.2]
 ·have u:=q a[d] (zw _);refine ⟨λh=>by omega,λ_ r=>?_⟩;have m:=r d (by simpa using e);simp only [zo,iY] at m;rcases b with b|⟨g,f,n,o⟩
  ·omega
  ·have:=m.2 g f n;simp at this;rcases o with h|h
   ·exact h this.1
   ·exact h this.2
theorem aO6(s:ByteArray):∀b f g d e,eO s b f g=some (d,e)->dL d=true:=by
 intro b;induction b with
 |zero=>intro f g d e a;simp [eO] at a
 |succ b ih=>
  intro f g d e a;rw [eO] at a;split at a
  ·split at a
   ·split at a
    ·rename_i i;simp only [Option.some.injEq,Prod.mk.injEq] at a;rw [<-a.1];exact i
    ·simp at a
   ·split at a
    ·split at a
     ·exact ih _ _ _ _ a
     ·simp at a
    ·split at a
     ·simp at a
     ·exact ih _ _ _ _ a
  ·simp at a
theorem aO7(s:ByteArray):∀e b a,b<=a->a<pO s e b->cO (aE s a)=true:=by
 intro e;induction e with
 |zero=>intro b a g d;simp [pO] at d;omega
 |succ e ih=>
  intro b a g d;rw [pO] at d;split at d
  ·rename_i f;by_cases i:a=b
   ·subst i;exact f.2
   ·exact ih (b+1) a (by omega) d
  ·omega
theorem aO8{c:Int}(a:cO c=true):c<128/\c≠10/\0<=c:=by unfold cO dO dP pJ at a;simp at a;omega
theorem aO9(a:ByteArray)(j:∀f,f<a.size->aE a f<128/\aE a f≠10)(r:a.size<=20):∀d b e,a.size-b<=d->b<=a.size->b=e->1<=a.size->eY a d b e=true:=by
 intro d;induction d with
 |zero=>
  intro b e k m n g;simp [eY];omega
 |succ d ih=>
  intro b e k m n g;rw [eY];split
  ·rename_i o;obtain ⟨q,t⟩:=j b o;have p:cM (aE a b)=1:=by unfold cM;rw [aG q]
   have i:bB a b=1:=by rw [pY a b (by omega),p]
   rw [aF (by rw [i];omega),i];exact ih (b+1) (e+1) (by omega) (by omega) (by omega) g
  ·simp;omega
theorem aOa{a d b:Nat}(g:d<=s.size)(i:b<d-a):aE (s.extract a d) b=aE s (a+b):=by
 have e:b<(s.extract a d).size:=by rw [ByteArray.size_extract];omega
 have f:a+b<s.size:=by omega
 rw [kZ _ _ e,kZ _ _ f];congr 1
 exact ByteArray.getElem_extract e
theorem aOb{b j:Nat}{e:Tk}(m:b<s.size)(a:dH s b=.tok e j)(d:e.kind=110):dL e.txt=true:=by
 unfold dH at a;split at a
 ·rename_i n;split at a
  ·cases a
  ·rename_i t;simp only [Nx.tok.injEq] at a;rw [<-a.1];simp only;have k:=aAo n;have v:=wF m k;have u:b+1<=dV s (b+1):=aIb s (b+1);have o:dV s b<=s.size:=aIc (by omega);have q:(s.extract b (dV s b)).size=dV s b-b:=by rw [ByteArray.size_extract];omega
   refine aO9 _ (λi f=>?_) (by omega) _ 0 0 (by omega) (by omega) rfl (by omega);rw [q] at f;rw [aOa o f];have:=aO8 (aO7 s _ b (b+i) (by omega) (by show b+i<dV s b;omega));omega
 ·split at a
  ·split at a
   ·rename_i x r p;simp only [Nx.tok.injEq] at a;rw [<-a.1];exact aO6 s _ _ _ _ _ p
   ·cases a
  ·split at a
   ·split at a
    ·simp only [Nx.tok.injEq] at a;rw [<-a.1] at d;simp at d
    ·cases a
   ·split at a
    ·rename_i g;simp only [Nx.tok.injEq] at a;rw [<-a.1] at d;simp only at d;rw [d] at g;simp [mB] at g
    ·cases a
theorem aOc(s:ByteArray):∀a e,∀d∈(bW s a e).1,d.kind=110->dL d.txt=true:=by
 intro a;induction a with
 |zero=>intro e;simp [bW]
 |succ a ih=>
  intro e;rw [bW];split
  ·rename_i g;split
   ·exact ih _
   ·split
    ·exact ih _
    ·split
     ·rename_i d j b;intro i hu;rcases zx.1 hu with rfl|hu
      ·exact aOb g b
      ·exact ih _ i hu
     ·simp
  ·intro d b f;simp at b;rw [b] at f;simp at f
theorem aOd(s:ByteArray)(d e g:Nat)(a:(aH (eC (bW s d e)) g).kind=110):dL (aH (eC (bW s d e)) g).txt=true:=by
 have j:∀f∈eC (bW s d e),f.kind=110->dL f.txt=true:=by
  intro f ht;unfold eC at ht;rcases zz.1 ht with ht|ht
  ·exact aOc s _ _ f ht
  ·generalize (bW s d e).2=b at ht;cases b with
   |none=>simp at ht
   |some p=>
    simp at ht;rw [ht];intro a;simp at a
 unfold aH at a ⊢;by_cases i:g<(eC (bW s d e)).length
 ·rw [zv,zu i,Option.getD_some] at a ⊢;exact j _ (zw _) a
 ·rw [zv,zq (by omega)] at a;simp [tD] at a
structure PT(k:Nat)(st st':bA)(l l':List Nd)(Q:List Pl)(M:List Nd):Prop where
 pl:st'.pz=st.pz++Q
 nd:l'=l++M
 tm:rZ M k
 nm:∀n∈M,aM n=false->dL n.1=true/\0<=n.2/\∃p∈Q,p.2.2.1=n.2
 vs:∀n∈M,aM n=true->0<=n.2
 ps:∀p∈Q,0<=p.2.2.2
theorem aOe(O:∀I,(aH T I).kind=110->dL (aH T I).txt=true):∀x,(∀q b l m k,cB T x q b l=.ok (m,k)->∃n j,PT 1 b m l k n j/\(q=true->aM (j.headD (⟨#[]⟩,0))=false))/\
  (∀b l f m k C,dW T x b l f=.ok (m,k,C)->∃n j B,C=f+B/\PT B b m l k n j):=by
 intro x;induction x with
 |zero=>exact ⟨λq b l m k a=>by simp [cB] at a,λb l f m k C a=>by simp [dW] at a⟩
 |succ x ih=>
  obtain ⟨W,J⟩:=ih;constructor
  ·intro q b l m k a;rw [cB] at a;split at a
   ·rename_i D;simp only [Except.ok.injEq,Prod.mk.injEq] at a;obtain ⟨rfl,rfl⟩:=a;have o:=nL (uJ (jN b.vars (aH T b.i).txt));refine ⟨[],[(⟨#[]⟩,jN b.vars (aH T b.i).txt)],⟨by simp,rfl,⟨by simp [eM,o],by simp [aL,o]⟩,λf hn d=>?_,λf hn _=>?_,λg e=>by simp at e⟩,λP=>?_⟩
    ·simp at hn;subst hn;rw [uJ] at d;cases d
    ·simp at hn;subst hn;exact (aF3 _ _).1
    ·rw [P] at D;cases D.2
   ·split at a
    ·simp at a
    ·rename_i G;simp only [ne_eq,Decidable.not_not] at G;have E:=O _ G;have S:=aAu (aAv E);have r:∀p:Int,aM ((aH T b.i).txt,p)=false:=λp=>S
     split at a
     ·split at a
      ·simp at a
      ·rename_i Z Y y U;simp only [Except.ok.injEq,Prod.mk.injEq] at a;obtain ⟨rfl,rfl⟩:=a;obtain ⟨n,j,B,D,e⟩:=J _ _ _ _ _ _ U;have H:=e.pl;have R:=e.nd;simp only at H;have Q:y=B:=by omega
       subst Q;have o:aX ((aH T b.i).txt,(y:Int))=y:=by unfold aX;rw [r];simp
       refine ⟨((aH T b.i).txt,q,(y:Int),((aH T b.i).pos:Int))::n,((aH T b.i).txt,(y:Int))::j,⟨?_,?_,⟨?_,?_⟩,λf hn d=>?_,λf hn d=>?_,λg hpm=>?_⟩,λ_=>r _⟩
       ·simp only;rw [H,aF5];simp
       ·rw [R,aAs];simp
       ·simp only [eM,o,zm];exact e.tm.1
       ·have:=e.tm.2;simp only [aL,o,zm,zp];omega
       ·rcases zx.1 hn with rfl|hn
        ·exact ⟨E,by simp,_,zd,rfl⟩
        ·obtain ⟨u,v,g,z,A⟩:=e.nm f hn d;exact ⟨u,v,g,by simp [z],A⟩
       ·rcases zx.1 hn with rfl|hn
        ·rw [r] at d;cases d
        ·exact e.vs f hn d
       ·rcases zx.1 hpm with rfl|hpm
        ·simp
        ·exact e.ps g hpm
     ·simp only [Except.ok.injEq,Prod.mk.injEq] at a;obtain ⟨rfl,rfl⟩:=a;have o:aX ((aH T b.i).txt,(0:Int))=0:=by unfold aX;rw [r];simp
      refine ⟨[((aH T b.i).txt,q,0,((aH T b.i).pos:Int))],[((aH T b.i).txt,0)],⟨rfl,rfl,⟨by simp [eM,o],by simp [aL,o]⟩,λf hn _=>?_,λf hn d=>?_,λg e=>by simp at e;subst e;simp⟩,λ_=>r _⟩
      ·simp at hn;subst hn;exact ⟨E,Int.le_refl _,_,List.mem_singleton.2 rfl,rfl⟩
      ·simp at hn;subst hn;rw [r] at d;cases d
  ·intro b l f m k C a;rw [dW] at a;split at a
   ·simp at a
   ·rename_i Z Y e;obtain ⟨n,j,i,_⟩:=W _ _ _ _ _ e;have F:=i.pl;have L:=i.nd;simp only at F;split at a
    ·obtain ⟨N,M,X,a0,t⟩:=J _ _ _ _ _ _ a;refine ⟨n++N,j++M,1+X,by omega,by rw [t.pl,F,zy],by rw [t.nd,L,zy],aWl i.tm t.tm,λp hm d=>?_,λp hm d=>?_,λg e=>(zz.1 e).elim (i.ps g) (t.ps g)⟩
     ·rcases zz.1 hm with hm|hm
      ·obtain ⟨u,v,g,z,A⟩:=i.nm p hm d;exact ⟨u,v,g,by simp [z],A⟩
      ·obtain ⟨u,v,g,z,A⟩:=t.nm p hm d;exact ⟨u,v,g,by simp [z],A⟩
     ·rcases zz.1 hm with hm|hm
      ·exact i.vs p hm d
      ·exact t.vs p hm d
    ·split at a
     ·simp only [Except.ok.injEq,Prod.mk.injEq] at a;obtain ⟨rfl,rfl,rfl⟩:=a;exact ⟨n,j,1,rfl,F,L,i.tm,i.nm,i.vs,i.ps⟩
     ·simp at a
structure oF(Q:List Pl)(l:List Nd):Prop where
 tm:rZ l 1
 nm:∀n∈l,aM n=false->dL n.1=true/\0<=n.2/\∃p∈Q,p.2.2.1=n.2
 vs:∀n∈l,aM n=true->0<=n.2
 hd:aM (l.headD (⟨#[]⟩,0))=false
theorem oF.more{d e:List Pl}(b:oF d l)(j:∀p∈d,p∈e):oF e l:=
 ⟨b.tm,λk g i=>by obtain ⟨a,f,p,m,n⟩:=b.nm k g i;exact ⟨a,f,p,j p m,n⟩,b.vs,b.hd⟩
theorem aOf(x:∀r,(aH T r).kind=110->dL (aH T r).txt=true):∀n j c k m,fN T n j c=.ok (k,m)->(∀b∈c,oF j.pz b.2)->(∃f,k.pz=j.pz++f/\∀d∈f,0<=d.2.2.2)/\∀b∈m,oF k.pz b.2:=by
 intro n;induction n with
 |zero=>intro j c k m a;simp [fN] at a
 |succ n ih=>
  intro j c k m a z;rw [fN] at a;split at a
  ·simp at a
  ·rename_i u o g;obtain ⟨f,L,e,A⟩:=(aOe x _).1 _ _ _ _ _ g;have i:=e.pl;have t:=e.nd;simp only at i;simp only [zt] at t;subst t;have y:oF u.pz o:=⟨e.tm,λD B C=>by obtain ⟨b,J,d,E,F⟩:=e.nm D B C;exact ⟨b,J,d,by rw [i];simp [E],F⟩,e.vs,A rfl⟩;have q:∀p:Bool,∀b∈c++[(p,o)],oF u.pz b.2:=by
    intro p b hx;rcases zz.1 hx with hx|hx
    ·exact (z b hx).more λd g=>by rw [i];simp [g]
    ·simp at hx;subst hx;exact y
   split at a
   ·obtain ⟨⟨v,G,I⟩,H⟩:=ih _ _ _ _ a (q _);exact ⟨⟨f++v,by rw [G];simp only;rw [i,zy],λd g=>(zz.1 g).elim (e.ps d) (I d)⟩,H⟩
   ·simp only [Except.ok.injEq,Prod.mk.injEq] at a;obtain ⟨rfl,rfl⟩:=a;exact ⟨⟨f,i,e.ps⟩,q _⟩
theorem aOg(k:∀j,(aH T j).kind=110->dL (aH T j).txt=true){f g:bA}{c:List Lt}(a:jE T f=.ok (g,c)):(∃b,g.pz=f.pz++b/\∀e∈b,0<=e.2.2.2)/\∀i∈c,oF g.pz i.2:=by
 unfold jE at a;cases hq:jO T f with
 |error e=>rw [hq] at a;simp at a
 |ok r=>
  obtain ⟨t,q⟩:=r;rw [hq] at a;simp only at a;split at a
  ·simp only [Except.ok.injEq,Prod.mk.injEq] at a;obtain ⟨rfl,rfl⟩:=a;unfold jO at hq;split at hq
   ·simp only [Except.ok.injEq,Prod.mk.injEq] at hq;obtain ⟨rfl,rfl⟩:=hq;exact ⟨⟨[],by simp,λe m=>by simp at m⟩,λi d=>by simp at d⟩
   ·obtain ⟨⟨b,n,p⟩,o⟩:=aOf k _ _ _ _ _ hq (λi d=>by simp at d);exact ⟨⟨b,n,p⟩,o⟩
  ·simp at a
theorem aOh(q:∀o,(aH T o).kind=110->dL (aH T o).txt=true):∀j e g f i,fU T j e g=.ok (f,i)->(∀a∈e.pz,0<=a.2.2.2)->(∀a∈g,∀d∈a.2,oF e.pz d.2)->(∀a∈f.pz,0<=a.2.2.2)/\∀a∈i,∀d∈a.2,oF f.pz d.2:=by
 intro j;induction j with
 |zero=>intro e g f i b;simp [fU] at b
 |succ j ih=>
  intro e g f i b k m;rw [fU] at b;split at b
  ·simp only [Except.ok.injEq,Prod.mk.injEq] at b;obtain ⟨rfl,rfl⟩:=b;exact ⟨k,m⟩
  ·split at b
   ·simp at b
   ·rename_i z c r;obtain ⟨⟨x,p,v⟩,u⟩:=aOg q r;refine ih _ _ _ _ b (λa hp=>by rw [p] at hp;exact (zz.1 hp).elim (k a) (v a)) λa hp d n=>?_
    rcases zz.1 hp with hp|hp
    ·exact (m a hp d n).more λy t=>by rw [p];simp [t]
    ·simp at hp;subst hp;exact u d n
theorem aFb:∀(l:List Nd) (a:List Nd×List Int),∃b,(l.foldl cD a).2=a.2++b
 |[],a=>⟨[],by simp⟩
 |n::l,a=>by
  obtain ⟨b,d⟩:=aFb l (cD a n);rw [zn,d];unfold cD;split
  ·split
   ·exact ⟨[n.2]++b,by simp⟩
   ·exact ⟨b,rfl⟩
  ·exact ⟨b,rfl⟩
theorem jP.more{s i:List Int}{a b:Int}(e:jP s a b):jP (s++i) a b:=by obtain ⟨f,d,g⟩:=e;exact ⟨f,by rw [List.getElem?_append_left (zk.1 d).1];exact d,g⟩
theorem aOi:∀(c b:List Lt) (a:List Lt×List Int),a.2.Nodup->aO (iH (jP a.2)) b a.1->(c.foldl dM a).2.Nodup/\aO (iH (jP (c.foldl dM a).2)) (b++c) (c.foldl dM a).1:=by
 intro c;induction c with
 |nil=>intro b a d e;simpa using ⟨d,e⟩
 |cons x c ih=>
  intro b a d e;rw [zn];have j:=aWn x.2 [] ([],a.2) d aO.nil;obtain ⟨t,k⟩:=aFb x.2 ([],a.2);simp only at k;have n:(dM a x).2.Nodup/\aO (iH (jP (dM a x).2)) (b++[x]) (dM a x).1:=by
   refine ⟨j.1,aO.snoc (e.mono λf g m=>⟨m.1,m.2.mono λr q p=>aJ9 (λf g o=>?_) p⟩) ⟨rfl,?_⟩⟩
   ·show jP (dY x.2 a.2).2 f g;unfold dY;rw [k];exact o.more
   ·have i:=j.2;rw [zt] at i;exact i
  have:=ih (b++[x]) (dM a x) n.1 n.2;rwa [zy,List.singleton_append] at this
theorem aB2(c:List Lt):(dB (bV c)).2.Nodup/\aO (iH (jP (dB (bV c)).2)) (bV c) (aT c):=aOi (bV c) [] ([],[]) (by simp) aO.nil
theorem aOj:∀(c a:List Lt),a.Nodup->(c.foldl eE a).Nodup:=by
 intro c;induction c with
 |nil=>intro a b;exact b
 |cons x c ih=>
  intro a b;rw [zn];refine ih _ ?_;unfold eE;split
  ·exact b
  ·rename_i f;rw [za];refine ⟨b,by simp,λg e i d=>?_⟩;simp at d;subst d;rintro rfl;exact f ((xP _ _).2 e)
theorem aOk:∀(c a:List Lt),(a++c).Nodup->c.foldl eE a=a++c:=by
 intro c;induction c with
 |nil=>intro a _;simp
 |cons x c ih=>
  intro a b;rw [zn];have f:eE a x=a++[x]:=by unfold eE;rw [aF];intro e;have d:=(xP _ _).1 e;rw [za] at b;exact b.2.2 x d x (by simp) rfl
  rw [f,ih (a++[x]) (by simpa using b)];simp
theorem aOl(c:List Lt):bV (bV c)=bV c:=by have:=aOk (bV c) [] (by simpa [bV] using aOj c [] (by simp));simpa [bV] using this
theorem aOm(c:List Lt):aT (aT c)=aT c:=by obtain ⟨a,b⟩:=aB2 c;have d:=aC8 (jP.pairs a) b;rw [<-d];show (dB (bV (bV c))).1=(dB (bV c)).1;rw [aOl]
theorem aFc{b a:Nd}(f:gA V b a):aX b=aX a/\aM b=aM a:=by
 rcases f with ⟨d,e,_,_⟩|⟨_,rfl⟩
 ·exact ⟨by rw [nL d,nL e],by rw [d,e]⟩
 ·exact ⟨rfl,rfl⟩
theorem aOn{f:List Nd}(b:aO (gA V) l f):∀a,rZ l a->rZ f a:=by
 induction b with
 |nil=>intro a b;exact b
 |@cons n n' l f h1 h2 ih=>
  intro a d;cases a with
  |zero=>have:=d.2;simp at this
  |succ a=>
   have e:=ih (a+aX n) ⟨by have:=d.1;simpa [eM] using this,by have:=d.2;simp [aL] at this;omega⟩;rw [(aFc h1).1] at e;refine ⟨by simpa [eM] using e.1,?_⟩;have:=e.2;simp only [aL,zp];omega
theorem aB3{f g:Type}{d:f->g->Prop}{l:List f}{e:List g}(i:aO d l e):∀a∈e,∃b∈l,d b a:=by
 induction i with
 |nil=>intro a hb;simp at hb
 |cons h1 _ ih=>
  intro a hb;rcases zx.1 hb with rfl|hb
  ·exact ⟨_,by simp,h1⟩
  ·obtain ⟨b,j,k⟩:=ih a hb;exact ⟨b,by simp [j],k⟩
theorem aOo{a:List Lt}(b:aO (iH V) c a):aS c=aS a:=by
 induction b with
 |nil=>rfl
 |cons h1 _ ih=>
  have:=h1.2.length;simp [aS] at ih ⊢;omega
theorem aOp{b:List Nd}(d:aO (gA V) l b)(a:Nd):aM (l.headD a)=aM (b.headD a):=by
 cases d with
 |nil=>rfl
 |cons q _=>exact (aFc q).2
theorem aOq{j:List Pl}(p:∀b∈c,oF j b.2)(q:∀i∈j,i.2.2.1<=5)(a:cZ (aT c)=true):bK (aT c)=true:=by
 obtain ⟨F,m⟩:=aB2 c;have G:aS (aT c)<=60:=by unfold cZ at a;simp at a;exact a.2
 have I:(dB (bV c)).2.length<=60:=by have:=(rG (bV c)).2;rw [aOo m] at this;omega
 unfold bK;rw [a,aOm,Bool.true_and,Bool.and_eq_true,z5];refine ⟨λd n=>?_,by simp⟩;obtain ⟨b,A,_,f⟩:=aB3 m d n;have e:=p b ((rF c).2.2 b A);have y:∀g∈d.2,dE g=true:=by
  intro g u;obtain ⟨C,v,x⟩:=aB3 f g u;unfold dE;rcases x with ⟨_,o,_,J,B,L⟩|⟨k,rfl⟩
  ·rw [aG o];have:=(zk.1 B).1;simp;omega
  ·obtain ⟨D,M,i,E,N⟩:=e.nm C v k;have:=q i E;rw [aF (by simp [k])];simp [D];omega
 have z:=aWm _ 1 (aOn f 1 e.tm) y;have H:=xQ (aT c) d n;unfold gD jI;have r:=e.hd;have t:aM (d.2.headD (⟨#[]⟩,0))=false:=by rw [<-aOp f];exact r
 rw [z,t];simp;omega
theorem aFd{j:List (List Lt)}{n:Int}(a:kO s j n 0):∀c∈j,bK c=true:=by
 rcases a with ⟨_,_,_,a⟩|⟨_,a⟩
 ·cases a
 ·cases b:rU s with
  |error g=>rw [b] at a;have:=a.2.2;omega
  |ok m=>
   obtain ⟨x,y⟩:=m;rw [b] at a;obtain ⟨m,f,⟨_,_,_,a⟩|⟨A,a⟩⟩:=a
   ·omega
   ·rcases a with ⟨_,_,_,_,_,_,a⟩|⟨q,rfl,_,_⟩
    ·omega
    ·obtain ⟨o,p⟩:=aOh (aOd s _ _) _ _ _ _ _ b (λg b=>by simp at b) (λg b=>by simp at b);have u:∀e d,¬nK x.pz e d:=by
      rcases f with ⟨_,f⟩|⟨e,d,_,_,z⟩
      ·exact f
      ·have:=o _ (zw d);omega
     intro c r;obtain ⟨g,i,rfl⟩:=zh.1 r;obtain ⟨k,t,rfl⟩:=ze i;refine aOq (p _ i) (λB v=>?_) ?_
     ·obtain ⟨e,d,rfl⟩:=ze v;have:=u e d;unfold nK at this;rw [not_or] at this;omega
     ·have:=q k t;unfold pR at this;rw [not_or] at this;simpa using this.2
theorem aOr(s:ByteArray)(w:World)(o:s.size<=140737488355328):Calls z8 5 #[.string s] w λa p=>RdQ s w a p:=by
 have f:=aA (aAy s w o);go_enter Tryz.func5,Tryz.ntmps5;go_wp2_with (first
  |(go_at_call 10;refine (aC f).mono ?_;rintro a r ⟨q,k,m,n,rfl,b,d,e⟩;have g:=aA b;have i:=aA d;have j:=aA e;clear b d e)
  |go_in)
 go_returns;exact ⟨_,k,m,n,rfl,g.o,i.o,j.o⟩
