import Derived.Test.YtbpiopdphigodaaGreatDoorCNew0P
import Derived.Test.YtbpiopdphigodaaGreatDoorXSr7P
open Bool renaming and_eq_true→zy,false_eq_true→zp
open List renaming all_eq_true→zz,getElem_mem→zx,getElem?_eq_getElem→zv,any_eq_true→zt,mem_of_getElem?→zs,filterMap_cons→zq,mem_map→zo,map_map→zn,flatMap_cons→zm,mem_flatMap→zl,map_id→zk
open Nat renaming le_refl→zr
open Prod renaming snd→zw
namespace Go.Proofs.YtbpiopdphigodaaGreatDoor
open Go.RowKit Go.WideMaps Go.Shelf
set_option maxHeartbeats 4000000
set_option maxRecDepth 100000
variable{at':Int}{cs out:List (List Lt)}{T:List (aK×Value)}{L:List Cd}{c d:List Lt}{ks:List Nat}{n:Nat}
theorem uI.none{l:List Pl}{b:Int}(a:uI l b)(e:∀i a,¬nK l i a):b=-1:=by
 rcases a with ⟨rfl,_⟩|⟨i,f,a,_⟩
 ·rfl
 ·exact absurd a (e i f)
theorem aKs{e:ByteArray}{f:Int}(a:kO e out at' f)(t:e.size<=3000){i:bA}{cs:List (Nat×List Lt)}(q:rU e=.ok (i,cs))(l:∀b a,¬nK i.pz b a)(o:∀b a,¬pR cs b a):out=cs.map (λr=>aT r.2)/\at'=0/\f=0:=by
 rcases a with ⟨g,_⟩|⟨_,a⟩
 ·omega
 ·rw [q] at a;obtain ⟨u,g,j⟩:=a;have:=g.none l;subst this;rcases j with ⟨s,_⟩|⟨_,k⟩
  ·omega
  ·rcases k with ⟨b,p,m,_⟩|⟨_,rfl,rfl,rfl⟩
   ·exact absurd m (o b p)
   ·exact ⟨rfl,rfl,rfl⟩
def pN:Nd:=(⟨#[112]⟩,0)
def cP:List Lt:=[(false,[pN])]
def cNp:List Lt:=[(true,[pN])]
theorem aYq{a:Nat->Nat->Prop}(o:∀f,a f f)(p:∀f i,a f i->a i f)(k:∀f i l,a f i->a i l->a f l):∃q:Nat->Nat,∀b e,q b=q e↔a b e:=by
 refine ⟨λb=>Classical.epsilon (a b),λb e=>⟨λg=>?_,λg=>?_⟩⟩
 ·have m:a b (Classical.epsilon (a b)):=Classical.epsilon_spec ⟨b,o b⟩;have r:a e (Classical.epsilon (a e)):=Classical.epsilon_spec ⟨e,o e⟩;have g:Classical.epsilon (a b)=Classical.epsilon (a e):=g;rw [g] at m;exact k _ _ _ m (p _ _ r)
 ·have:a b=a e:=funext λl=>propext ⟨λj=>k _ _ _ (p _ _ g) j,λj=>k _ _ _ g j⟩
  show Classical.epsilon (a b)=Classical.epsilon (a e);rw [this]
theorem aYr(g:List Tg)(i j:Nat):∃f:Nat->Nat,∀b e,f b=f e↔eX g i j b e:=
 aYq (λk=>Cl.refl k) (λ_ _ a=>Cl.symm a) (λ_ _ _ a l=>Cl.trans a l)
def rA(n:Nd):Prop:=aM n=false/\aX n=0
theorem zY{n:Nd}(M:rA n)(v w:Int)(e:List (Int×Lt))(t:∀a∈e,∃g,a.2.2=[g]/\rA g)(x:aS (aT (e.map zw))<=500):jG [(v,n),(w,n)] 0 1 e (aT (e.map zw)) true 0:=by
 have s:∀o∈[(v,n),(w,n)]++bL e,rA o.2:=by
  intro o hx;rcases List.mem_append.1 hx with hx|hx
  ·simp at hx;rcases hx with rfl|rfl<;>exact M
  ·obtain ⟨a,O,A⟩:=zl.1 hx;obtain ⟨g,p,r⟩:=t a O;rw [p] at A;simp at A;subst A;exact r
 obtain ⟨b,k⟩ : ∃b,[(v,n),(w,n)]++bL e=b:=⟨_,rfl⟩;have q:∀f,(aJ (b.map zw)).ch f=[]:=by
  intro f;unfold aJ;simp only;cases hi:(b.map zw)[f]? with
  |none=>rfl
  |some g=>
   simp only;have r:g∈b.map zw:=zs hi;obtain ⟨o,hx,rfl⟩:=zo.1 r;rw [<-k] at hx;rw [(s o hx).2];rfl
 have u:∀f,bG b f=f:=by
  intro f;cases hi:b[f]? with
  |none=>exact pT (List.getElem?_eq_none_iff.1 hi)
  |some o=>exact nR hi (s o (by rw [k];exact zs hi)).1
 have y:∀f m,eX b 0 1 f m->(aJ (b.map zw)).lab f=(aJ (b.map zw)).lab m:=by
  intro f m i;induction i with
  |refl=>rfl
  |base i=>
   rcases i with i|⟨rfl,rfl⟩
   ·rw [u,u] at i;rw [i]
   ·unfold aJ;rw [<-k];rfl
  |symm _ ih=>exact ih.symm
  |trans _ _ ih1 ih2=>exact ih1.trans ih2
  |down _ _ _ i=>rw [q] at i;simp at i
 obtain ⟨D,B⟩:=aYr b 0 1;refine Or.inr ⟨⟨λf m i _ _=>?_,λC _=>⟨C,λm _ _ U F=>?_⟩⟩,D,e.map (λa=>a.2.2),?_,?_,Or.inr ⟨?_,?_,rfl,rfl⟩⟩
 ·rw [k] at i ⊢;exact y f m i
 ·rw [k,q] at F;cases F
 ·rw [k];exact B
 ·rw [k];have P:∀(j:List (Int×Lt)) (l:List Tg),l++bL j=b->(∀a∈j,∃g,a.2.2=[g]/\rA g)->aO (λC Q=>aU (aJ (b.map zw)) (eX b 0 1) D [C] Q) (eG l.length j) (j.map (λa=>a.2.2)):=by
   intro j;induction j with
   |nil=>intro _ _ _;exact aO.nil
   |cons a j ih=>
    intro l z H;obtain ⟨g,p,r⟩:=H a (by simp);have N:bL (a::j)=(a.1,g)::bL j:=by simp [bL,p]
    rw [N] at z;have J:(b.map zw)[l.length]?=some g:=by rw [<-z];simp
    refine aO.cons ?_ ?_
    ·show aU _ _ _ _ a.2.2;rw [p];have E:(aJ (b.map zw)).lab l.length=g:=by unfold aJ;simp only [J,Option.getD_some]
     have:=aU.name (G:=aJ (b.map zw)) (R:=eX b 0 1) (rep:=D) (i:=l.length) (j:=l.length) (r:=[]) (l:=[]) (Cl.refl _) (by unfold Gr.named;rw [E];exact r.1) (by rw [q];exact aU.nil);rwa [E] at this
    ·have:=ih (l++[(a.1,g)]) (by rw [<-z];simp) (λS I=>H S (by simp [I]));simpa [p] using this
  exact P e [(v,n),(w,n)] k t
 ·have:cW e (e.map λa=>a.2.2)=e.map zw:=by
   unfold cW;clear s k q u y B t x;induction e with
   |nil=>rfl
   |cons a j ih=>simp at ih ⊢;exact ih
  rw [this];exact x
 ·have:cW e (e.map λa=>a.2.2)=e.map zw:=by
   unfold cW;clear s k q u y B t x;induction e with
   |nil=>rfl
   |cons a j ih=>simp at ih ⊢;exact ih
  rw [this]
theorem bX.push{x:aK×Int}{g:List (aK×Int)}{L':List Cd}{f:Nat}{b e:Bool}(a:bX (x::g) L n b L' f e)(k:x.2=0)(l:cZ x.1.c=true)(m:jK x.1.c=false):∃i j,bX g (iO L.length (L++[eH x.1 i j n]) L.length) (n+1) b L' f e:=by unfold bX at a;rw [aF (by simp [k,l]),aF (by simp [m])] at a;exact a
theorem aYs:rA pN:=⟨by kernel_rfl,by kernel_rfl⟩
theorem bU.new(b:World)(a:Value):bU (b.alloc (.cells (gT a) 153)) b.heap.size b.heap.size a []:=by
 have g:(b.alloc (.cells (gT a) 153)).heap[b.heap.size]?=some (.cells (gT a) 153):=heap_alloc_new b _;have e:∀f,(b.alloc (.cells (gT a) 153)).cell? ⟨b.heap.size,f,none⟩=(gT a)[f]?:=λf=>by unfold World.cell?;simp only [g];rfl
 refine ⟨zr _,⟨_,g⟩,by rw [e];exact aEd a,λi j=>⟨_,by rw [e];exact aAi a i (by omega),rfl⟩,⟨.slice none 0 0,by rw [e];exact aAi a 60 (by omega),World.ownsRow_nil _ _ _ _⟩,lZ.nil⟩
theorem aKt(a:bK c=true):lQ c/\c.length<=8:=by simp only [bK,zy,cZ,decide_eq_true_eq,zz] at a;exact ⟨λe b=>yW (a.1.2 e b),a.1.1.1⟩
theorem dD.of{a:World}{e:Option Addr}(h:bP a e c)(w:pL a e c)(v:c.length<=8)(x:lQ c):dD a a.heap.size e c:=by
 refine ⟨v,λb r=>?_⟩;obtain ⟨i,s,g,j,k,l,m,o⟩:=h.cell b r;refine ⟨i,s,g,j,k,Or.inl (World.block_lt_of_cell? a _ l),l,m,w b r i s g _ j k m,o,λp z=>?_⟩;have y:=aTi (q:=0) (x c[b] (zx _)).1;have t:0<c[b].2.length:=by
  rcases Nat.eq_zero_or_pos c[b].2.length with h|h
  ·exact absurd (List.eq_nil_of_length_eq_zero h) y
  ·exact h
 obtain ⟨A,B,f,u,_⟩:=o.cell 0 t;rw [z] at f;simp at f;rw [f];exact World.block_lt_of_cell? a _ u
theorem pL.below{w w1:World}{a:Option Addr}(t:pL w a c)(v:bP w a c){B:Nat}(k:Below B w w1)(u:w.heap.size<=B):pL w1 a c:=by
 intro j o b p q n s g m;obtain ⟨r,x,e,f,i,y,l,_⟩:=v.cell j o;rw [g] at i;obtain ⟨rfl,rfl⟩ : b=r/\p=x:=by simpa using i
 rw [Below.at' k u l] at m;obtain ⟨rfl,rfl,rfl⟩ : e=q/\_=n/\f=s:=by simpa using m
 exact t j o b p e _ f g l
theorem aYt(m f:Option Addr)(p i:Nat)(b a:List Lt)(e:World)(j:bP e m b)(k:bP e f a)(F:pL e m b)(G:pL e f a)(U:b.length<=p)(D:bK b=true)(E:bK a=true):Calls Tryz.prog 77 #[.slice m b.length p,.slice f a.length i] e λt a0=>∃l:Bool,t=.returned (.bool l)/\(l=true↔b.length<=a.length/\jL a b [])/\aB e a0:=by
 obtain ⟨u,Y⟩:=aKt D;obtain ⟨v,Z⟩:=aKt E;have r:=aA u;have s:=aA v;have J:=aA j;have M:=aA k;have R:=aA F;have S:=aA G;clear D E u v j k F G;go_enter Tryz.func77,Tryz.ntmps77;go_upto_region 1 with (fail);apply wp_region_lit;refine aM3 rfl rfl rfl rfl _ _ _ _ rfl rfl rfl rfl f a.length i rfl (by rfl) (by rfl) (by rfl) ?_;have w:=dD.of J.o R.o Y r.o;have x:=dD.of M.o S.o Z s.o;have o:aB e (e.alloc (.cells (gT (.slice f a.length i)) 153)):=(Below.refl _ _).alloc (zr _) _;have q:=aA o;have I:=aA (aMc b.length e.heap.size e.heap.size f i a [] _ m p b (zr _) (bU.new e (.slice f a.length i)) (x.fr (Fr.of_below o)) (w.fr (Fr.of_below o)) U s.o r.o (by simp));clear w x o;by_cases z:b.length<=a.length
 ·have W:(b.length:Int)<=(a.length:Int):=by omega
  go_wp2_with (go_at_call 104;refine (aC I).mono ?_;rintro t a3 ⟨l,a1,rfl,A,y,-,B,C⟩;have O:=aA A;have N:=aA (q.o.trans ((y.below (by simp)).mono (zr _)));have P:=aA B;have Q:=aA C;clear A y B C);go_ret;refine ⟨l,rfl,?_,N.o⟩;cases l with
  |true=>
   obtain ⟨V,X⟩:=P.o rfl;refine ⟨λ_=>⟨z,?_⟩,λ_=>rfl⟩;obtain ⟨H,j,k,_⟩:=aTr (d:=a) O.o.ok.look;exact ⟨H,j,V.ext k,X H j k⟩
  |false=>exact ⟨λg=>by simp at g,λg=>absurd g.2 (Q.o rfl)⟩
 ·have W:decide ((b.length:Int)<=(a.length:Int))=false:=by rw [decide_eq_false_iff_not];omega
  have a2:(a.length:Int)<(b.length:Int):=by omega
  go_wp2;go_ret;exact ⟨false,rfl,⟨λg=>by simp at g,λg=>absurd g.1 z⟩,q.o⟩
theorem aYu(j:Nat)(e f:Option Addr)(g i:Nat)(c d:List Lt)(b:World)(s:bN j b (.slice e c.length g) c)(t:bN j b (.slice f d.length i) d)(k:bK c=true)(l:bK d=true):Calls Tryz.prog 77 #[.slice e c.length g,.slice f d.length i] b λa m=>a=.returned (.bool (cH c d))/\aB b m:=by
 obtain ⟨x,z,a,v,q,o⟩:=s.lits (kL k);cases a;obtain ⟨y,A,a,B,r,p⟩:=t.lits (kL l);cases a;refine (aYt e f g i c d b q r o p v k l).mono ?_;rintro a m ⟨C,rfl,w,u⟩;exact ⟨by rw [aL8 w],u⟩
theorem aDl(k:bK c=true)(l:bK d=true):lM c d:=λa b e f g m i j=>aYu a b e f g c d m i j k l
def mE(c:List Lt):Bool:=c.all λa=>match a.2 with|[n]=>!aM n && aX n==0|_=>false
theorem xB(e:mE c=true){a:Lt}(f:a∈c):∃n,a.2=[n]/\rA n:=by
 have:=zz.1 e a f;split at this
 ·rename_i n b;simp at this;exact ⟨n,b,this.1,this.2⟩
 ·cases this
def xC(c d:List Lt):Bool:=decide (c.length<=d.length) && c.all λa=>d.any λb=>decide (b=a)
theorem aKu{a:Lt}:(d.any λb=>decide (b=a))=true↔a∈d:=by
 rw [zt];constructor
 ·rintro ⟨b,g,e⟩;have:=of_decide_eq_true e;subst this;exact g
 ·intro f;exact ⟨a,f,fH rfl⟩
theorem aDm(i:mE c=true):cH c d=xC c d:=by
 refine (aL8 ?_).symm;unfold xC;rw [zy,decide_eq_true_eq,zz];refine and_congr Iff.rfl ⟨λf=>?_,λ⟨k,_,_,f⟩ e b=>?_⟩
 ·refine ⟨λ_=>[(⟨#[]⟩,0)],λ_=>by kernel_rfl,λm l j=>by simp [look] at j,λe b=>?_⟩;obtain ⟨n,a,g⟩:=xB i b;have:=aKu.1 (f e b);rw [a,rT];simp only [g.1,zp,if_false];rw [show ([n]++subst _ []:List Nd)=e.2 by rw [a];rfl];exact this
 ·obtain ⟨n,a,g⟩:=xB i b;have:=f e b;rw [a,rT] at this;simp only [g.1,zp,if_false] at this;rw [show ([n]++subst k []:List Nd)=e.2 by rw [a];rfl] at this;exact aKu.2 this
theorem aKv{a:Nat×Nat}(b:a∈gM c d):a.1<c.length/\a.2<d.length/\jT c a.1=jT d a.2:=by obtain ⟨q,r⟩:=a;obtain ⟨k,m,j⟩:=List.getElem_of_mem b;have e:=aDe (k:=k) (by rw [zv m,j]);unfold gM mO at b;obtain ⟨o,_,f⟩:=zl.1 b;unfold lV at f;obtain ⟨p,l,g⟩:=zo.1 f;have i:=(List.mem_filter.1 l).2;simp at g i;obtain ⟨rfl,rfl⟩:=g;exact ⟨e.1,e.2,i⟩
theorem aKw(k:mE c=true)(l:mE d=true){b e:Nat}(i:b<c.length)(j:e<d.length)(a:jT c b=jT d e):∃n,c[b].2=[n]/\d[e].2=[n]/\rA n:=by obtain ⟨n,f,m⟩:=xB k (zx i);obtain ⟨o,g,_⟩:=xB l (zx j);unfold jT at a;rw [zv i,zv j] at a;simp [f,g] at a;subst a;exact ⟨n,f,g,m⟩
theorem aDn(f:mE c=true)(k:Int)(j:Nat):∀e∈(c.eraseIdx j).map (λa=>(k,a)),∃b,e.2.2=[b]/\rA b:=by intro e i;obtain ⟨a,g,rfl⟩:=zo.1 i;exact xB f (List.mem_of_mem_eraseIdx g)
def aDo(c:List Lt)(b:Nat)(d:List Lt)(e:Nat)(a:Nat×Nat):Option (aK×Int):=if kS c a.1≠kS d a.2 then some (⟨2,b,e,a.1,a.2,aT (c.eraseIdx a.1++d.eraseIdx a.2)⟩,0) else none
def aDp(c:List Lt)(b:Nat)(a:Nat×Nat):Option (aK×Int):=if a.1<a.2/\kS c a.1=kS c a.2 then some (⟨3,b,0,a.1,a.2,aT (c.eraseIdx a.2)⟩,0) else none
def aKx(c d:List Lt):Bool:=(gM c d).all λa=>decide (aS (aT (c.eraseIdx a.1++d.eraseIdx a.2))<=500)
def aKy(c:List Lt):Bool:=(gM c c).all λa=>decide (aS (aT (c.eraseIdx a.2))<=500)
theorem aDq{f j:Type}{b e:f->Option j}:∀(a:List f),(∀x∈a,b x=e x)->a.filterMap b=a.filterMap e
 |[],_=>rfl
 |x::a,h=>by rw [zq,zq,h x (by simp),aDq a λi g=>h i (by simp [g])]
theorem aYv(e f:Nat)(g:mE c=true)(i:mE d=true)(w:aKx c d=true):kT c e d f=(gM c d).filterMap (aDo c e d f):=by
 unfold kT;refine aDq _ λa m=>?_
 obtain ⟨j,k,u⟩:=aKv m;obtain ⟨n,p,q,v⟩:=aKw g i j k u;have t:=of_decide_eq_true (zz.1 w a m);have hr:bE 0 [(c,a.1),(d,a.2)]=(c.eraseIdx a.1).map (λb=>((0:Int),b))++(d.eraseIdx a.2).map (λb=>((1:Int),b)):=by simp [bE]
 have l:(bE 0 [(c,a.1),(d,a.2)]).map zw=c.eraseIdx a.1++d.eraseIdx a.2:=by
  rw [hr,List.map_append,zn,zn];congr 1
  ·exact zk _
  ·exact zk _
 have r:jG (aW 0 c[a.1].2++aW 1 d[a.2].2) 0 c[a.1].2.length (bE 0 [(c,a.1),(d,a.2)]) (aT (c.eraseIdx a.1++d.eraseIdx a.2)) true 0:=by
  have:=zY v 0 1 (bE 0 [(c,a.1),(d,a.2)]) (by
   rw [hr];intro o hr;rcases List.mem_append.1 hr with hr|hr
   ·exact aDn g 0 _ o hr
   ·exact aDn i 1 _ o hr) (by rw [l];exact t)
  rw [l] at this;rw [p,q];exact this
 have s:=aK0 j k r;unfold nW aDo;rw [s];simp
theorem aYw(e:Nat)(b:mE c=true)(t:aKy c=true):sB c e=(gM c c).filterMap (aDp c e):=by
 unfold sB;refine aDq _ λa j=>?_
 obtain ⟨f,g,r⟩:=aKv j;obtain ⟨n,l,m,s⟩:=aKw b b f g r;have q:=of_decide_eq_true (zz.1 t a j);have k:bE 0 [(c,a.2)]=(c.eraseIdx a.2).map (λu=>((0:Int),u)):=by simp [bE]
 have i:(bE 0 [(c,a.2)]).map zw=c.eraseIdx a.2:=by rw [k,zn];exact zk _
 have o:jG (aW 0 c[a.1].2++aW 0 c[a.2].2) 0 c[a.1].2.length (bE 0 [(c,a.2)]) (aT (c.eraseIdx a.2)) true 0:=by have:=zY s 0 0 (bE 0 [(c,a.2)]) (by rw [k];exact aDn b 0 _) (by rw [i];exact q);rw [i] at this;rw [l,m];exact this
 have p:=aJz f g o;unfold mY aDp;rw [p];simp
def aDr(cs:List (List Lt))(a:Nat)(e:List Nat):List (aK×Int):=(gM (cs.getD a []) (cs.getD a [])).filterMap (aDp (cs.getD a []) a)++e.flatMap λb=>(gM (cs.getD a []) (cs.getD b [])).filterMap (aDo (cs.getD a []) a (cs.getD b []) b)
def okF(cs:List (List Lt))(a:Nat)(e:List Nat):Bool:=mE (cs.getD a []) && aKy (cs.getD a []) && e.all λb=>mE (cs.getD b []) && aKx (cs.getD a []) (cs.getD b [])
theorem aKz{f j:Type}{b e:f->List j}:∀(a:List f),(∀x∈a,b x=e x)->a.flatMap b=a.flatMap e
 |[],_=>rfl
 |x::a,h=>by rw [zm,zm,h x (by simp),aKz a λi g=>h i (by simp [g])]
theorem aYx{a:Nat}{g:List Nat}(j:∀k,aP T k=cs.getD k [])(e:okF cs a g=true):fG T a g=aDr cs a g:=by
 unfold okF at e;rw [zy,zy,zz] at e;obtain ⟨⟨i,l⟩,m⟩:=e;unfold fG aDr;rw [j a,aYw a i l];congr 1
 refine aKz _ λb o=>?_
 have f:=m b o;rw [zy] at f;rw [j b,aYv a b i f.1 f.2]
def aDt(cs:List (List Lt))(ks:List Nat)(c:List Lt):List Nat:=(ks.filter λa=>!xC c (cs.getD a []))++[cs.length]
theorem aYy(e:∀a,aP T a=cs.getD a [])(f:T.length=cs.length)(b:mE c=true):dI T ks c=aDt cs ks c:=by
 unfold dI aDt;rw [f];congr 2
 funext a
 rw [e,aDm b]
theorem aL0(g:∀a,aP T a=cs.getD a [])(e:ks.all (λa=>mE (cs.getD a []))=true):(λc=>ks.any λa=>cH (aP T a) c)=λc=>ks.any λa=>xC (cs.getD a []) c:=by
 funext c
 rw [Bool.eq_iff_iff,zt,zt];constructor
 ·rintro ⟨a,b,f⟩;refine ⟨a,b,?_⟩;rwa [g,aDm (zz.1 e a b)] at f
 ·rintro ⟨a,b,f⟩;refine ⟨a,b,?_⟩;rwa [g,aDm (zz.1 e a b)]
theorem xD(T:List (aK×Value))(a:Nat):aP T a=(T.map λb=>b.1.c).getD a []:=by unfold aP;rw [List.getD_eq_getElem?_getD,List.getElem?_map]
theorem dK.takeF{k:Nat}{m:Nat->List (aK×Value)->List Nat->Bool->Prop}{L':List Cd}{ks':List Nat}{o:Bool}{x:Cd}{F:List (aK×Int)}(cs:List (List Lt))(a:aK)(I:xJ x a.r a.a a.b a.i a.j/\x.c=a.c)(i:(T.map λP=>P.1.c)=cs)(A:(∀x∈L,bK x.c=true))(D:ks.all (λb=>bK (cs.getD b []) && mE (cs.getD b []))=true)(J:bK a.c=true)(M:mE a.c=true)
  (t:kF (λc=>ks.any λb=>xC (cs.getD b []) c) L.length L=some (x,L')) (z:a.c≠[]) (E:T.length≠k) (e:aDt cs ks a.c=ks') (H:okF (cs++[a.c]) cs.length ks'=true) (u:aDr (cs++[a.c]) cs.length ks'=F)
  (v:F.all (λf=>decide (f.2=0) && bK f.1.c)=true) (y:∀f∈F,oB f.1.c) (w:L'.length+F.length<=1000000) (G:n+F.length<=1000000)
  (O:∀l s p,bX F L' n o l s p->dK k m l s (T++[(a,.slice x.ad x.ln x.cp)]) ks' p):dK k m L n T ks o:=by
 have g:∀b,aP T b=cs.getD b []:=λb=>by rw [xD,i]
 have q:T.length=cs.length:=by rw [<-i];simp
 have j:=zz.1 D;have C:dI T ks a.c=ks':=by rw [aYy g q M,e]
 have B:fG (T++[(a,.slice x.ad x.ln x.cp)]) T.length ks'=F:=by rw [q,aYx (cs:=cs++[a.c]) (λb=>by rw [xD,List.map_append,i];rfl) H,u]
 refine dK.take a I (λx N b e=>?_) (by rw [aL0 g (zz.2 λb e=>(zy _ _▸j b e).2)];exact t) z E (λb e=>?_) ?_ ?_ ?_ ?_
 ·rw [g];exact aDl (zy _ _▸j b e).1 (A x N)
 ·rw [g];exact aDl J (zy _ _▸j b e).1
 all_goals rw [C,B]
 ·intro f r;have:=zz.1 v f r;rw [zy] at this;exact ⟨y f r,λ_ _=>this.2⟩
 ·exact w
 ·exact G
 ·exact O
theorem aL1{f:List Pl}(g:∀j∈f,j.2.1=true/\j.2.2.1=0):∀e a,¬nK f e a:=by
 intro e a;unfold nK yQ;have b:=g f[e] (zx a);rintro (h2|⟨k,hk,_,h3⟩)
 ·rw [b.2] at h2;omega
 ·have i:=g _ (zx (Nat.lt_trans hk a));rcases h3 with h3|h3
  ·exact h3 (i.1.trans b.1.symm)
  ·exact h3 (i.2.trans b.2.symm)
theorem aL2{cs:List (Nat×List Lt)}(g:cs.length<=40)(e:cs.all (λf=>cZ (aT f.2))=true):∀b a,¬pR cs b a:=by
 intro b a;unfold pR;rintro (h1|h1)
 ·omega
 ·have:=zz.1 e _ (zx a);rw [h1] at this;cases this
def qN:Nd:=(⟨#[113]⟩,0)
def cQ:List Lt:=[(false,[qN])]
def nZ:List Lt:=[(true,[qN])]
def kE:List Lt:=[(true,[pN]),(false,[qN])]
abbrev zZ:ByteArray:=⟨#[112,46,32,126,112,32,124,32,113,46,32,126,113,46]⟩
abbrev aDu:ByteArray:=⟨#[112,46,32,126,112,32,124,32,113,46]⟩
theorem aYz:rU zZ=.ok (⟨10,[],[(⟨#[112]⟩,true,0,0),(⟨#[112]⟩,true,0,4),(⟨#[113]⟩,true,0,8),(⟨#[113]⟩,true,0,12)]⟩,[(0,[(false,[pN])]),(3,[(true,[pN]),(false,[qN])]),(11,[(true,[qN])])]):=by kernel_rfl
theorem aZ0:rU aDu=.ok (⟨7,[],[(⟨#[112]⟩,true,0,0),(⟨#[112]⟩,true,0,4),(⟨#[113]⟩,true,0,8)]⟩,[(0,[(false,[pN])]),(3,[(true,[pN]),(false,[qN])])]):=by kernel_rfl
theorem aA0{a:Int}(b:kO zZ out at' a):out=[cP,kE,nZ]/\at'=0/\a=0:=by have:=aKs b (by decide) aYz (aL1 (by simp)) (aL2 (by decide) (by kernel_rfl));rw [show [cP,kE,nZ]=[(0,[(false,[pN])]),(3,[(true,[pN]),(false,[qN])]),(11,[(true,[qN])])].map (λp:Nat×List Lt=>aT p.2) by kernel_rfl];exact this
theorem aL3{a:Int}(b:kO aDu out at' a):out=[cP,kE]/\at'=0/\a=0:=by have:=aKs b (by decide) aZ0 (aL1 (by simp)) (aL2 (by decide) (by kernel_rfl));rw [show [cP,kE]=[(0,[(false,[pN])]),(3,[(true,[pN]),(false,[qN])])].map (λp:Nat×List Lt=>aT p.2) by kernel_rfl];exact this
def kW:aK:=⟨1,0,0,0,0,cP⟩
def jH:aK:=⟨1,1,0,0,0,kE⟩
def oA:aK:=⟨1,2,0,0,0,nZ⟩
def pA:aK:=⟨2,2,0,0,0,cQ⟩
def xE:aK:=⟨2,2,1,1,0,cNp⟩
def pB:aK:=⟨2,3,1,0,0,[]⟩
def xF:aK:=⟨2,1,0,0,0,cQ⟩
theorem aZ1(e:bK c=true):oB c:=by have n:=kL e;refine ⟨by have:=n.len;omega,λb a=>⟨by have:=(n.term b a).2;omega,λg f=>?_⟩⟩;have:=aG7 (aBp _ _ (n.term b a).1 _ (zx f));omega
theorem aDv{F:List (aK×Int)}(b:F.all (λa=>decide (a.2=0) && bK a.1.c)=true):∀a∈F,oB a.1.c:=λa e=>by
 have:=zz.1 b a e;rw [zy] at this;exact aZ1 this.2
def xG(b:Nat)(T:List (aK×Value))(_:List Nat)(a:Bool):Prop:=b=1/\T.map Prod.fst=[kW,oA,jH,pA,pB]/\a=false
def aA1(b:Nat)(_:List (aK×Value))(_:List Nat)(a:Bool):Prop:=b=2/\a=false
theorem aZ2(a:bX (kY [cP,kE,nZ]) [] 0 false L n false):dK 100 xG L n [] [] false:=by
 have y:kY [cP,kE,nZ]=[(kW,0),(jH,0),(oA,0)]:=rfl;rw [y] at a;obtain ⟨q,t,a⟩:=a.push rfl (by kernel_rfl) (by kernel_rfl);obtain ⟨e,g,a⟩:=a.push rfl (by kernel_rfl) (by kernel_rfl);obtain ⟨l,o,a⟩:=a.push rfl (by kernel_rfl) (by kernel_rfl);obtain ⟨rfl,rfl,_⟩:=a;refine (show ∀L n,L=[eH kW q t 0,eH jH e g 1,eH oA l o 2]->n=3->dK 100 xG L n [] [] false from ?_) _ _ (by kernel_rfl) rfl;rintro L n rfl rfl;refine dK.takeF [] kW (x:=eH kW q t 0) (L':=[eH oA l o 2,eH jH e g 1]) (ks':=[0]) (F:=[]) ⟨⟨rfl,rfl,rfl,rfl,rfl⟩,rfl⟩ rfl ?_ rfl (by kernel_rfl) (by kernel_rfl) (by kernel_rfl) (by simp [kW,cP]) (by decide) (by kernel_rfl) (by kernel_rfl) (by kernel_rfl) rfl (by simp) (by simp) (by simp) ?_
 ·intro x b;simp at b;rcases b with rfl|rfl|rfl<;>kernel_rfl
 rintro j p m ⟨rfl,rfl,rfl⟩;refine dK.takeF [cP] oA (x:=eH oA l o 2) (L':=[eH jH e g 1]) (ks':=[0,1]) (F:=[]) ⟨⟨rfl,rfl,rfl,rfl,rfl⟩,rfl⟩ rfl ?_ (by kernel_rfl) (by kernel_rfl) (by kernel_rfl) (by kernel_rfl) (by simp [oA,nZ]) (by simp) (by kernel_rfl) (by kernel_rfl) (by kernel_rfl) rfl (by simp) (by simp) (by simp) ?_
 ·intro x b;simp at b;rcases b with rfl|rfl<;>kernel_rfl
 rintro j p m ⟨rfl,rfl,rfl⟩;refine dK.takeF [cP,nZ] jH (x:=eH jH e g 1) (L':=[]) (ks':=[0,1,2]) (F:=[(pA,0),(xE,0)]) ⟨⟨rfl,rfl,rfl,rfl,rfl⟩,rfl⟩ rfl ?_ (by kernel_rfl) (by kernel_rfl) (by kernel_rfl) (by kernel_rfl) (by simp [jH,kE]) (by simp) (by kernel_rfl) (by kernel_rfl) (by kernel_rfl) (by kernel_rfl) (aDv (by kernel_rfl)) (by simp) (by simp) ?_
 ·intro x b;simp at b;subst b;kernel_rfl
 intro j p m a;obtain ⟨r,u,a⟩:=a.push rfl (by kernel_rfl) (by kernel_rfl);obtain ⟨f,i,a⟩:=a.push rfl (by kernel_rfl) (by kernel_rfl);obtain ⟨rfl,rfl,rfl⟩:=a;refine (show ∀L n,L=[eH pA r u 3,eH xE f i 4]->n=5->dK 100 xG L n _ _ _ from ?_) _ _ (by kernel_rfl) rfl;rintro L n rfl rfl;refine dK.takeF [cP,nZ,kE] pA (x:=eH pA r u 3) (L':=[eH xE f i 4]) (ks':=[0,1,3]) (F:=[(pB,0)]) ⟨⟨rfl,rfl,rfl,rfl,rfl⟩,rfl⟩ rfl ?_ (by kernel_rfl) (by kernel_rfl) (by kernel_rfl) (by kernel_rfl) (by simp [pA,cQ]) (by simp) (by kernel_rfl) (by kernel_rfl) (by kernel_rfl) (by kernel_rfl) (aDv (by kernel_rfl)) (by simp) (by simp) ?_
 ·intro x b;simp at b;rcases b with rfl|rfl<;>kernel_rfl
 intro j p m a;obtain ⟨s,v,a⟩:=a.push rfl (by kernel_rfl) (by kernel_rfl);obtain ⟨rfl,rfl,rfl⟩:=a;refine (show ∀L n,L=[eH pB s v 5,eH xE f i 4]->n=6->dK 100 xG L n _ _ _ from ?_) _ _ (by kernel_rfl) rfl;rintro L n rfl rfl;refine dK.unsat pB (x:=eH pB s v 5) (L':=[eH xE f i 4]) ⟨⟨rfl,rfl,rfl,rfl,rfl⟩,rfl⟩ (λx b k w=>?_) ?_ rfl ⟨rfl,rfl,rfl⟩
 ·rw [xD];simp at b w;rcases b with rfl|rfl<;>rcases w with rfl|rfl|rfl<;>exact aDl (by kernel_rfl) (by kernel_rfl)
 ·rw [aL0 (cs:=[cP,nZ,kE,cQ]) (λk=>by rw [xD];rfl) (by kernel_rfl)];kernel_rfl
theorem aZ3(a:bX (kY [cP,kE]) [] 0 false L n false):dK 100 aA1 L n [] [] false:=by
 have p:kY [cP,kE]=[(kW,0),(jH,0)]:=rfl;rw [p] at a;obtain ⟨i,l,a⟩:=a.push rfl (by kernel_rfl) (by kernel_rfl);obtain ⟨e,f,a⟩:=a.push rfl (by kernel_rfl) (by kernel_rfl);obtain ⟨rfl,rfl,_⟩:=a;refine (show ∀L n,L=[eH kW i l 0,eH jH e f 1]->n=2->dK 100 aA1 L n [] [] false from ?_) _ _ (by kernel_rfl) rfl;rintro L n rfl rfl;refine dK.takeF [] kW (x:=eH kW i l 0) (L':=[eH jH e f 1]) (ks':=[0]) (F:=[]) ⟨⟨rfl,rfl,rfl,rfl,rfl⟩,rfl⟩ rfl ?_ rfl (by kernel_rfl) (by kernel_rfl) (by kernel_rfl) (by simp [kW,cP]) (by decide) (by kernel_rfl) (by kernel_rfl) (by kernel_rfl) rfl (by simp) (by simp) (by simp) ?_
 ·intro x b;simp at b;rcases b with rfl|rfl<;>kernel_rfl
 rintro g o k ⟨rfl,rfl,rfl⟩;refine dK.takeF [cP] jH (x:=eH jH e f 1) (L':=[]) (ks':=[0,1]) (F:=[(xF,0)]) ⟨⟨rfl,rfl,rfl,rfl,rfl⟩,rfl⟩ rfl ?_ (by kernel_rfl) (by kernel_rfl) (by kernel_rfl) (by kernel_rfl) (by simp [jH,kE]) (by simp) (by kernel_rfl) (by kernel_rfl) (by kernel_rfl) (by kernel_rfl) (aDv (by kernel_rfl)) (by simp) (by simp) ?_
 ·intro x b;simp at b;subst b;kernel_rfl
 intro g o k a;obtain ⟨j,m,a⟩:=a.push rfl (by kernel_rfl) (by kernel_rfl);obtain ⟨rfl,rfl,rfl⟩:=a;refine (show ∀L n,L=[eH xF j m 2]->n=3->dK 100 aA1 L n _ _ _ from ?_) _ _ (by kernel_rfl) rfl;rintro L n rfl rfl;refine dK.takeF [cP,kE] xF (x:=eH xF j m 2) (L':=[]) (ks':=[0,2]) (F:=[]) ⟨⟨rfl,rfl,rfl,rfl,rfl⟩,rfl⟩ rfl ?_ (by kernel_rfl) (by kernel_rfl) (by kernel_rfl) (by kernel_rfl) (by simp [xF,cQ]) (by simp) (by kernel_rfl) (by kernel_rfl) (by kernel_rfl) rfl (by simp) (by simp) (by simp) ?_
 ·intro x b;simp at b;subst b;kernel_rfl
 rintro g o k ⟨rfl,rfl,rfl⟩;exact dK.sat (λx b=>by simp at b) rfl ⟨rfl,rfl⟩
