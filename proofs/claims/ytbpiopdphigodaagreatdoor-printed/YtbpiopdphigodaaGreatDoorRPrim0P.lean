import Derived.Test.YtbpiopdphigodaaGreatDoorBase0P
import Derived.Laws.BytesArg
import Derived.Shelf.Strings.BuilderK
import Derived.Shelf.Strings.BuilderRune
import Derived.Shelf.Strings.Search3
import Derived.Shelf.Utf8.RuneCount
import Derived.Shelf.Unicode.ValidAny
import Derived.Shelf.Strconv.Itoa3
import Derived.Test.YtbpiopdphigodaaGreatDoorProg
open Bool renaming eq_iff_iff→yi
namespace Go.Proofs.YtbpiopdphigodaaGreatDoor
open _root_.Go.Proofs.Tryz renaming underlying9→zz,zeroValue9→zy,prog→zx,underlying0→zw,underlying3→zv,underlying4→zu,zeroValue0→zt,zeroValue3→zs,zeroValue4→zr,underlying5→zq,sizeOf9→zp,zeroValue5→zo,underlying62→zn,isAgg9→zm,sizeOf0→zl,sizeOf3→zk,sizeOf4→zj,zeroValue62→zi,underlying180→zh,isAgg0→zg,isAgg3→zf,isAgg4→ze,underlying20→zd,underlying61→zc,underlying64→zb,sizeOf5→za,zeroValue180→z1,zeroValue20→z6,zeroValue61→z7,zeroValue64→z8,sizeOf62→yz,isAgg5→yy,isAgg62→yx,underlying115→yw,sizeOf180→yv,underlying165→yu,underlying66→yt,zeroValue115→ys,zeroValue165→yr,sizeOf20→yq,sizeOf61→yp,sizeOf64→yo,isAgg180→yn,zeroValue66→ym,isAgg20→yl,isAgg61→yk,isAgg64→yj,sizeOf115→yh,sizeOf165→yg,sizeOf66→yf,isAgg115→ye,isAgg165→yd,underlying160→yc,isAgg66→y0,zeroValue160→y1,func37→y2,func65→y3
set_option maxRecDepth 100000
variable{V:Int->Int->Prop}{R:Nat->Nat->Prop}
section
open Go.RowKit
def dO(a:Int):Bool:=decide (97<=a) && decide (a<=122)
def dP(a:Int):Bool:=decide (65<=a) && decide (a<=90)
def pJ(a:Int):Bool:=decide (48<=a) && decide (a<=57)
def cO(c:Int):Bool:=dO c || dP c || pJ c || c==95
theorem aC5(a:Int)(b:World):Calls zx 51 #[.int .i32 a] b λc d=>c=.returned (.bool (dO a))/\d=b:=by
 unfold dO;by_cases e:97<=a;all_goals
  go_enter Tryz.func51,Tryz.ntmps51;go_wp2;go_ret;exact ⟨cX (by rw [yi];simp;omega),rfl⟩
theorem aHg(a:Int)(b:World):Calls zx 53 #[.int .i32 a] b λc d=>c=.returned (.bool (dP a))/\d=b:=by
 unfold dP;by_cases e:65<=a;all_goals
  go_enter Tryz.func53,Tryz.ntmps53;go_wp2;go_ret;exact ⟨cX (by rw [yi];simp;omega),rfl⟩
theorem aSd(a:Int)(b:World):Calls zx 108 #[.int .i32 a] b λc d=>c=.returned (.bool (pJ a))/\d=b:=by
 unfold pJ;by_cases e:48<=a;all_goals
  go_enter Tryz.func108,Tryz.ntmps108;go_wp2;go_ret;exact ⟨cX (by rw [yi];simp;omega),rfl⟩
theorem aC6(c:Int)(a:World):Calls zx 85 #[.int .i32 c] a λb w'=>b=.returned (.bool (cO c))/\w'=a:=by
 have e:=aC5 c a;have f:=aHg c a;have g:=aSd c a;have d:aI (cO c=(dO c || dP c || pJ c || c==95)):=rfl;generalize dO c=b1 at *;generalize dP c=b2 at *;generalize pJ c=b3 at *;go_enter Tryz.func85,Tryz.ntmps85;cases b1<;>cases b2<;>cases b3;all_goals
  go_wp2_with (first
   |(go_at_call 51;refine e.mono ?_;rintro b w' ⟨rfl,rfl⟩)
   |(go_at_call 53;refine f.mono ?_;rintro b w' ⟨rfl,rfl⟩)
   |(go_at_call 108;refine g.mono ?_;rintro b w' ⟨rfl,rfl⟩))
  go_ret;exact ⟨cX (by rw [d.o];simp),rfl⟩
def jZ(a:Int):Bool:=decide (a=39) || decide (a=92)
theorem aHh(a:Int)(d:World):Calls zx 68 #[.int .i32 a] d λe g=>e=.returned (.bool (jZ a))/\g=d:=by
 by_cases b:a=39
 ·have f:(a==39)=true:=by simp [b]
  have c:=aA (show jZ a=true by simp [jZ,b]);clear b;go_enter Tryz.func68,Tryz.ntmps68;go_wp2;go_ret;exact ⟨cX c.o.symm,rfl⟩
 ·have f:(a==39)=false:=by simp [b]
  have c:=aA (show jZ a=(a==92) by simp [jZ,b];rfl);clear b;go_enter Tryz.func68,Tryz.ntmps68;go_wp2;go_ret;exact ⟨cX c.o.symm,rfl⟩
end
section
inductive aO{α β:Type}(R:α->β->Prop):List α->List β->Prop
 |nil:aO R [] []
 |cons {a b l m}:R a b->aO R l m->aO R (a::l) (b::m)
namespace aO
variable {α β:Type}{R S:α->β->Prop}
theorem length{l:List α}{m:List β}(a:aO R l m):l.length=m.length:=by
 induction a with
 |nil=>rfl
 |cons _ _ ih=>simp [ih]
theorem append{a b:List α}{c d:List β}(e:aO R a c)(f:aO R b d):aO R (a++b) (c++d):=by
 induction e with
 |nil=>exact f
 |cons h1 _ ih=>exact aO.cons h1 ih
theorem mono{l:List α}{m:List β}(c:aO R l m)(f:∀a b,R a b->S a b):aO S l m:=by
 induction c with
 |nil=>exact aO.nil
 |cons h1 _ ih=>exact aO.cons (f _ _ h1) ih
theorem snoc{c:List α}{d:List β}{a:α}{b:β}(e:aO R c d)(f:R a b):aO R (c++[a]) (d++[b]):=e.append (aO.cons f aO.nil)
theorem refl{R:α->α->Prop}(f:∀a,R a a):∀l:List α,aO R l l
 |[]=>aO.nil
 |a::l=>aO.cons (f a) (refl f l)
theorem of_get{d:List α}{a:List β}(f:d.length=a.length)(g:∀(e:Nat) (b:α) (c:β),d[e]?=some b->a[e]?=some c->R b c):aO R d a:=by
 induction d generalizing a with
 |nil=>cases a with
  |nil=>exact aO.nil
  |cons=>simp at f
 |cons b d ih=>cases a with
  |nil=>simp at f
  |cons c a=>exact aO.cons (g 0 b c rfl rfl) (ih (by simpa using f) λe b c i j=>g (e+1) b c (by simpa using i) (by simpa using j))
theorem rev{a:List α}{b:List β}(c:aO R a b):aO R a.reverse b.reverse:=by
 induction c with
 |nil=>exact aO.nil
 |cons h1 _ ih=>rw [List.reverse_cons,List.reverse_cons];exact ih.snoc h1
end aO
def lY(V:Int->Int->Prop):Prop:=∀a c b d,V a c->V b d->(a=b↔c=d)
def gA(V:Int->Int->Prop)(a b:Nd):Prop:=(aM a=true/\aM b=true/\a.1=b.1/\V a.2 b.2)\/(aM a=false/\a=b)
theorem aSe(f:lY V){b c:List Int}(e:aO V b c){a d:Int}(i:V a d):rD b a=rD c d:=by
 induction e with
 |nil=>rfl
 |cons h1 h2 ih=>
  simp only [rD];have j:=f _ _ _ _ h1 i;have g:=h2.length;rw [ih,g];by_cases k : ‹Int› = a<;>simp_all
theorem aSf(f:lY V){a b:List Int}(e:aO V a b){c d:Int}(g:V c d):eQ a c=eQ b d:=aSe f e.rev g
theorem aSg(n:lY V){d b:List Nd×List Int}(f:d.1=b.1)(a:aO V d.2 b.2){g c:Nd}(m:gA V g c):(cD d g).1=(cD b c).1/\aO V (cD d g).2 (cD b c).2:=by
 rcases m with ⟨e,l,i,j⟩|⟨e,rfl⟩
 ·have p:=aSf n a j;have o:=a.length;unfold cD;rw [e,l,p];by_cases k:eQ b.2 c.2<0
  ·simp [k,f,i,o];exact a.snoc j
  ·simp [k,f,i];exact a
 ·unfold cD;rw [e];simp [f];exact a
theorem aSh(m:lY V){c d:List Nd}(l:aO (gA V) c d){g i:List Int}(n:aO V g i):(dY c g).1=(dY d i).1/\aO V (dY c g).2 (dY d i).2:=by
 unfold dY;suffices ∀(a b:List Nd×List Int),a.1=b.1->aO V a.2 b.2->(c.foldl cD a).1=(d.foldl cD b).1/\aO V (c.foldl cD a).2 (d.foldl cD b).2 from this _ _ rfl n
 induction l with
 |nil=>intro a b e f;exact ⟨e,f⟩
 |cons hc _ ih=>
  intro a b e f;obtain ⟨j,k⟩:=aSg m e f hc;exact ih _ _ j k
structure Gr where
 lab:Nat->Nd
 ch:Nat->List Nat
def Gr.named(G:Gr)(a:Nat):Prop:=aM (G.lab a)=false
inductive Cl(G:Gr)(B:Nat->Nat->Prop):Nat->Nat->Prop
 |refl (i):Cl G B i i
 |base {i j}:B i j->Cl G B i j
 |symm {i j}:Cl G B i j->Cl G B j i
 |trans {i j k}:Cl G B i j->Cl G B j k->Cl G B i k
 |down {i j k p q:Nat}:Cl G B i j->G.named i->G.named j->(G.ch i)[k]?=some p->(G.ch j)[k]?=some q->Cl G B p q
structure kA(G:Gr)(R:Nat->Nat->Prop):Prop where
 refl:∀i,R i i
 symm:∀i j,R i j->R j i
 trans:∀i j k,R i j->R j k->R i k
 down:∀i j k p q:Nat,R i j->G.named i->G.named j->(G.ch i)[k]?=some p->(G.ch j)[k]?=some q->R p q
theorem Cl.isDown(a:Gr)(b:Nat->Nat->Prop):kA a (Cl a b):=⟨Cl.refl,λ_ _=>Cl.symm,λ_ _ _=>Cl.trans,λ_ _ _ _ _=>Cl.down⟩
theorem Cl.le{k:Gr}{j:Nat->Nat->Prop}(g:kA k R)(l:∀e f,j e f->R e f){e f:Nat}(i:Cl k j e f):R e f:=by
 induction i with
 |refl e=>exact g.refl e
 |base i=>exact l _ _ i
 |symm _ ih=>exact g.symm _ _ ih
 |trans _ _ h1 h2=>exact g.trans _ _ _ h1 h2
 |down _ a b c d ih=>exact g.down _ _ _ _ _ ih a b c d
def lE(a:Gr)(R:Nat->Nat->Prop):Prop:=∀b c,R b c->a.named b->a.named c->a.lab b=a.lab c
inductive bY(G:Gr)(R:Nat->Nat->Prop):Nat->Prop
 |mk (i):(∀j,R i j->G.named j->∀p∈G.ch j,bY G R p)->bY G R i
theorem bY.parts{a:Gr}{d:Nat}(b:bY a R d){j c:Nat}(e:R d j)(f:a.named j)(g:c∈a.ch j):bY a R c:=by cases b with|mk _ b=>exact b j e f c g
theorem bY.same{G:Gr}(b:kA G R){i j:Nat}(a:bY G R i)(c:R i j):bY G R j:=⟨_,λ_ d e _ f=>a.parts (b.trans _ _ _ c d) e f⟩
inductive aU(G:Gr)(R:Nat->Nat->Prop)(rep:Nat->Nat):List Nat->List Nd->Prop
 |nil:aU G R rep [] []
 |var {i r l}:(∀j,R i j->¬G.named j)->aU G R rep r l->aU G R rep (i::r) ((⟨#[]⟩,(rep i:Int))::l)
 |name {i j r l}:R i j->G.named j->aU G R rep (G.ch j++r) l->aU G R rep (i::r) (G.lab j::l)
section
variable {G:Gr}{R:Nat->Nat->Prop}{rep:Nat->Nat}
theorem aU.append{c d:List Nat}{a b:List Nd}(e:aU G R rep c a)(f:aU G R rep d b):aU G R rep (c++d) (a++b):=by
 induction e with
 |nil=>exact f
 |var h1 _ ih=>exact aU.var h1 ih
 |name h1 h2 _ ih=>exact aU.name h1 h2 (by rw [List.append_assoc] at ih;exact ih)
theorem aU.split{x:List Nat}{d:List Nd}(g:aU G R rep x d):∀b s,x=b++s->∃c l2,d=c++l2/\aU G R rep b c/\aU G R rep s l2:=by
 induction g with
 |nil=>
  intro b s a;obtain ⟨rfl,rfl⟩:=List.append_eq_nil_iff.1 a.symm;exact ⟨[],[],rfl,aU.nil,aU.nil⟩
 |@var i r0 d h1 h2 ih=>
  intro b s a;cases b with
  |nil=>
   simp at a;subst a;exact ⟨[],_,rfl,aU.nil,aU.var h1 h2⟩
  |cons y b=>
   simp at a;obtain ⟨rfl,a⟩:=a;obtain ⟨c,l2,rfl,e,f⟩:=ih b s a;exact ⟨_::c,l2,rfl,aU.var h1 e,f⟩
 |@name i j r0 d h1 h2 h3 ih=>
  intro b s a;cases b with
  |nil=>
   simp at a;subst a;exact ⟨[],_,rfl,aU.nil,aU.name h1 h2 h3⟩
  |cons y b=>
   simp at a;obtain ⟨rfl,a⟩:=a;obtain ⟨c,l2,rfl,e,f⟩:=ih (G.ch j++b) s (by rw [a,List.append_assoc]);exact ⟨_::c,l2,rfl,aU.name h1 h2 e,f⟩
theorem aU.same(d:kA G R)(l:∀i j,R i j->rep i=rep j){f:List Nat}{e:List Nd}(g:aU G R rep f e):∀c,aO R f c->aU G R rep c e:=by
 induction g with
 |nil=>intro c a;cases a;exact aU.nil
 |@var i r e h1 _ ih=>
  intro c a;cases a with
  |@cons _ b _ m hb hm=>
   rw [l _ _ hb];exact aU.var (λj k=>h1 j (d.trans _ _ _ hb k)) (ih _ hm)
 |@name i j r e h1 h2 _ ih=>
  intro c a;cases a with
  |@cons _ b _ m hb hm=>
   exact aU.name (d.trans _ _ _ (d.symm _ _ hb) h1) h2 (ih _ ((aO.refl d.refl _).append hm))
def Gr.Arity(G:Gr):Prop:=∀a b,G.named a->G.named b->G.lab a=G.lab b->(G.ch a).length=(G.ch b).length
theorem aC7(m:kA G R)(l:lE G R)(k:G.Arity){a b:Nat}(e:R a b)(c:G.named a)(d:G.named b):aO R (G.ch a) (G.ch b):=
 aO.of_get (k a b c d (l a b e c d)) λn f g i j=>m.down a b n f g e c d i j
theorem aU.one(a:kA G R)(g:lE G R)(l:G.Arity)(m:∀e c,R e c->rep e=rep c){j:List Nat}{f:List Nd}(k:aU G R rep j f):∀d,aU G R rep j d->f=d:=by
 induction k with
 |nil=>intro d b;cases b;rfl
 |@var e r f h1 _ ih=>
  intro d b;cases b with
  |var _ h2=>rw [ih _ h2]
  |name h2 h3 _=>exact absurd h3 (h1 _ h2)
 |@name e c r f h1 h2 _ ih=>
  intro d b;cases b with
  |var h3 _=>exact absurd h2 (h3 _ h1)
  |@name _ j' _ m' h3 h4 h5=>
   have i:R j' c:=a.trans _ _ _ (a.symm _ _ h3) h1;rw [g j' c i h4 h2,ih _ (h5.same a m _ ((aC7 a g l i h4 h2).append (aO.refl a.refl _)))]
theorem aU.exists_of_all{c:List Nat}(d:∀b∈c,∃a,aU G R rep [b] a):∃a,aU G R rep c a:=by
 induction c with
 |nil=>exact ⟨[],aU.nil⟩
 |cons b r ih=>
  obtain ⟨a,f⟩:=d b (by simp);obtain ⟨j,g⟩:=ih λi e=>d i (by simp [e])
  exact ⟨a++j,f.append g⟩
theorem bY.exp{d:Nat}(g:bY G R d):∃f,aU G R rep [d] f:=by
 induction g with
 |mk d _ ih=>
  by_cases e:∃a,R d a/\G.named a
  ·obtain ⟨a,b,c⟩:=e;obtain ⟨f,i⟩:=aU.exists_of_all (G:=G) (R:=R) (rep:=rep) λk j=>ih a b c k j
   exact ⟨_,aU.name b c (by rw [List.append_nil];exact i)⟩
  ·exact ⟨_,aU.var (λa b c=>e ⟨a,b,c⟩) aU.nil⟩
theorem aU.pos{c:Nat}{a:List Nd}(b:aU G R rep [c] a):1<=a.length:=by
 cases b with
 |var=>simp
 |name=>simp
end
theorem uJ(b:Int):aM (⟨#[]⟩,b)=true:=by
 have a:(⟨#[]⟩ : ByteArray).toList=[]:=by rw [ByteArray.toList_eq]
 simp [aM,a]
end
section
open Go.RowKit
def iH(V:Int->Int->Prop)(a b:Lt):Prop:=a.1=b.1/\aO (gA V) a.2 b.2
section
variable {V:Int->Int->Prop}
theorem vV{a:Nd}(d:aM a=true):a.1=⟨#[]⟩:=by
 obtain ⟨f,g⟩:=a;obtain ⟨b⟩:=f;have c:(⟨b⟩ : ByteArray).toList=[]:=by simpa [aM] using d
 rw [ByteArray.toList_eq] at c;have e:b=#[]:=by apply Array.ext';exact c
 rw [e]
theorem aSi(t:lY V){k i l j:Nd}(s:gA V k i)(g:gA V l j):k=l↔i=j:=by
 rcases s with ⟨c,e,u,m⟩|⟨c,rfl⟩
 ·rcases g with ⟨b,d,n,f⟩|⟨b,rfl⟩
  ·have o:=vV c;have p:=vV e;have q:=vV b;have r:=vV d;have:=t _ _ _ _ m f;constructor
   ·intro a;exact Prod.ext (by rw [p,r]) (this.1 (by rw [a]))
   ·intro a;exact Prod.ext (by rw [o,q]) (this.2 (by rw [a]))
  ·constructor
   ·intro a;rw [a,b] at c;cases c
   ·intro a;rw [a,b] at e;cases e
 ·rcases g with ⟨b,d,n,f⟩|⟨b,rfl⟩
  ·constructor
   ·intro a;rw [<-a,c] at b;cases b
   ·intro a;rw [<-a,c] at d;cases d
  ·exact Iff.rfl
theorem aSj(j:lY V){f g:List Nd}(i:aO (gA V) f g):∀{c d:List Nd},aO (gA V) c d->(f=c↔g=d):=by
 induction i with
 |nil=>
  intro c d e;cases e with
  |nil=>simp
  |cons _ _=>simp
 |cons a _ ih=>
  intro c d e;cases e with
  |nil=>simp
  |cons b k=>
   rw [List.cons.injEq,List.cons.injEq,aSi j a b,ih k]
theorem aSk(i:lY V){d f e g:Lt}(b:iH V d f)(c:iH V e g):d=e↔f=g:=by
 have:=aSj i b.2 c.2;constructor
 ·intro a;exact Prod.ext (by rw [<-b.1,<-c.1,a]) (this.1 (by rw [a]))
 ·intro a;exact Prod.ext (by rw [b.1,c.1,a]) (this.2 (by rw [a]))
theorem aSl(g:lY V){b c:List Lt}(f:aO (iH V) b c){d e:Lt}(i:iH V d e):fI b d=fI c e:=by
 induction f with
 |nil=>rfl
 |cons a _ ih=>
  simp only [fI,List.any_cons] at ih ⊢;rw [ih];congr 1
  exact decide_eq_decide.2 (aSk g a i)
theorem aSm(i:lY V){b c:List Lt}(g:aO (iH V) b c):aO (iH V) (bV b) (bV c):=by
 suffices ∀{b c:List Lt},aO (iH V) b c->∀{e f:List Lt},aO (iH V) e f->aO (iH V) (b.foldl eE e) (c.foldl eE f) from this g aO.nil
 intro b c g;induction g with
 |nil=>intro e f d;exact d
 |cons a _ ih=>
  intro e f d;simp only [List.foldl_cons];refine ih ?_;unfold eE;rw [aSl i d a];split
  ·exact d
  ·exact d.snoc a
theorem aSn(k:lY V){b c:List Lt}(f:aO (iH V) b c):(dB b).1=(dB c).1:=by
 suffices ∀{b c:List Lt},aO (iH V) b c->∀{d e:List Lt×List Int},d.1=e.1->aO V d.2 e.2->(b.foldl dM d).1=(c.foldl dM e).1 from this f rfl aO.nil
 intro b c f;induction f with
 |nil=>intro d e g _;exact g
 |cons a _ ih=>
  intro d e g j;simp only [List.foldl_cons];have i:=aSh k a.2 j;refine ih ?_ i.2;simp only [dM];rw [g,a.1,i.1]
theorem aC8(c:lY V){a b:List Lt}(d:aO (iH V) a b):aT a=aT b:=aSn c (aSm c d)
end
end
section
open Go.Shelf Go.Proofs
def oO:Go.Shelf.Ren:=⟨fun|129=>138|143=>154|144=>135|166=>21|167=>22|168=>69|169=>24|171=>38|195=>136|196=>134|217=>152|219=>168|224=>130|225=>131|240=>37|242=>94|243=>66|246=>93|259=>153|266=>167|267=>172|276=>65|278=>117|283=>113|284=>114|285=>115|286=>116|314=>173|317=>137|318=>139|319=>140|320=>141|337=>155|338=>156|n=>n,fun|0=>0|2=>2|3=>3|4=>4|5=>5|9=>9|12=>12|20=>20|21=>21|37=>62|46=>180|51=>165|53=>160|70=>61|72=>64|75=>66|80=>71|119=>197|127=>92|138=>199|139=>200|146=>218|164=>115|171=>159|173=>163|212=>185|213=>186|232=>214|233=>215|n=>n,fun|1=>1|3=>2|4=>3|17=>0|18=>4|19=>5|n=>n⟩
theorem aSo:Lays.n166 zx oO:={
 mixed:=by kernel_rfl
 f166:=Tryz.func21.trans (congrArg some (by kernel_rfl))
 f240:=y2.trans (congrArg some (by kernel_rfl))
 f276:=y3.trans (congrArg some (by kernel_rfl))
 t0:=zw
 a0:=zg
 z0:=zl
 v0:=zt
 t3:=zv
 a3:=zf
 z3:=zk
 v3:=zs
 t4:=zu
 a4:=ze
 z4:=zj
 v4:=zr
 t9:=zz
 a9:=zm
 z9:=zp
 v9:=zy
 t20:=zd
 a20:=yl
 z20:=yq
 v20:=z6
 t37:=zn
 a37:=yx
 z37:=yz
 v37:=zi
 t70:=zc
 a70:=yk
 z70:=yp
 v70:=z7
 t72:=zb
 a72:=yj
 z72:=yo
 v72:=z8
 t75:=yt
 a75:=y0
 z75:=yf
 v75:=ym
 t164:=yw
 a164:=ye
 z164:=yh
 v164:=ys}
theorem aSp:Lays.n167 zx oO:={
 mixed:=by kernel_rfl
 f167:=Tryz.func22.trans (congrArg some (by kernel_rfl))
 f240:=y2.trans (congrArg some (by kernel_rfl))
 f276:=y3.trans (congrArg some (by kernel_rfl))
 t0:=zw
 a0:=zg
 z0:=zl
 v0:=zt
 t4:=zu
 a4:=ze
 z4:=zj
 v4:=zr
 t5:=zq
 a5:=yy
 z5:=za
 v5:=zo
 t9:=zz
 a9:=zm
 z9:=zp
 v9:=zy
 t20:=zd
 a20:=yl
 z20:=yq
 v20:=z6
 t37:=zn
 a37:=yx
 z37:=yz
 v37:=zi
 t70:=zc
 a70:=yk
 z70:=yp
 v70:=z7
 t72:=zb
 a72:=yj
 z72:=yo
 v72:=z8
 t75:=yt
 a75:=y0
 z75:=yf
 v75:=ym
 t164:=yw
 a164:=ye
 z164:=yh
 v164:=ys}
theorem aSq:Lays.n168 zx oO:={
 mixed:=by kernel_rfl
 f168:=Tryz.func69.trans (congrArg some (by kernel_rfl))
 f240:=y2.trans (congrArg some (by kernel_rfl))
 f242:=Tryz.func94.trans (congrArg some (by kernel_rfl))
 f276:=y3.trans (congrArg some (by kernel_rfl))
 f278:=Tryz.func117.trans (congrArg some (by kernel_rfl))
 t0:=zw
 a0:=zg
 z0:=zl
 v0:=zt
 t3:=zv
 a3:=zf
 z3:=zk
 v3:=zs
 t4:=zu
 a4:=ze
 z4:=zj
 v4:=zr
 t5:=zq
 a5:=yy
 z5:=za
 v5:=zo
 t9:=zz
 a9:=zm
 z9:=zp
 v9:=zy
 t20:=zd
 a20:=yl
 z20:=yq
 v20:=z6
 t21:=Tryz.underlying21
 a21:=Tryz.isAgg21
 z21:=Tryz.sizeOf21
 v21:=Tryz.zeroValue21
 t37:=zn
 a37:=yx
 z37:=yz
 v37:=zi
 t46:=zh
 a46:=yn
 z46:=yv
 v46:=z1
 t51:=yu
 a51:=yd
 z51:=yg
 v51:=yr
 t70:=zc
 a70:=yk
 z70:=yp
 v70:=z7
 t72:=zb
 a72:=yj
 z72:=yo
 v72:=z8
 t75:=yt
 a75:=y0
 z75:=yf
 v75:=ym
 t164:=yw
 a164:=ye
 z164:=yh
 v164:=ys}
theorem aSr:Lays.n169 zx oO:={
 mixed:=by kernel_rfl
 f169:=Tryz.func24.trans (congrArg some (by kernel_rfl))
 t0:=zw
 a0:=zg
 z0:=zl
 v0:=zt
 t3:=zv
 a3:=zf
 z3:=zk
 v3:=zs
 t9:=zz
 a9:=zm
 z9:=zp
 v9:=zy
 t37:=zn
 a37:=yx
 z37:=yz
 v37:=zi
 t70:=zc
 a70:=yk
 z70:=yp
 v70:=z7
 t72:=zb
 a72:=yj
 z72:=yo
 v72:=z8
 t127:=Tryz.underlying92
 a127:=Tryz.isAgg92
 z127:=Tryz.sizeOf92
 v127:=Tryz.zeroValue92}
theorem aSs:Lays.n144 zx oO:={
 mixed:=by kernel_rfl
 f143:=Tryz.func154.trans (congrArg some (by kernel_rfl))
 f144:=Tryz.func135.trans (congrArg some (by kernel_rfl))
 f217:=Tryz.func152.trans (congrArg some (by kernel_rfl))
 f219:=Tryz.func168.trans (congrArg some (by kernel_rfl))
 f224:=Tryz.func130.trans (congrArg some (by kernel_rfl))
 f225:=Tryz.func131.trans (congrArg some (by kernel_rfl))
 f266:=Tryz.func167.trans (congrArg some (by kernel_rfl))
 f267:=Tryz.func172.trans (congrArg some (by kernel_rfl))
 f314:=Tryz.func173.trans (congrArg some (by kernel_rfl))
 t3:=zv
 a3:=zf
 z3:=zk
 v3:=zs
 t4:=zu
 a4:=ze
 z4:=zj
 v4:=zr
 t5:=zq
 a5:=yy
 z5:=za
 v5:=zo
 t9:=zz
 a9:=zm
 z9:=zp
 v9:=zy
 t46:=zh
 a46:=yn
 z46:=yv
 v46:=z1
 t51:=yu
 a51:=yd
 z51:=yg
 v51:=yr
 t146:=Tryz.underlying218
 a146:=Tryz.isAgg218
 z146:=Tryz.sizeOf218
 v146:=Tryz.zeroValue218
 g1:=by kernel_rfl}
theorem aSt:Lays.n195 zx oO:={
 mixed:=by kernel_rfl
 f195:=Tryz.func136.trans (congrArg some (by kernel_rfl))
 t0:=zw
 a0:=zg
 z0:=zl
 v0:=zt
 t3:=zv
 a3:=zf
 z3:=zk
 v3:=zs
 t4:=zu
 a4:=ze
 z4:=zj
 v4:=zr
 t9:=zz
 a9:=zm
 z9:=zp
 v9:=zy}
theorem aHi:Lays.n196 zx oO:={
 mixed:=by kernel_rfl
 f196:=Tryz.func134.trans (congrArg some (by kernel_rfl))
 f259:=Tryz.func153.trans (congrArg some (by kernel_rfl))
 t0:=zw
 a0:=zg
 z0:=zl
 v0:=zt
 t3:=zv
 a3:=zf
 z3:=zk
 v3:=zs
 t4:=zu
 a4:=ze
 z4:=zj
 v4:=zr
 t5:=zq
 a5:=yy
 z5:=za
 v5:=zo
 t9:=zz
 a9:=zm
 z9:=zp
 v9:=zy
 t12:=Tryz.underlying12
 a12:=Tryz.isAgg12
 z12:=Tryz.sizeOf12
 v12:=Tryz.zeroValue12
 t46:=zh
 a46:=yn
 z46:=yv
 v46:=z1
 t53:=yc
 a53:=Tryz.isAgg160
 z53:=Tryz.sizeOf160
 v53:=y1
 t119:=Tryz.underlying197
 a119:=Tryz.isAgg197
 z119:=Tryz.sizeOf197
 t138:=Tryz.underlying199
 a138:=Tryz.isAgg199
 z138:=Tryz.sizeOf199
 v138:=Tryz.zeroValue199
 t139:=Tryz.underlying200
 a139:=Tryz.isAgg200
 z139:=Tryz.sizeOf200
 v139:=Tryz.zeroValue200
 g3:=by kernel_rfl
 g4:=by kernel_rfl}
theorem aSu:Lays.n171 zx oO:={
 mixed:=by kernel_rfl
 f129:=Tryz.func138.trans (congrArg some (by kernel_rfl))
 f171:=Tryz.func38.trans (congrArg some (by kernel_rfl))
 f243:=Tryz.func66.trans (congrArg some (by kernel_rfl))
 f246:=Tryz.func93.trans (congrArg some (by kernel_rfl))
 f283:=Tryz.func113.trans (congrArg some (by kernel_rfl))
 f284:=Tryz.func114.trans (congrArg some (by kernel_rfl))
 f285:=Tryz.func115.trans (congrArg some (by kernel_rfl))
 f286:=Tryz.func116.trans (congrArg some (by kernel_rfl))
 f317:=Tryz.func137.trans (congrArg some (by kernel_rfl))
 f318:=Tryz.func139.trans (congrArg some (by kernel_rfl))
 f319:=Tryz.func140.trans (congrArg some (by kernel_rfl))
 f320:=Tryz.func141.trans (congrArg some (by kernel_rfl))
 f337:=Tryz.func155.trans (congrArg some (by kernel_rfl))
 f338:=Tryz.func156.trans (congrArg some (by kernel_rfl))
 t0:=zw
 a0:=zg
 z0:=zl
 v0:=zt
 t2:=Tryz.underlying2
 a2:=Tryz.isAgg2
 z2:=Tryz.sizeOf2
 v2:=Tryz.zeroValue2
 t3:=zv
 a3:=zf
 z3:=zk
 v3:=zs
 t4:=zu
 a4:=ze
 z4:=zj
 v4:=zr
 t5:=zq
 a5:=yy
 z5:=za
 v5:=zo
 t9:=zz
 a9:=zm
 z9:=zp
 v9:=zy
 t20:=zd
 a20:=yl
 z20:=yq
 v20:=z6
 t37:=zn
 a37:=yx
 z37:=yz
 v37:=zi
 t46:=zh
 a46:=yn
 z46:=yv
 v46:=z1
 t51:=yu
 a51:=yd
 z51:=yg
 v51:=yr
 t53:=yc
 a53:=Tryz.isAgg160
 z53:=Tryz.sizeOf160
 v53:=y1
 t171:=Tryz.underlying159
 a171:=Tryz.isAgg159
 z171:=Tryz.sizeOf159
 v171:=Tryz.zeroValue159
 t173:=Tryz.underlying163
 a173:=Tryz.isAgg163
 z173:=Tryz.sizeOf163
 v173:=Tryz.zeroValue163
 t212:=Tryz.underlying185
 a212:=Tryz.isAgg185
 z212:=Tryz.sizeOf185
 v212:=Tryz.zeroValue185
 t213:=Tryz.underlying186
 a213:=Tryz.isAgg186
 z213:=Tryz.sizeOf186
 t232:=Tryz.underlying214
 a232:=Tryz.isAgg214
 z232:=Tryz.sizeOf214
 v232:=Tryz.zeroValue214
 t233:=Tryz.underlying215
 a233:=Tryz.isAgg215
 z233:=Tryz.sizeOf215
 v233:=Tryz.zeroValue215
 g17:=by kernel_rfl
 g18:=by kernel_rfl
 g19:=by kernel_rfl}
theorem yS:Builder.Extra zx oO:={
 sizeBuilder:=by kernel_rfl
 liesBuilder:=by kernel_rfl
 t5:=zq
 a5:=yy
 z5:=za
 v5:=zo
 infoByte:=by kernel_rfl
 cellsByte:=by kernel_rfl
 sizeByte:=by kernel_rfl
 neB5:=by decide}
end
