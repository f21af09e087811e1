import Derived.Test.YtbpiopdphigodaaGreatDoorGTerm1P
import Derived.Test.YtbpiopdphigodaaGreatDoorPUsesP
import Derived.Laws.AppendOwnNone
open List renaming length_append→zw,map_singleton→zv,map_append→zu,take_succ_eq_append_getElem→zt,flatMap_append→zr,take_length→zo,flatMap_singleton→zm,mem_map→zl,mem_filterMap→zi,nodup_append→zf,mem_flatMap→ze,getElem_mem→zd,getElem_map→zc
open Nat renaming le_refl→zz,zero_le→zk
open Or renaming inr→zn
open Prod renaming fst→zy
namespace Go.Proofs.YtbpiopdphigodaaGreatDoor
open _root_.Go.Proofs.Tryz renaming prog→zx,underlying51→zg
open World renaming cell?→zs,setCell_alloc_past→zp,setCell→zj,ownsRow_nil→zh
open Go.RowKit Go.WideMaps
set_option maxHeartbeats 4000000
set_option maxRecDepth 100000
variable{s:ByteArray}{T:List Tk}{B g lb mg pb tp:Nat}{v vC vP:Value}{w w' w1 w2 w3:World}{s1 st:bA}
abbrev Pc:=(Nat×List (Lt×Value))×Value
def oE(b:List Pc):List Value:=b.flatMap λa=>[.int .i64 a.1.1,a.2]
theorem aMv(b:List Pc)(a:Pc):oE (b++[a])=oE b++[.int .i64 a.1.1,a.2]:=by simp [oE]
structure fE(B:Nat)(w:World)(vC:Value)(CV:List Pc):Prop where
 row:w.ownsRow B 86 2 vC CV.length (oE CV)
 each:∀p∈CV,pQ w B (p.1.2,p.2)
def iS(a:Pc):Nat×List Lt:=(a.1.1,a.1.2.map zy)
structure rH(B:Nat)(w:World)(pb:Nat)(s:ByteArray)(T:List Tk)(st:bA)(g:Nat)(vC vP:Value)(CV:List Pc):Prop where
 pp:∃vM,dF B w pb s T st.i g vC vP vM
 pz:w.ownsRow B 3 1 vP st.pz.length (mT st.pz)
 cs:fE B w vC CV
theorem fE.keep{d:List Pc}(b:fE B w vC d)(c:∀a j v f k,(a=86\/a=41\/a=43)->(a=86->v=vC)->w.ownsRow B a j v f k->w'.ownsRow B a j v f k):fE B w' vC d:=
 ⟨c _ _ _ _ _ (Or.inl rfl) (λ_=>rfl) b.row,λi e=>⟨c _ _ _ _ _ (zn (Or.inl rfl)) (λa=>absurd a (by decide)) (b.each i e).1,λm l=>c _ _ _ _ _ (zn (zn rfl)) (λa=>absurd a (by decide)) ((b.each i e).2 m l)⟩⟩
theorem fE.below{a:List Pc}(b:fE B w vC a)(k:aB w w'):fE B w' vC a:=
 b.keep λ_ _ _ _ _ _ _ c=>bF c k (zz _)
theorem aAl{a:TypeId}(b:a=86\/a=41\/a=43):a≠54/\a≠3:=by rcases b with rfl|rfl|rfl<;>decide
theorem fE.take{a:List Pc}{left:Value}{k c:Int}{m:ByteArray}{j l:Value}(d:fE B w vC a)(e:bM w pb left k c m j vP l)(i:w.grownBy w' (some pb)):fE B w' vC a:=
 d.keep λ_ _ _ _ _ f _ b=>b.kept i (e.apart b (aAl f).1)
theorem fE.kept{n:Nat}{a:List Pc}{d:DataW Unit}(e:fE B w vC a)(i:w.ownsMap zx 9 mS mg n d)(f:bQ B w.heap.size mg w w'):fE B w' vC a:=
 e.keep λ_ _ _ _ _ b _ c=>f.own c ⟨(aAl b).2,(aAl b).1⟩ (λ_=>zz _) (rJ c i)
theorem xS{c d:TypeId}{m:Nat}{l:Nat}{n:List Value}{e:Array Value}{f:Nat×Nat}(k:w.ownsRow B c m v l n)(b:w.heap[lb]?=some (.cells e d f))(i:c≠d):v.ownBlock≠some lb:=by
 intro a;obtain ⟨_,⟨rfl,_⟩|⟨q,o,p,rfl,_,j,_⟩⟩:=k
 ·simp [Value.ownBlock] at a
 ·simp [Value.ownBlock] at a;subst a;rw [j] at b;simp at b;exact i b.2.1
theorem bS.other{l:Array Value}{m:Nat×Nat}(b:bS B w pb s T st g vC vP mg)(c:w.heap[lb]?=some (.cells l 86 m))(e:w.grownBy w' (some lb)):bS B w' pb s T st g vC vP mg:=by
 obtain ⟨k,f,n⟩:=b.map;obtain ⟨left,d,_⟩:=b.pp.box;obtain ⟨p,r,i⟩:=b.pp.glyph;refine ⟨b.pp.far e ?_ ?_,b.pz.kept e (zn (xS b.pz c (by decide))),⟨k,f.kept e ?_,n⟩,b.mhigh⟩
 ·intro a;simp at a;subst a;unfold bM at d;rw [c] at d;simp at d
 ·intro a;simp at a;subst a;rw [c] at i;simp at i
 ·intro a;simp at a;subst a;obtain ⟨q,o,j,_⟩:=f;rw [c] at j;cases j
theorem fE.other{a:List Pc}{d:Array Value}{f:Nat×Nat}(i:fE B w vC a)(l:w.heap[lb]?=some (.cells d 86 f))(k:vC.ownBlock≠some lb)(j:w.grownBy w' (some lb)):fE B w' vC a:=
 i.keep λe _ _ _ _ n m c=>c.kept j (zn (by
  by_cases b:e=86
  ·rw [m b];exact k
  ·exact xS c l b))
theorem bS.setC(b:bS B w pb s T st g vC vP mg)(v:Value):bS B (w.setCell ⟨pb,4,none⟩ v) pb s T st g v vP mg:=by obtain ⟨e,d,j⟩:=b.map;obtain ⟨m,k,l,f,a⟩:=b.pp;have c:=a.sc.box;exact ⟨⟨m,k,l,f,⟨heap_setCell_same w pb 4 _ _ _ c,a.sc.high,c.row a.sc.row (by decide) _ _,a.sc.len,a.sc.drop,a.sc.le⟩,a.lt,a.on⟩,c.row b.pz (by decide) _ _,⟨e,d.setCell (λi=>xY c d i.symm) _,j⟩,b.mhigh⟩
theorem aMw{i:List Pc}(f:rH B w pb s T st g vC vP i)(A:B<=w.heap.size)(d:Array Value){c:World}(n:c=((w.alloc (.cells d 86)).alloc (.map #[] 0)).setCell ⟨pb,6,none⟩ (.map (some (w.heap.size+1)))):bS B c pb s T ⟨st.i,[],st.pz⟩ g vC vP (w.heap.size+1)/\fE B c vC i/\Below B w c/\c.heap[w.heap.size]?=some (.cells d 86):=by
 subst n;have b:=((Below.refl w.heap.size w).alloc (zz _) (.cells d 86)).alloc (by simp) (.map #[] 0);obtain ⟨F,j⟩:=f.pp;obtain ⟨E,o,z⟩:=j.box;have D:=o.lt;have r:=j.below b;obtain ⟨y,u,x,l,a⟩:=r;have e:=a.sc.box;have t:=bF f.pz b (zz _);have p:=f.cs.below b;have q:((w.alloc (.cells d 86)).alloc (.map #[] 0)).ownsMap zx 9 mS (w.heap.size+1) 0 (.map []):=by have:=World.ownsMap_made (P:=zx) (w.alloc (.cells d 86)) 9 mS;simpa using this
 refine ⟨⟨⟨y,u,x,l,⟨heap_setCell_same _ pb 6 _ _ _ e,a.sc.high,e.row a.sc.row (by decide) _ _,a.sc.len,a.sc.drop,a.sc.le⟩,a.lt,a.on⟩,e.row t (by decide) _ _,⟨.map [],q.setCell (λm=>by simp at m;omega) _,oS.start⟩,by omega⟩,p.take e (cJ _ _ _),?_,?_⟩
 ·refine ⟨b.os,b.tape,b.output,by simp [zj];omega,λk C=>?_⟩;rw [Below.heap_setCell _ _ _ _ (show k≠pb by omega)];exact b.block k (by omega)
 ·rw [Below.heap_setCell _ _ _ _ (show w.heap.size≠pb by omega)];show ((w.heap.push _).push _)[w.heap.size]?=_;rw [Array.getElem?_push_lt (by simp)];simp
theorem aEo{e o:Value}{i:List Pc}{q:Obj}{r:Nat}{p:List (Lt×Value)}(d:bS B w2 pb s T st g vC vP mg)(z:fE B w2 vC i)(j:Below B w w2)(G:B<=w.heap.size)(x:pQ w2 B (p,o))(C:w3.ownsRow B 86 2 e (i.length+1) (oE i++[.int .i64 r,o]))(c:(w2.alloc q).grownBy w3 vC.ownBlock):w3.cell? ⟨pb,4,none⟩=some vC/\w3.frozen? ⟨pb,4,none⟩=false/\bS B (w3.setCell ⟨pb,4,none⟩ e) pb s T st g e vP mg/\fE B (w3.setCell ⟨pb,4,none⟩ e) e (i++[((r,p),o)])/\Below B w (w3.setCell ⟨pb,4,none⟩ e):=by
 have b:=(Below.refl w2.heap.size w2).alloc (zz _) q;have l:=z.below b;have D:=d.below b;have u:=D.far l.row (by decide) c;obtain ⟨left,k,F⟩:=u.pp.box;have H:=j.size;have t:∀a∈i++[((r,p),o)],pQ w3 B (a.1.2,a.2):=by
  intro a hp;have n:pQ (w2.alloc q) B (a.1.2,a.2):=by
   rcases List.mem_append.1 hp with hp|hp
   ·exact l.each a hp
   ·simp at hp;subst hp;exact ⟨bF x.1 b (zz _),λf d=>bF (x.2 f d) b (zz _)⟩
  exact ⟨n.1.kept c (fQ n.1 l.row (by decide)),λf d=>(n.2 f d).kept c (fQ (n.2 f d) l.row (by decide))⟩
 refine ⟨k.c4,k.soft 4,u.setC e,⟨?_,λa hp=>⟨k.row (t a hp).1 (by decide) _ _,λf d=>k.row ((t a hp).2 f d) (by decide) _ _⟩⟩,?_⟩
 ·refine k.row ?_ (by decide) _ _;rw [aMv,zw];exact C
 ·have E:=c.size;simp at E;refine ⟨c.os.trans (b.os.trans j.os),c.tape.trans (b.tape.trans j.tape),c.output.trans (b.output.trans j.output),by simp [zj];omega,λm A=>?_⟩;rw [Below.heap_setCell _ _ _ _ (show m≠pb by omega),c.block m (by simp;omega) (λy=>by have:=(cL l.row m y.symm).1;omega),b.block m (by omega),j.block m A]
def aEp(B pb:Nat)(w:World)(s:ByteArray)(T:List Tk)(g:Nat)(e:List Pc)(f:Nat)(i:Except Nat (bA×List Lt))(b:Ending)(w':World):Prop:=
 Below B w w'/\
  match i with
  | .ok (s1,c)=>∃vC vP a k,b=.returned (.bool true)/\rH B w' pb s T s1 g vC vP (e++[((f,a),k)])/\a.map zy=c
  | .error p=>∃d vC vP j,b=.returned (.bool false)/\dF B w' pb s T d g vC vP j/\(aH T d).pos=p
section
variable {B pb:Nat}{s:ByteArray}{T:List Tk}{g:Nat}{vC vP:Value}{st:bA}{w:World}{CV:List Pc}
theorem aEq(d:Int)(c:Option Addr)(f e:Nat):∀b∈[Value.int .i64 d,Value.slice c f e],b.oneCell'=true:=by intro b a;simp at a;rcases a with rfl|rfl<;>rfl
theorem aEr:(zx.info? 86).map (λa=>(a.zero,a.size,a.bytes))=some (some (.agg #[.int .i64 0,.slice none 0 0]),2,32):=by kernel_rfl
theorem aEs{f m:World}{a:bA}{n:Bool}{e l t:Value}{i:List (Lt×Value)}{o:Ending}(z:B<=w.heap.size)(y:jO T st=.ok (a,i.map zy))(c:decide ((aH T a.i).kind=46)=n)(k:bS B f pb s T a g e l mg)(x:fE B f e (CV++[((tp,i),t)]))(p:Below B w f)(j:f.grownBy m (some pb))(d:dF B m pb s T (if (aH T a.i).kind=46 then a.i+1 else a.i) g e l (.map (some mg)))(r:o=.returned (.bool n)):aEp B pb w s T g CV tp (jE T st) o m:=by
 obtain ⟨left,q,u⟩:=k.pp.box;have A:=p.size;refine ⟨p.grown j (by omega) (by simpa using u),?_⟩;unfold jE;rw [y];simp only;by_cases b:(aH T a.i).kind=46
 ·rw [aG b] at d ⊢;rw [fH b] at c;subst c;exact ⟨e,l,i,t,r,⟨⟨_,d⟩,k.pz.kept j (q.apart k.pz (by decide)),x.take q j⟩,rfl⟩
 ·rw [aF b] at d ⊢;rw [gH b] at c;subst c;exact ⟨_,_,_,_,r,d,rfl⟩
structure rI(B pb:Nat)(w w1:World)(s:ByteArray)(T:List Tk)(st:bA)(g:Nat)(vC vP:Value)(mg:Nat)(CV:List Pc)(lb tp:Nat)(v:Value):Prop where
 q:bS B w1 pb s T st g vC vP mg
 cs:fE B w1 vC CV
 low:Below B w w1
 box:w1.heap[lb]?=some (.cells #[.int .i64 tp,v] 86)
 size:B<=w1.heap.size
theorem aMx{a:World}(i:bS B a pb s T s1 g vC vP mg)(l:fE B a vC CV)(f:Below B w a)(n:B<=w.heap.size)(d:a.heap[lb]?=some (.cells #[.int .i64 tp,v] 86)){j:Nat}(b:a.grownBy w1 (some pb))(m:dF B w1 pb s T j g vC vP (.map (some mg))):rI B pb w w1 s T ⟨j,s1.vars,s1.pz⟩ g vC vP mg CV lb tp v:=by
 obtain ⟨left,c,k⟩:=i.pp.box;have o:=f.size;have p:=b.size;refine ⟨i.take b m,l.take c b,f.grown b (by omega) (by simpa using k),?_,by omega⟩;rw [b.block lb (Array.getElem?_eq_some_iff.1 d).1 ?_]
 ·exact d
 ·intro e;simp at e;subst e;unfold bM at c;rw [d] at c;simp at c
theorem rI.boxKept(a:rI B pb w w1 s T s1 g vC vP mg CV lb tp v)(e:bQ B w1.heap.size mg w1 w3):w3.heap[lb]?=some (.cells #[.int .i64 tp,v] 86):=by
 rw [e.block lb (Array.getElem?_eq_some_iff.1 a.box).1 (zn ⟨?_,λj m l b=>?_⟩)]
 ·exact a.box
 ·rintro rfl;obtain ⟨f,⟨k,i,d,_⟩,_⟩:=a.q.map;have:=a.box;rw [d] at this;cases this
 ·rw [a.box] at b;simp at b;obtain ⟨_,rfl,_⟩:=b;exact ⟨by decide,by decide,λc=>absurd c (by decide)⟩
theorem rI.err(c:rI B pb w w1 s T s1 g vC vP mg CV lb tp v)(t:B<=w.heap.size)(o:B<=lb)(i:bQ B w1.heap.size mg w1 w3){k:Nat}{n m:Value}(e:dF B w3 pb s T k g vC n m)(l:Value):w3.cell? ⟨lb,1,none⟩=some v/\w3.frozen? ⟨lb,1,none⟩=false/\Below B w (w3.setCell ⟨lb,1,none⟩ l)/\dF B (w3.setCell ⟨lb,1,none⟩ l) pb s T k g vC n m:=by
 have b:=c.boxKept i;obtain ⟨left,d,r⟩:=e.box;obtain ⟨p,q,f⟩:=e.glyph;have j:=c.low.trans (i.below c.size);have u:=j.size;refine ⟨by unfold zs;rw [b];rfl,by unfold World.frozen?;rw [b];rfl,j.grown (cJ _ _ _) (by omega) (by simpa using o),e.far (cJ _ _ _) ?_ ?_⟩
 ·intro a;simp at a;subst a;unfold bM at d;rw [b] at d;simp at d
 ·intro a;simp at a;subst a;rw [b] at f;simp at f
theorem rI.ok{n:bA}(b:rI B pb w w1 s T s1 g vC vP mg CV lb tp v)(x:B<=w.heap.size)(p:B<=lb)(r:vC.ownBlock≠some lb)(f:bQ B w1.heap.size mg w1 w3){o e:Value}{P:List (Lt×Value)}(t:bS B w3 pb s T n g vC o mg)(l:w3.ownsRow w1.heap.size 41 2 e P.length (bC P))(i:∀d∈P,w3.ownsRow w1.heap.size 43 2 d.2 d.1.2.length (aV d.1.2)):w3.cell? ⟨lb,1,none⟩=some v/\w3.frozen? ⟨lb,1,none⟩=false/\rI B pb w (w3.setCell ⟨lb,1,none⟩ e) s T n g vC o mg CV lb tp e/\pQ (w3.setCell ⟨lb,1,none⟩ e) B (P,e):=by
 have a:=b.boxKept f;obtain ⟨u,q,_⟩:=b.q.map;have j:=b.low.trans (f.below b.size);have y:=j.size;have c:=cJ w3 ⟨lb,1,none⟩ e;have m:=b.size;refine ⟨by unfold zs;rw [a];rfl,by unfold World.frozen?;rw [a];rfl,⟨t.other a c,(b.cs.kept q f).other a r c,j.grown c (by omega) (by simpa using p),heap_setCell_same w3 lb 1 _ _ _ a,by have:=c.size;omega⟩,(gS l m).kept c (zn (xS l a (by decide))),λd k=>(gS (i d k) m).kept c (zn (xS (i d k) a (by decide)))⟩
theorem aMy(e0:∀c6,(aH T c6).kind∈gJ)(f5:∀c6,(aH T c6).txt.size<=1000000)(a7:s.size<=3000)(i0:T.length<=1000000)(a5:rH B w pb s T st g vC vP CV)(N:B<=w.heap.size)(b:st.pz.length<=st.i)(j0:CV.length<=st.i):Calls zx 31 #[.pointer (some ⟨pb,0,none⟩)] w λk w'=>aEp B pb w s T g CV (aH T st.i).pos (jE T st) k w':=by
 have j2:=@run_makeMap zx;obtain ⟨j6,c2⟩:=a5.pp;have j1:=c2.lt;obtain ⟨left,P,_⟩:=c2.box;have c0:=P.c2;have d4:∀c,(w.alloc c).cell? ⟨pb,2,none⟩=some (.int .i64 (aH T st.i).pos):=λc=>aD ((Below.refl w.heap.size w).alloc (zz _) c) c0
 have h4:=P.c6;have h6:=P.soft 6;have f0:=P.lt;obtain ⟨b0,b1,rfl⟩:=aY a5.cs.row;have d0:=aA a5;have a4:=aA e0;have f9:=aA f5;clear a5 P c2 e0 f5;obtain ⟨tp,a8⟩ : ∃tp,(aH T st.i).pos=tp:=⟨_,rfl⟩;rw [a8] at c0;simp only [a8] at d4 ⊢;have i9:=aA a8;clear a8;go_enter Tryz.func31,Tryz.ntmps31;go_upto_region 3 with (fail);have e1:((w.setCell ⟨pb,6,none⟩ (.map (some (w.heap.size+1)))).alloc (.cells #[.int .i64 tp,.slice none 0 0] 86)).alloc (.map #[] 0)=((w.alloc (.cells #[.int .i64 tp,.slice none 0 0] 86)).alloc (.map #[] 0)).setCell ⟨pb,6,none⟩ (.map (some (w.heap.size+1))):=by rw [zp _ _ _ _ (by simp;omega),zp _ _ _ _ f0]
 have f3:=aMw d0.o N #[.int .i64 tp,.slice none 0 0] e1;have f4:w.heap.size<(((w.setCell ⟨pb,6,none⟩ (.map (some (w.heap.size+1)))).alloc (.cells #[.int .i64 tp,.slice none 0 0] 86)).alloc (.map #[] 0)).heap.size:=by simp [zj];omega
 generalize ((w.setCell ⟨pb,6,none⟩ (.map (some (w.heap.size+1)))).alloc (.cells #[.int .i64 tp,.slice none 0 0] 86)).alloc (.map #[] 0)=W at *;have e9:=rM d0.o.cs.row;generalize w.heap.size+1=mg at *;have t:=N;obtain ⟨lb,e8⟩ : ∃lb,w.heap.size=lb:=⟨_,rfl⟩;rw [e8] at f4 e9 f3 N f0;simp only [e8];obtain ⟨d9,d7,d6,e2⟩:=f3;clear e1 c0 d4 h4 h6;have o:=aA d9;have G:=aA d7;have C:=aA d6;have L:=aA e2;clear d9 d7 d6 e2;have e:=aA (lR 102 (by decide) (by decide) (by decide) a4.o a7 o.o.pp);rw [show dN 102=36 from rfl] at e;by_cases D:(aH T st.i).kind=102
 ·rw [aG D,fH D] at e;go_upto_region 8 with (first
   |(go_at_call 58;refine (aC e).mono ?_;rintro k w2 ⟨rfl,d,b⟩;have I:=aA d;have d1:=aA b;clear d b)
   |go_in)
  have a6:=o.o.take I.o d1.o;obtain ⟨j4,e5,h9⟩:=o.o.pp.box;have e6:=G.o.take e5 I.o;have e4:Below B w w2:=C.o.grown I.o (by have:=C.o.size;omega) (by simpa using h9);have f6:w2.heap[lb]?=some (.cells #[.int .i64 tp,.slice none 0 0] 86):=by rw [I.o.block lb f4 (by simp;omega)];exact L.o
  have q:=aA a6;have H:=aA e6;have a:=aA e4;have r:=aA f6;have J:aI (jO T st=.ok (⟨st.i+1,[],st.pz⟩,[])):=aA (by rw [jO,aG D]);clear a6 e5 e6 e4 f6 o G C L I d1 e;obtain ⟨i2,Q,h8⟩:=q.o.pp.box;have a2:=Q.c4;have c8:w2.cell? ⟨lb,0,none⟩=some (.int .i64 tp):=by unfold zs;rw [r.o];rfl
  have E:w2.cell? ⟨lb,1,none⟩=some (.slice none 0 0):=by unfold zs;rw [r.o];rfl
  have c7:∀c,(w2.alloc c).cell? ⟨pb,4,none⟩=some (.slice b0 CV.length b1):=λc=>aD ((Below.refl w2.heap.size w2).alloc (zz _) c) a2
  have i1:=a.o.size;clear Q;go_cut [] (λA=>∃z,bS B A pb s T ⟨st.i+1,[],st.pz⟩ g z vP mg/\fE B A z (CV++[((tp,[]),.slice none 0 0)])/\Below B w A);case first=>
   refine rV ?_;have c3:=aA (q.o.below (aQ (w1:=w2.drew) ⟨1,rfl⟩));have S:=aA (H.o.below (aQ (w1:=w2.drew) ⟨1,rfl⟩));have c1:aI (Below B w w2.drew):=aA ⟨a.o.os,a.o.tape,a.o.output,a.o.size,a.o.block⟩;have c4:aI (pQ w2.drew B ([],.slice none 0 0)):=aA ⟨zh _ _ _ _,λj5 m=>by simp at m⟩;go_region_law (refine nN ?g1 (.tmp 30) (.tmp 32) 51 86 ?g2 (.agg #[.int .i64 0,.slice none 0 0]) 2 32 zg aEr ?g3 ?g4 ?g5 B _ CV.length (oE CV) ?g6 (S.out.row.alloc _) ?g7 ?g8 w2.heap.size 1 [.int .i64 tp,.slice none 0 0] ?g9 ?g10 (kH w2.drew _ _ 86 w2.heap.size rfl) (aEq _ _ _ _) ?_;(case g1=>rfl);(case g2=>rfl);(case g3=>rfl);(case g4=>decide);(case g5=>decide);(case g6=>rfl);(case g7=>omega);(case g8=>(simp;omega));(case g9=>rfl);(case g10=>rfl);intro i4 w3 x U;obtain ⟨h3,h5,l⟩:=aEo c3.out S.out c1.out t c4.out x U;have b5:=aA l;obtain ⟨i6,i7,rfl⟩:=aY x;clear x U l);all_goals
    refine pP ?_;go_wp2_with fail;go_meet;case rel=>exact ⟨_,b5.o⟩
  case rest=>
   obtain ⟨z,u,O,M⟩:=hcut;have n:=aA (lR 46 (by decide) (by decide) (by decide) a4.o a7 u.pp);rw [show dN 46=46 from rfl] at n;have b7:=aA u;have b3:=aA O;have b2:=aA M;clear u O M q H a r a2 c7 c8 E;obtain ⟨h0,R⟩ : ∃b9,decide ((aH T (⟨st.i+1,[],st.pz⟩ : bA).i).kind=46)=b9:=⟨_,rfl⟩;rw [R] at n;go_wp2_with (first
    |(go_at_call 58;refine (aC n).mono ?_;rintro k i8 ⟨rfl,V,Y⟩;have b4:=aA V;have b6:=aA Y;clear V Y)
    |go_in)
   go_ret;exact aEs t J.o R b7.o b3.o b2.o b4.o b6.o rfl
 ·rw [aF D,gH D] at e;have a3:aI (jO T st=fN T (T.length+1) ⟨st.i,[],st.pz⟩ []):=aA (by rw [jO,aF D]);have F:=aA (λw1 (a6:bS B w1 pb s T ⟨st.i,[],st.pz⟩ g (.slice b0 CV.length b1) vP mg) (h7:B<=w1.heap.size)=>aPy a4.o f9.o a7 i0 a6 h7 b (zk _));have b8:=aA (λw1 (d:W.grownBy w1 (some pb)) (b:dF B w1 pb s T st.i g (.slice b0 CV.length b1) vP (.map (some mg)))=>aMx o.o G.o C.o t L.o d b);cases m:fN T (T.length+1) ⟨st.i,[],st.pz⟩ [] with
  |error p=>
   rw [m] at F;have J:aI (jE T st=.error p):=aA (by rw [jE,a3.o,m]);clear m a3 o G C L;go_wp2_with (first
    |(go_at_call 58;refine (aC e).mono ?_;rintro k w1 ⟨rfl,d,b⟩;have f:=aA (b8.o w1 d b);clear d b)
    |(go_at_call 59;refine (F.o _ f.o.q f.o.size).mono ?_;rintro k w3 ⟨X,g0,i3,h2,j3,j8,j7,rfl,l,f1⟩;obtain ⟨E,d5,Z⟩:=f.o.err t N X l (.slice g0 i3 h2);have i:=aA Z;have f7:=aA f1;clear X l f1 Z)
    |go_in)
   go_ret;refine ⟨i.o.1,?_⟩;rw [J.o];exact ⟨_,_,_,_,rfl,i.o.2,f7.o⟩
  |ok y=>
   obtain ⟨a9,h1⟩:=y;rw [m] at F;have d3:aI (jO T st=.ok (a9,h1)):=aA (by rw [a3.o,m]);clear m a3 o G C L;go_upto_region 8 with (first
    |(go_at_call 58;refine (aC e).mono ?_;rintro k w1 ⟨rfl,d,b⟩;have f:=aA (b8.o w1 d b);clear d b)
    |(go_at_call 59;refine (F.o _ f.o.q f.o.size).mono ?_;rintro k w3 ⟨X,j,j9,i5,rfl,f2,c5,e3,d8⟩;obtain ⟨a0,a1,rfl⟩:=aY c5;obtain ⟨E,d5,Z,e7⟩:=f.o.ok t N e9 X f2 c5 e3;have i:=aA Z;have c9:=aA e7;have d2:=aA d8;clear X f2 c5 e3 Z d8 e7)
    |go_in)
   have J:aI (jO T st=.ok (a9,j.map zy)):=aA (by rw [d3.o,d2.o]);clear b8 F e f d3 d2 E d5;generalize w3.setCell ⟨lb,1,none⟩ (.slice a0 j.length a1)=w2 at *;have q:=aA i.o.q;have H:=aA i.o.cs;have a:=aA i.o.low;have r:=aA i.o.box;have f8:=aA c9.o;clear i c9;obtain ⟨i2,Q,h8⟩:=q.o.pp.box;have a2:=Q.c4;have c8:w2.cell? ⟨lb,0,none⟩=some (.int .i64 tp):=by unfold zs;rw [r.o];rfl
   have E:w2.cell? ⟨lb,1,none⟩=some (.slice a0 j.length a1):=by unfold zs;rw [r.o];rfl
   have c7:∀c,(w2.alloc c).cell? ⟨pb,4,none⟩=some (.slice b0 CV.length b1):=λc=>aD ((Below.refl w2.heap.size w2).alloc (zz _) c) a2
   have i1:=a.o.size;clear Q;go_cut [] (λA=>∃z,bS B A pb s T a9 g z i5 mg/\fE B A z (CV++[((tp,j),.slice a0 j.length a1)])/\Below B w A);case first=>
    refine rV ?_;have c3:=aA (q.o.below (aQ (w1:=w2.drew) ⟨1,rfl⟩));have S:=aA (H.o.below (aQ (w1:=w2.drew) ⟨1,rfl⟩));have c1:aI (Below B w w2.drew):=aA ⟨a.o.os,a.o.tape,a.o.output,a.o.size,a.o.block⟩;have c4:aI (pQ w2.drew B (j,.slice a0 j.length a1)):=aA f8.o;go_region_law (refine nN ?g1 (.tmp 30) (.tmp 32) 51 86 ?g2 (.agg #[.int .i64 0,.slice none 0 0]) 2 32 zg aEr ?g3 ?g4 ?g5 B _ CV.length (oE CV) ?g6 (S.out.row.alloc _) ?g7 ?g8 w2.heap.size 1 [.int .i64 tp,.slice a0 j.length a1] ?g9 ?g10 (kH w2.drew _ _ 86 w2.heap.size rfl) (aEq _ _ _ _) ?_;(case g1=>rfl);(case g2=>rfl);(case g3=>rfl);(case g4=>decide);(case g5=>decide);(case g6=>rfl);(case g7=>omega);(case g8=>(simp;omega));(case g9=>rfl);(case g10=>rfl);intro i4 w3 x U;obtain ⟨h3,h5,l⟩:=aEo c3.out S.out c1.out t c4.out x U;have b5:=aA l;obtain ⟨i6,i7,rfl⟩:=aY x;clear x U l);all_goals
     refine pP ?_;go_wp2_with fail;go_meet;case rel=>exact ⟨_,b5.o⟩
   case rest=>
    obtain ⟨z,u,O,M⟩:=hcut;have n:=aA (lR 46 (by decide) (by decide) (by decide) a4.o a7 u.pp);rw [show dN 46=46 from rfl] at n;have b7:=aA u;have b3:=aA O;have b2:=aA M;clear u O M q H a r a2 c7 c8 E;obtain ⟨h0,R⟩ : ∃b9,decide ((aH T (a9:bA).i).kind=46)=b9:=⟨_,rfl⟩;rw [R] at n;go_wp2_with (first
     |(go_at_call 58;refine (aC n).mono ?_;rintro k i8 ⟨rfl,V,Y⟩;have b4:=aA V;have b6:=aA Y;clear V Y)
     |go_in)
    go_ret;exact aEs t J.o R b7.o b3.o b2.o b4.o b6.o rfl
end
def aMz(B pb:Nat)(w:World)(s:ByteArray)(T:List Tk)(g:Nat)(d:Except Nat (bA×List (Nat×List Lt)))(b:Ending)(w':World):Prop:=
 Below B w w'/\
  match d with
  | .ok (s1,cs)=>∃vC vP a,b=.returned (.bool true)/\rH B w' pb s T s1 g vC vP a/\a.map iS=cs
  | .error p=>∃c vC vP e,b=.returned (.bool false)/\dF B w' pb s T c g vC vP e/\(aH T c).pos=p
structure TLq(B pb:Nat)(w:World)(s:ByteArray)(T:List Tk)(g:Nat)(r:Except Nat (bA×List (Nat×List Lt)))(k:Nat)(wr:World)(st:bA)(vC vP:Value)(CV:List Pc):Prop where
 t:rH B wr pb s T st g vC vP CV
 low:Below B w wr
 eq:r=fU T k st (CV.map iS)
 fuel:T.length<st.i+k
 pl:st.pz.length<=st.i
 few:CV.length<=st.i
theorem aN0{c:List Pc}(I:∀C,(aH T C).kind∈gJ)(O:∀C,(aH T C).txt.size<=1000000)(a8:s.size<=3000)(a3:T.length<=1000000)(G:∀st a x,jE T st=.ok (a,x)->st.i<T.length->st.i<a.i/\a.pz.length<=st.pz.length+(a.i-st.i))(F:rH B w pb s T st g vC vP c)(a2:B<=w.heap.size)(l:st.pz.length<=st.i)(J:c.length<=st.i):Calls zx 15 #[.pointer (some ⟨pb,0,none⟩)] w λi w'=>aMz B pb w s T g (fU T (T.length+1) st (c.map iS)) i w':=by
 have t:aI (TLq B pb w s T g (fU T (T.length+1) st (c.map iS)) (T.length+1) w st vC vP c):=aA ⟨F,Below.refl _ _,rfl,by omega,l,J⟩;obtain ⟨d,z⟩ : ∃d,fU T (T.length+1) st (c.map iS)=d:=⟨_,rfl⟩;rw [z] at t;simp only [z];have D:=aA I;have a1:=aA O;have W:=aA G;clear F z I O l J G;go_enter Tryz.func15,Tryz.ntmps15;go_wp2;go_loopg [] (T.length+1) (λb0 wr=>∃a R U n,TLq B pb w s T g d b0 wr a R U n);case atStart=>exact ⟨st,vC,vP,c,t.o⟩
 case round=>
  clear t;obtain ⟨a,R,U,n,b⟩:=hrel;obtain ⟨b6,q⟩:=b.t.pp;have a5:=q.lt;obtain ⟨left,A,b2⟩:=q.box;have b3:=b.fuel;have a7:=b.pl;have a4:=b.few;have a9:=b.low.size;have E:=A.c1;obtain ⟨r,rfl⟩ : ∃r,gk=r+1:=⟨gk-1,by omega⟩;by_cases j:(aH T a.i).kind=101
  ·rw [j,show dN 101=-1 from rfl] at E;have f:aI (d=.ok (a,n.map iS)):=aA (by rw [b.eq,fU,aG j]);have e:=aA b;clear b A q;go_wp2_with fail;go_ret;refine ⟨e.o.low,?_⟩;rw [f.o];exact ⟨_,_,_,rfl,e.o.t,rfl⟩
  ·have a6:(dN (aH T a.i).kind != -1)=true:=by
    simp only [bne_iff_ne];intro i;exact j (aAr _ (D.o a.i) 101 (by decide) (by rw [i];rfl))
   have m:=aA (aMy D.o a1.o a8 a3 b.t (Nat.le_trans a2 a9) a7 a4);have o:=aA b.eq;have e:=aA b;clear b A q;obtain ⟨P,L⟩ : ∃P,dN (aH T a.i).kind=P:=⟨_,rfl⟩;rw [L] at E a6;clear L;cases hq:jE T a with
   |error p=>
    rw [hq] at m;have f:aI (d=.error p):=aA (by rw [o.o,fU,aF j,hq]);clear hq o;go_wp2_with (first
     |(go_at_call 31;refine (aC m).mono ?_;rintro i w1 ⟨k,b5,S,V,b7,rfl,l,M⟩;have u:=aA k;have X:=aA l;have Z:=aA M;clear k l M)
     |go_in)
    go_ret;refine ⟨e.o.low.trans u.o,?_⟩;rw [f.o];exact ⟨_,_,_,_,rfl,X.o,Z.o⟩
   |ok y=>
    obtain ⟨Q,x⟩:=y;have b4:=W.o _ _ _ hq a5;rw [hq] at m;have f:aI (d=fU T r Q (n.map iS++[((aH T a.i).pos,x)])):=aA (by rw [o.o,fU,aF j,hq]);clear hq o;go_wp2_with (first
     |(go_at_call 31;refine (aC m).mono ?_;rintro i w1 ⟨k,S,V,b1,b8,rfl,N,H⟩;have u:=aA k;have a0:=aA N;have Y:=aA H;clear k N H)
     |go_in)
    go_roundg r;case measure=>omega
    case rel=>exact ⟨Q,S,V,_,a0.o,e.o.low.trans u.o,by rw [f.o,zu,zv,iS,Y.o],by omega,by omega,by simp;omega⟩
theorem aN1{w:World}{H:Array Oper}{I:List Oper}{l:Oper}{k:Act}{u:Exit->Act->World->Prop}(y:l.guard=none)(s n:Operand)(i:TypeId)
  (C:l.op=.call {callee:=.builtin .append,args:=#[s,n],argTypes:=#[i,i]})
  (e:Nat) (b:TypeId) (c:TypeInfo) (t:Value) (a p:Nat) (F:zx.underlying i=some (.slice b)) (z:zx.info? b=some c) (a0:c.zero=some t) (X:c.size=a) (Q:c.bytes=p) (a1:t.cells.size=a) (Y:0<a)
  (v:Value) (d:Nat) (o:List Value) (E:k.eval s=v) (q:w.ownsRow e b a v d o) (L:Value) (f M:Nat) (j:List Value) (G:k.eval n=L) (D:w.ownsRow M b a L f j) (O:∀J∈j,J.oneCell'=true) (W:d+f<=maxLen) (R:(d+f)*p<=140737488355328) (P:e<=w.heap.size)
  (x:∀m w',w'.ownsRow e b a m (d+f) (o++j)->w.grownBy w' v.ownBlock->wpList zx H u I (k.put l.dst m) w'):wpList zx H u (l::I) k w:=by
 have S:=D;obtain ⟨U,⟨rfl,V⟩|⟨g,N,a4,rfl,a5,a6,a8⟩⟩:=D
 ·subst V;have Z:j=[]:=List.eq_nil_of_length_eq_zero (by omega);subst Z;refine wpList_append_own_none y s n i C e b c a F z v d o E q G ?_;exact x v w (by simpa using q) (World.grownBy.refl _ _)
 ·refine wpList_append_own w y s n i C e b c t a p F z a0 X Q a1 Y v d o E q ⟨g,0,none⟩ f N j G U (λr J A=>?_) O W R P (λm w' a2 a3 _=>x m w' a2 a3);have a7:=(List.getElem?_eq_some_iff.1 A).1;have:=S.cellAt r (by omega);rw [A] at this;cases r with
  |zero=>simpa [Addr.add] using this
  |succ r=>simpa [Addr.add] using this
theorem xT(b:List Pc):∀a (c:a<b.length),(oE b)[a*2]?=some (.int .i64 b[a].1.1)/\(oE b)[a*2+1]?=some b[a].2:=by
 induction b with
 |nil=>intro a c;simp at c
 |cons x r ih=>
  intro a c;cases a with
  |zero=>simp [oE]
  |succ a=>
   have:=ih a (by simpa using c);have d:(a+1)*2=a*2+2:=by omega
   rw [d];simp only [oE,List.flatMap_cons,List.cons_append,List.nil_append,List.getElem_cons_succ] at this ⊢;have e:a*2+2+1=a*2+1+2:=by omega
   rw [e];simp only [List.getElem?_cons_succ];exact this
theorem aN2(d:List Us):∀c∈fS d,c.oneCell'=true:=by intro c a;unfold fS at a;rw [ze] at a;obtain ⟨e,_,b⟩:=a;simp at b;rcases b with rfl|rfl|rfl<;>rfl
theorem aN3(a b:List Us):fS (a++b)=fS a++fS b:=by simp [fS]
structure aAm(p:Pc):Prop where
 short:∀q∈p.1.2,eD q.1.2
 count:aS (p.1.2.map zy)<=100000
 len:p.1.2.length<=100000
def fF(a:List Pc):List Us:=a.flatMap λb=>eJ (b.1.2.map zy)
theorem aN4(a:List Pc)(b:Nat)(c:b<a.length):fF (a.take (b+1))=fF (a.take b)++eJ (a[b].1.2.map zy):=by rw [zt c];unfold fF;rw [zr,zm]
theorem aN5(a:List Pc)(b:Nat):(fF (a.take b)).length<=(fF a).length:=by
 have:fF a=fF (a.take b)++fF (a.drop b):=by unfold fF;rw [<-zr,List.take_append_drop]
 rw [this,zw];omega
theorem aN6{a:List Pc}(o:fE B w vC a)(b7:w.cell? ⟨pb,4,none⟩=some vC)(M:∀b2∈a,aAm b2)(b9:a.length<=1000000)(b6:(fF a).length<=1000000):Calls zx 17 #[.pointer (some ⟨pb,0,none⟩)] w λj w'=>∃v,j=.returned v/\w'.ownsRow w.heap.size 83 3 v (fF a).length (fS (fF a))/\aB w w':=by
 obtain ⟨a9,a0,a1,a2,a3⟩:=info_parts aGl;obtain ⟨c5,c6,rfl⟩:=aY o.row;have e:=aA o;have X:=aA M;clear o M;go_enter Tryz.func17,Tryz.ntmps17;go_wp2;go_loopw [3,11] (λb1 y wr=>∃b:Nat,b<=a.length/\y=.int .i64 b/\wr.ownsRow w.heap.size 83 3 b1 (fF (a.take b)).length (fS (fF (a.take b)))/\aB w wr) (λ_ y _=>a.length-(intOf y).toNat);case atStart=>exact ⟨0,zk _,rfl,zh _ _ _ _,Below.refl _ _⟩
 case round=>
  obtain ⟨b,b8,rfl,l,d⟩:=hrel;obtain ⟨c0,c1,rfl⟩:=aY l;have a8:=d.size;have z:=aA d;have m:=aA l;by_cases t:b<a.length
  ·have k:a[b]∈a:=zd _;have f:=X.o _ k;obtain ⟨i,n,N,H⟩:=aCn (P:=a[b].1.2) (e.o.each _ k).1 (e.o.each _ k).2 f.short (by have:=f.count;omega) (by have:=f.len;omega);obtain ⟨E,b4,O⟩:=uO e.o.row (by omega);simp at O;obtain ⟨rfl,rfl⟩:=O;have C:w.cell? ⟨E,b*2,none⟩=some (.int .i64 a[b].1.1):=by rw [e.o.row.cellAt _ (by omega),(xT a b t).1]
   have D:w.cell? ⟨E,b*2+1,none⟩=some (.slice i a[b].1.2.length n):=by rw [e.o.row.cellAt _ (by omega),(xT a b t).2,N]
   have b5:=aD d C;have Z:=aD d D;have a4:=f.count;have x:=aN4 a b t;have a6:=aN5 a (b+1);rw [x,zw] at a6;have Y:=aA x;have L:(a[b].1.2.map zy).length=a[b].1.2.length:=by simp
   rw [<-L] at Z;clear C D N f k x L;generalize a[b].1.2.map zy=c at *;generalize a[b].1.1=at0 at *;generalize fF (a.take b)=U0 at *;have Q:=aA (λwx (a7:bP wx i c)=>aGm i n c wx a7 a4);have U:=aA (H.below d (zz _));clear l d H;go_wp2_with (first
    |(go_at_call 20;refine (Q.o _ (U.o.below ((Below.refl _ _).alloc (zz _) _) (zz _))).mono ?_;rintro j w1 ⟨c3,rfl,u,r⟩;have p:=(z.o.alloc a8 (.cells #[.int .i64 at0,.slice i c.length n] 86));have q:=p.trans (r.mono p.size);have F:=q.size;have J:=bF (m.o.alloc _) r (zz _);have A:=aA J;have V:=aA u;have R:=aA q;obtain ⟨c2,b3,rfl⟩:=aY u;clear J u r p q)
    |(at_builtin;refine aN1 rfl (.tmp 15) (.tmp 18) 56 rfl w.heap.size 83 a9 (.agg #[.string ⟨#[]⟩,.bool false,.int .i64 0]) 3 32 Tryz.underlying56 a0 a1 a2 a3 rfl (by decide) _ _ _ rfl A.o _ _ _ _ rfl V.o (aN2 _) (by unfold maxLen;omega) (by omega) F ?_;intro c4 w2 I G;have W:=aA I;have S:=aA G;clear I G)
    |go_in)
   go_roundw;case rel=>exact ⟨b+1,by omega,by go_num,by rw [Y.o,zw,aN3];exact W.o,R.o.grown S.o F (λb0 j=>(cL A.o b0 j).1)⟩
   case measure=>simp [intOf];omega
  ·have a5:b=a.length:=by omega
   subst a5;clear l d;rw [zo] at m;go_wp2;go_ret;exact ⟨_,rfl,by rw [zo];exact m.o,z.o⟩
def aN7(d:List Pc)(w:World)(e:Ending)(w':World):Prop:=
 ∃v a b c,e=.returned (.tuple #[v,.int .i64 b,.int .i64 c])/\zD (d.map iS) (a.map λf=>f.1.map zy) b c/\kP w.heap.size w' v a/\aB w w'
structure OLp(CV:List Pc)(w:World)(k:Nat)(v:Value)(wr:World)(QV:List (List (Lt×Value)×Value)):Prop where
 le:k<=CV.length
 made:QV.map (λp=>p.1.map zy)=(CV.take k).map λp=>aT (p.1.2.map zy)
 good:∀j h,j<k->¬pR (CV.map iS) j h
 mem:kP w.heap.size wr v QV
 low:aB w wr
theorem aEu{b:List Pc}{a:Nat}(d:a<b.length)(c:a<(b.map iS).length):pR (b.map iS) a c↔(40<=a\/cZ (aT (b[a].1.2.map zy))=false):=by unfold pR;rw [zc];exact Iff.rfl
theorem aN8{d:Type}{a:d->Option Nat}{c:List d}(b:(c.map a).Nodup):(c.filterMap a).Nodup:=by unfold List.Nodup at b ⊢;rw [List.pairwise_map] at b;refine List.Pairwise.filterMap a (λk l j m f n i e=>j ?_) b;subst e;rw [f,i]
section
variable {CV:List Pc}{w wr:World}{k:Nat}{v:Value}{QV:List (List (Lt×Value)×Value)}
theorem aEv{d:List Lt}{j:Value}{o:Nat}{a:List (Lt×Value)}(b:uF w1 d j o a w2)(l:B<=w1.heap.size)(r:∀u∈d,eD u.2)(z:aS d<=100000)(A:d.length<=100000):pQ w2 B (a,j)/\((∀c∈a,eD c.1.2)/\aS (a.map zy)<=1000000/\a.length<=1000000)/\bP w2 (some ⟨o,0,none⟩) (aT d):=by
 obtain ⟨t,C,D⟩:=aVc d r;have q:a.length=(aT d).length:=by rw [<-b.made];simp
 have f:pQ w2 B (a,j):=by refine ⟨?_,λc e=>gS (b.atoms c e) l⟩;rw [b.val,q];exact gS b.row l
 have n:∀c∈a,eD c.1.2:=λc e=>t c.1 (by rw [<-b.made];exact zl.2 ⟨c,e,rfl⟩)
 have m:aS (a.map zy)<=1000000:=by rw [b.made];omega
 refine ⟨f,⟨n,m,by omega⟩,?_⟩;obtain ⟨x,y,i,p⟩:=aCn (P:=a) f.1 f.2 n m (by omega);rw [b.val] at i;simp at i;rw [<-b.made];rw [i.1];exact p
theorem aN9{w4:World}{c:List Lt}{vo v':Value}{nb:Nat}{Q:List (Lt×Value)}{X Y:Obj}(a:OLp CV w k v wr QV)(t:k<CV.length)(z:CV[k].1.2.map zy=c)(b:uF (wr.alloc X) c vo nb Q w2)(x:aB w2 w3)(N:∀W∈c,eD W.2)(D:aS c<=100000)(H:c.length<=100000)(E:k<40/\cZ (aT c)=true)(I:w4.ownsRow w.heap.size 29 1 v' (QV.length+1) (QV.map Prod.snd++[vo]))(i:(w3.alloc Y).grownBy w4 v.ownBlock):OLp CV w (k+1) v' w4 (QV++[(Q,vo)]):=by
 have R:=a.low.size;have C:=(Below.refl wr.heap.size wr).alloc (zz _) X;have S:=b.low.size;have U:=x.size;have u:aB w2 (w3.alloc Y):=x.alloc U Y;simp at S;have f:aB wr (w3.alloc Y):=(C.trans (b.low.mono (by simp))).trans (u.mono (by omega));have l:=bF a.mem.mem.1 f (zz _);obtain ⟨y,O,_⟩:=aEv (B:=w.heap.size) b (by simp;omega) N D H;have P:vo.ownBlock=some nb:=by rw [b.val];rfl
 have a0:wr.heap.size<nb+1:=by have:=(cL b.row nb rfl).1;simp at this;omega
 refine ⟨t,?_,λp F Z=>?_,⟨⟨?_,λm hp=>?_⟩,?_,?_⟩,?_⟩
 ·rw [zu,a.made,zv,zt t,zu,zv,b.made,z]
 ·by_cases G:p=k
  ·subst G;rw [aEu t,z,E.2];rintro (h1|h1)
   ·omega
   ·simp at h1
  ·exact a.good p F (by omega)
 ·rw [zw,zu,zv];exact I
 ·rcases List.mem_append.1 hp with hp|hp
  ·obtain ⟨h1,r⟩:=a.mem.mem.2 m hp;refine ⟨⟨?_,λn j=>?_⟩,r⟩
   ·have:=bF h1.1 f (zz _);exact this.kept i (fQ this l (by decide))
   ·have:=bF (h1.2 n j) f (zz _);exact this.kept i (fQ this l (by decide))
  ·simp at hp;subst hp;refine ⟨⟨?_,λn j=>?_⟩,O⟩
   ·have:=bF y.1 u (zz _);exact this.kept i (fQ this l (by decide))
   ·have:=bF (y.2 n j) u (zz _);exact this.kept i (fQ this l (by decide))
 ·rw [zu,zv,zf];refine ⟨a.mem.once,by simp,λq e A o=>?_⟩;simp at o;subst o;obtain ⟨m,hp,rfl⟩:=zl.1 e;rw [P];intro d;have:=(cL (a.mem.mem.2 m hp).1.1 nb d).2;omega
 ·rw [zr,zm,zf];refine ⟨a.mem.atoms,aN8 b.once,λq e A o=>?_⟩;obtain ⟨m,hp,e⟩:=ze.1 e;obtain ⟨n,j,L⟩:=zi.1 e;obtain ⟨V,J,M⟩:=zi.1 o;intro d;subst d;have h1:=(cL ((a.mem.mem.2 m hp).1.2 n j) q L).2;have r:=(cL (b.atoms V J) q M).1;simp at r;omega
 ·exact (a.low.trans (f.mono R)).grown i (by have:=f.size;omega) (λp d=>(cL l p d).1)
theorem aNa(M:fE B w vC CV)(c2:∀F∈CV,aAm F)(D:∀F∈CV,∀G∈F.1.2,uD G.1.2)(e5:CV.length<=1000000):Calls zx 18 #[vC] w λr w'=>aN7 CV w r w':=by
 obtain ⟨e0,d4,d5,d6,d7⟩:=info_parts aV4;obtain ⟨f1,f2,rfl⟩:=aY M.row;have y:=aA M;have c9:=aA c2;have d0:=aA D;clear M c2 D;go_enter Tryz.func18,Tryz.ntmps18;go_wp2;go_loopw [5,11] (λe1 b0 wr=>∃(k:Nat) (QV:List (List (Lt×Value)×Value)),b0=.int .i64 k/\OLp CV w k e1 wr QV) (λ_ b0 _=>CV.length-(intOf b0).toNat);case atStart=>exact ⟨0,[],rfl,⟨zk _,rfl,λc5 M a5=>by omega,kP.nil _ _,Below.refl _ _⟩⟩
 case round=>
  obtain ⟨k,QV,rfl,d⟩:=hrel;have e4:=d.le;have a9:=d.low.size;obtain ⟨e7,e8,rfl⟩:=aY d.mem.mem.1;have d8:QV.length=k:=by have:=congrArg List.length d.made;simp at this;omega
  have e6:QV.length<=1000000:=by omega
  clear d8;by_cases t:k<CV.length
  ·have C:CV[k]∈CV:=zd _;have o:=c9.o _ C;obtain ⟨n,q,D,a6⟩:=aCn (P:=CV[k].1.2) (y.o.each _ C).1 (y.o.each _ C).2 o.short (by have:=o.count;omega) (by have:=o.len;omega);obtain ⟨b7,e3,c4⟩:=uO y.o.row (by omega);simp at c4;obtain ⟨rfl,rfl⟩:=c4;have b4:w.cell? ⟨b7,k*2,none⟩=some (.int .i64 CV[k].1.1):=by rw [y.o.row.cellAt _ (by omega),(xT CV k t).1]
   have b5:w.cell? ⟨b7,k*2+1,none⟩=some (.slice n CV[k].1.2.length q):=by rw [y.o.row.cellAt _ (by omega),(xT CV k t).2,D]
   have d2:=aD d.low b4;have b6:=aD d.low b5;have N:=o.count;have A:=o.len;have c1:(CV[k].1.2.map zy).length=CV[k].1.2.length:=by simp
   rw [<-c1] at b6 A;have O:∀H∈CV[k].1.2.map zy,eD H.2:=λH f=>by obtain ⟨G,a8,rfl⟩:=zl.1 f;exact o.short G a8
   have i:∀H∈CV[k].1.2.map zy,uD H.2:=λH f=>by obtain ⟨G,a8,rfl⟩:=zl.1 f;exact d0.o _ C G a8
   have a2:=aEu t (by simpa using t);obtain ⟨b,a3⟩ : ∃b,CV[k].1.2.map zy=b:=⟨_,rfl⟩;obtain ⟨l,a1⟩ : ∃d1,CV[k].1.1=d1:=⟨_,rfl⟩;rw [a3] at b6 A N O i a2 a6;rw [a1] at d2;have x:aI (40<=k\/cZ (aT b)=false->zD (CV.map iS) [] l 4):=aA λf=>Or.inl ⟨k,by simpa using t,a2.2 f,d.good,rfl,by rw [zc];simp [iS,a1],rfl⟩
   have J:=aA (λ(w2 w3 Q:World) (m b1:Value) (c:Nat) (j:List (Lt×Value)) (Y a0:Obj) a e hg a7 a4=>aN9 (w2:=w2) (w3:=w3) (w4:=Q) (vo:=m) (v':=b1) (nb:=c) (Q:=j) (X:=Y) (Y:=a0) d t a3 a e O N A hg a7 a4);have S:=aA (λwx (f:bP wx n b)=>aG6 n q b wx f i N A);have b2:=aA (λ(w1 w2:World) (m:Value) (c:Nat) (j:List (Lt×Value)) (a:uF w1 b m c j w2)=>(aEv (B:=0) a (zk _) O N A).2.2);have W:=aA (a6.below d.low (zz _));have X:=aA d.mem.mem.1;have p:=aA d;clear b4 b5 D o C c1 a2 a3 a1 d a6 O i;have Z:aI ((wr.alloc (.cells #[.int .i64 l,.slice n b.length q] 86)).cell? ⟨wr.heap.size,0,none⟩=some (.int .i64 l)):=aA (by simp);by_cases d3:k<40
   ·cases hfit:cZ (aT b) with
    |false=>
     have V:=aA (x.o (zn hfit));have u:=aA (λwx c (f:bP wx (some ⟨c,0,none⟩) (aT b))=>uG (some ⟨c,0,none⟩) (aT b).length (aT b) wx f);rw [hfit] at u;clear J x hfit;go_wp2_with (first
      |(go_at_call 33;refine (u.o _ c (b2.o _ _ _ _ _ z.o)).mono ?_;rintro r w3 ⟨rfl,e⟩;have U:=aA e;have e2:=aD e R;have b3:=aA (bF L.o e (zz _));have d9:=e.size;clear e)
      |(go_at_call 32;refine (S.o _ (W.o.below ((Below.refl _ _).alloc (zz _) _) (zz _))).mono ?_;rintro r w2 ⟨m,c,j,rfl,a⟩;have i:=a.val;subst i;have R:=aD a.low Z.o;have z:=aA a;have I:=aA (p.o.low.trans (((Below.refl wr.heap.size wr).alloc (zz _) (.cells #[.int .i64 l,.slice n b.length q] 86)).mono a9 |>.trans (a.low.mono (by simp;omega))));have L:=aA (bF (X.o.alloc _) a.low (zz _));have E:=a.low.size;simp at E;clear a)
      |go_in)
     go_quiet (fail);go_wp2;go_returns;exact ⟨_,[],l,4,rfl,V.o,kP.nil _ _,(I.o.trans (U.o.mono (by omega))).trans ((aQ ⟨_,rfl⟩).mono (by omega))⟩
    |true=>
     have u:=aA (λwx c (f:bP wx (some ⟨c,0,none⟩) (aT b))=>uG (some ⟨c,0,none⟩) (aT b).length (aT b) wx f);rw [hfit] at u;have c8:=aA (λw2 w3 Q m b1 c j Y a0 a e a7 a4=>J.o w2 w3 Q m b1 c j Y a0 a e ⟨d3,hfit⟩ a7 a4);clear J x hfit;go_wp2_with (first
      |(at_builtin;refine wpList_append_own _ rfl (.tmp 28) (.tmp 30) 23 rfl w.heap.size 29 e0 (.slice none 0 0) 1 24 Tryz.underlying23 d4 d5 d6 d7 rfl (by decide) _ _ _ rfl (b3.o.alloc _) ⟨_,0,none⟩ 1 1 [.slice (some ⟨c,0,none⟩) (aT b).length (aT b).length] rfl rfl (tS w3 _ _ _ rfl) (by intro e9 c3;simp at c3;subst c3;rfl) (by unfold maxLen;omega) (by omega) (by simp;omega) ?_;intro f0 Q c0 b8 _;have c7:=aA (c8.o _ _ _ _ _ _ _ _ _ z.o U.o c0 b8);clear c0 b8)
      |(go_at_call 33;refine (u.o _ c (b2.o _ _ _ _ _ z.o)).mono ?_;rintro r w3 ⟨rfl,e⟩;have U:=aA e;have e2:=aD e R;have b3:=aA (bF L.o e (zz _));have d9:=e.size;clear e)
      |(go_at_call 32;refine (S.o _ (W.o.below ((Below.refl _ _).alloc (zz _) _) (zz _))).mono ?_;rintro r w2 ⟨m,c,j,rfl,a⟩;have i:=a.val;subst i;have R:=aD a.low Z.o;have z:=aA a;have I:=aA (p.o.low.trans (((Below.refl wr.heap.size wr).alloc (zz _) (.cells #[.int .i64 l,.slice n b.length q] 86)).mono a9 |>.trans (a.low.mono (by simp;omega))));have L:=aA (bF (X.o.alloc _) a.low (zz _));have E:=a.low.size;simp at E;clear a)
      |go_in)
     go_roundw;case rel=>exact ⟨k+1,_,by go_num,c7.o⟩
     case measure=>simp [intOf];omega
   ·have V:=aA (x.o (Or.inl (by omega)));clear J x;go_wp2_with (first
     |(go_at_call 32;refine (S.o _ (W.o.below ((Below.refl _ _).alloc (zz _) _) (zz _))).mono ?_;rintro r w2 ⟨m,c,j,rfl,a⟩;have i:=a.val;subst i;have R:=aD a.low Z.o;have z:=aA a;have I:=aA (p.o.low.trans (((Below.refl wr.heap.size wr).alloc (zz _) (.cells #[.int .i64 l,.slice n b.length q] 86)).mono a9 |>.trans (a.low.mono (by simp;omega))));have L:=aA (bF (X.o.alloc _) a.low (zz _));have E:=a.low.size;simp at E;clear a)
     |go_in)
    go_quiet (fail);go_wp2;go_returns;exact ⟨_,[],l,4,rfl,V.o,kP.nil _ _,I.o.trans ((aQ ⟨_,rfl⟩).mono (by omega))⟩
  ·have b9:k=CV.length:=by omega
   have c6:aI (zD (CV.map iS) (QV.map λF=>F.1.map zy) 0 0):=aA (zn ⟨λc5 a5=>d.good c5 a5 (by simp at a5;omega),by rw [d.made,b9,zo,List.map_map];rfl,rfl,rfl⟩);have p:=aA d;clear d b9;go_wp2;go_returns;exact ⟨_,QV,0,0,rfl,c6.o,p.o.mem,p.o.low⟩
end
