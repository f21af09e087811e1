import Derived.Test.YtmelidkanelpbaaGreatDoorGTokH
open List renaming length_append→zw,map_singleton→zp
open Nat renaming le_refl→zz,le_trans→zo,zero_le→zl
open Or renaming inr→zr
open Prod renaming fst→zv
namespace Go.Proofs.YtmelidkanelpbaaGreatDoor
open _root_.Go.Proofs.Tryz renaming prog→zy,underlying51→zn,underlying62→zm
open World renaming cell?→zx,ownsRow_nil→zt,setCell_alloc_past→zs,setCell→zq
open Go.RowKit Go.WideMaps
set_option maxHeartbeats 4000000
set_option maxRecDepth 100000
variable{s:ByteArray}{T:List Tk}{B g lb mg pb tp:Nat}{v vC vP vl:Value}{w w' w1 w3:World}{s1 st:bE}
theorem sX.shape{f:Nat}{e:Except Nat (bE×List Nd)}{d:Ending}(c:sX B f pb w s T g vC mg e d w'):∃a n b i,d=.returned (.tuple #[.slice a n b,.bool i]):=by
 obtain ⟨_,c⟩:=c;cases e with
 |error p=>obtain ⟨a,n,b,l,vP,o,rfl,_⟩:=c;exact ⟨a,n,b,false,rfl⟩
 |ok y=>
  obtain ⟨s1,m⟩:=y;obtain ⟨vl,vP,rfl,_,j⟩:=c;obtain ⟨a,b,k⟩:=bA j;exact ⟨a,_,b,true,by rw [k]⟩
theorem aR0(b:List Nd)(a c:Nat)(d:a<b.length):∃e:ByteArray,(dS b a c)[a]'(by rw [vV];exact d)=(e,(c:Int)):=by unfold dS;exact ⟨b[a].1,by rw [List.getElem_modify_eq]⟩
structure PLq(B B' pb:Nat)(w:World)(s:ByteArray)(T:List Tk)(g:Nat)(vC:Value)(mg nm:Nat)(r:Except Nat (bE×List Nd×Nat))(k:Nat)(vl:Value)(wr:World)(st:bE)(L:List Nd)(n:Nat)(vP:Value):Prop where
 q:bX B wr pb s T ⟨st.i+1,st.vars,st.pz⟩ g vC vP mg
 row:wr.ownsRow B' 117 2 vl L.length (bB (dS L nm n))
 kept:bV B B' mg w wr
 eq:r=dT T k st L n
 fuel:T.length<st.i+k
 nm:nm<L.length
 len:L.length<=st.i
 pl:st.pz.length<=st.i
 vs:st.vars.length<=st.i
 few:n<=st.i
theorem PLq.step{B f pb:Nat}{w:World}{s:ByteArray}{T:List Tk}{g:Nat}{vC:Value}{mg k:Nat}{e:Except Nat (bE×List Nd×Nat)}{b:Nat}{vl:Value}{wr:World}{st:bE}{a:List Nd}{n:Nat}{vP:Value}(i:PLq B f pb w s T g vC mg k e (b+1) vl wr st a n vP){d:Except Nat (bE×List Nd)}(j:cJ T b false ⟨st.i+1,st.vars,st.pz⟩ []=d):match d with
  | .error p=>e=.error p
  | .ok (s1,x)=>e=if (aJ T s1.i).kind=44 then dT T b s1 (a++x) (n+1) else if (aJ T s1.i).kind=41 then .ok (⟨s1.i+1,s1.vars,s1.pz⟩,a++x,n+1) else .error (aJ T s1.i).pos:=by
 have c:=i.eq;rw [dT,(aIh T b).1 false _ a,j] at c;cases d with
 |error p=>exact c
 |ok y=>exact c
theorem aR1{i:Nat}{a:Nat}{d e:List Nd}{b:Nat}(p:bX B w1 pb s T s1 g vC vP mg)(f:w1.ownsRow i 117 2 vl (dS d a b++e).length (bB (dS d a b++e)))(o:a<d.length)(m:B<=i)(n:bV B i mg w w1):∃c j,vl=.slice (some ⟨c,0,none⟩) (d++e).length j/\w1.cell? ⟨c,a*2+1,none⟩=some (.int .i64 b)/\w1.frozen? ⟨c,a*2+1,none⟩=false/\
   bX B (w1.setCell ⟨c,a*2+1,none⟩ (.int .i64 ((b:Int)+1))) pb s T s1 g vC vP mg/\(w1.setCell ⟨c,a*2+1,none⟩ (.int .i64 ((b:Int)+1))).ownsRow i 117 2 vl (d++e).length (bB (dS (d++e) a (b+1)))/\bV B i mg w (w1.setCell ⟨c,a*2+1,none⟩ (.int .i64 ((b:Int)+1))):=by
 rw [<-aSx d e a b o,vV] at f;have l:a<(d++e).length:=by simp;omega
 obtain ⟨c,j,rfl⟩:=wU f (by omega);have k:w1.grownBy (w1.setCell ⟨c,a*2+1,none⟩ (.int .i64 ((b:Int)+1))) (some c):=cN _ _ _;obtain ⟨r,q⟩:=aR0 (d++e) a b l;refine ⟨c,j,rfl,?_,f.frozenAt _,p.far f (by decide) k,?_,n.grownRow f m (zr ⟨rfl,zz _⟩) k⟩
 ·rw [f.cellAt _ (by omega),(xT _ a (by rw [vV];exact l)).2,q]
 ·have:=(f.stored (a*2+1) (.int .i64 ((b+1:Nat):Int))).1;rw [aYh,aSz] at this;exact this
section
variable {B pb:Nat}{s:ByteArray}{T:List Tk}{g:Nat}{vC:Value}{mg:Nat}
theorem aR2(D:Nat)(c1:∀e2,(aJ T e2).kind∈gX)(c5:s.size<=3000)(e9:T.length<=1000000)(b5:∀Y,Y<D->aIi B pb s T g vC mg Y):aIk B pb s T g vC mg D:=by
 intro R st vP vl H b2 w a5 a9 c0 d5 d6 f3 a1 e1;have d7:=a5.pp.lt;simp only at d7;obtain ⟨e3,e4,rfl⟩:=bA a9;have c7:=aA b5;have b4:=aA c1;have a3:aM (PLq B R pb w s T g vC mg H.length (dT T D st (H++[(b2,0)]) 0) D (.slice e3 (H.length+1) e4) w st (H++[(b2,0)]) 0 vP):=aA ⟨a5,by rw [aYi,zw];exact a9,bV.refl _ _ _ _,rfl,d6,by simp,by simp;omega,a1,e1,zl _⟩;obtain ⟨C,a8⟩ : ∃C,dT T D st (H++[(b2,0)]) 0=C:=⟨_,rfl⟩;rw [a8] at a3;simp only [a8];have f4:H.length<=1000000:=by omega
 clear a5 a9 b5 c1 a8;generalize H.length=nm at *;go_enter Tryz.func128,Tryz.ntmps128;go_wp2;go_loopg [1] D (λY vl wr=>Y<=D/\∃f n l b1,PLq B R pb w s T g vC mg nm C Y vl wr f n l b1);case atStart=>exact ⟨zz _,st,_,0,vP,a3.o⟩
 case round=>
  clear a3;obtain ⟨f2,f,n,l,b1,a⟩:=hrel;have d8:=a.q.pp.lt;simp only at d8;have f1:=a.fuel;have d9:=a.nm;have f5:=a.len;have f9:=a.pl;have g0:=a.vs;have f0:=a.few;obtain ⟨x,rfl⟩ : ∃x,gk=x+1:=⟨gk-1,by omega⟩;obtain ⟨g4,g5,rfl⟩:=bA a.row;have z:=aA (c7.o x (by omega) R false ⟨f.i+1,f.vars,f.pz⟩ b1 _ (dS n nm l) wr a.q (by rw [vV];exact a.row) c0 (zo d5 a.kept.size) (by simp) (by simp;omega) (by rw [vV];simp;omega) (by simp;omega) (by simp;omega));have M:=aA a;have c4:=(aIh T x).1 false ⟨f.i+1,f.vars,f.pz⟩ (dS n nm l);rw [c4] at z;clear c4;cases hq:cJ T x false ⟨f.i+1,f.vars,f.pz⟩ [] with
  |error p=>
   have G:=M.o.step hq;rw [hq] at z;have d3:aM (C=.error p):=aA G;clear hq G a;go_wp2_with (first
    |(go_at_call 109;refine (aD z).mono ?_;rintro o w1 ⟨c,e7,g2,e8,g1,d,g3,rfl,a1,c3⟩;have c8:=aA c;have c9:=aA a1;have d1:=aA c3;clear c a1 c3)
    |go_in)
   go_ret2;refine ⟨M.o.kept.trans c8.o,?_⟩;rw [d3.o];exact ⟨_,_,_,_,_,_,rfl,c9.o,d1.o⟩
  |ok y=>
   obtain ⟨s1,a2⟩:=y;have G:=M.o.step hq;simp only at G;have e0:=(wT T x).1 _ _ _ _ _ hq;simp only [List.length_nil] at e0;rw [hq] at z;obtain ⟨A,a7⟩ : ∃A,n++a2=A:=⟨_,rfl⟩;have c2:A.length=n.length+a2.length:=by rw [<-a7];simp
   have Z:=aA (λ(w1:World) (d I:Value) (j:bX B w1 pb s T s1 g vC d mg) (k:w1.ownsRow R 117 2 I (dS n nm l++a2).length (bB (dS n nm l++a2))) (c:bV B R mg w w1)=>aR1 j k d9 c0 c);rw [a7] at G Z;have O:=aA G;have f7:(nm:Int)<(A.length:Int):=by omega
   have f6:(0:Int)<=(nm:Int):=by omega
   have f8:l<=1000000:=by omega
   have b3:=aA c2;clear hq G a a7 c2;have L:=aA (λw1 d (b0:dH B w1 pb s T s1.i g vC d (.map (some mg)))=>mM 44 (by decide) (by decide) (by decide) b4.o c5 b0);rw [show dN 44=44 from rfl] at L;have J:=aA (λw1 d (b0:dH B w1 pb s T s1.i g vC d (.map (some mg)))=>mM 41 (by decide) (by decide) (by decide) b4.o c5 b0);rw [show dN 41=41 from rfl] at J;by_cases E:(aJ T s1.i).kind=44
   ·rw [aH E,fC E] at L;have V:aM (C=dT T x s1 A (l+1)):=aA (by have:=O.o;rw [aH E] at this;exact this);clear O J;go_wp2_with (first
     |(go_at_call 65;refine (L.o _ _ e.o.pp).mono ?_;rintro o w3 ⟨rfl,b,r⟩;obtain ⟨c6,i,W⟩:=e.o.pp.box;have m:=aA (e.o.take b r);have a0:=aA (N.o.kept b (i.apart N.o (by decide)));have U:=aA (S.o.grownBox i W b);clear b r i)
     |(go_at_call 109;refine (aD z).mono ?_;rintro o w1 ⟨c,I,d,rfl,j,k⟩;obtain ⟨b9,b8,rfl,b6,b7,t,u,q⟩:=Z.o w1 d I j k (M.o.kept.trans c);have e:=aA t;have N:=aA u;have S:=aA q;clear c j k t u q)
     |go_in)
    go_roundg x;case measure=>omega
    case rel=>exact ⟨by omega,s1,A,l+1,_,m.o,a0.o,U.o,V.o,by omega,by have:=b3.o;omega,by have:=b3.o;omega,by omega,by omega,by omega⟩
   ·rw [aI E,gB E] at L;by_cases P:(aJ T s1.i).kind=41
    ·rw [aH P,fC P] at J;have V:aM (C=.ok (⟨s1.i+1,s1.vars,s1.pz⟩,A,l+1)):=aA (by have:=O.o;rw [aI E,aH P] at this;exact this);clear O;go_wp2_with (first
      |(go_at_call 65;refine (J.o _ _ m.o.pp).mono ?_;rintro o e6 ⟨rfl,F,X⟩;obtain ⟨e5,Q,a6⟩:=m.o.pp.box;have d2:=aA (m.o.take F X);have d4:=aA (a0.o.kept F (Q.apart a0.o (by decide)));have a4:=aA (U.o.grownBox Q a6 F);clear F X Q)
      |(go_at_call 65;refine (L.o _ _ e.o.pp).mono ?_;rintro o w3 ⟨rfl,b,r⟩;obtain ⟨c6,i,W⟩:=e.o.pp.box;have m:=aA (e.o.take b r);have a0:=aA (N.o.kept b (i.apart N.o (by decide)));have U:=aA (S.o.grownBox i W b);clear b r i)
      |(go_at_call 109;refine (aD z).mono ?_;rintro o w1 ⟨c,I,d,rfl,j,k⟩;obtain ⟨b9,b8,rfl,b6,b7,t,u,q⟩:=Z.o w1 d I j k (M.o.kept.trans c);have e:=aA t;have N:=aA u;have S:=aA q;clear c j k t u q)
      |go_in)
     go_ret2;refine ⟨a4.o,?_⟩;rw [V.o];exact ⟨_,_,rfl,d2.o,by rw [vV];exact d4.o⟩
    ·rw [aI P,gB P] at J;have V:aM (C=.error (aJ T s1.i).pos):=aA (by have:=O.o;rw [aI E,aI P] at this;exact this);clear O;go_wp2_with (first
      |(go_at_call 65;refine (J.o _ _ m.o.pp).mono ?_;rintro o e6 ⟨rfl,F,X⟩;obtain ⟨e5,Q,a6⟩:=m.o.pp.box;have d0:=aA X;have a4:=aA (U.o.grownBox Q a6 F);clear F X Q)
      |(go_at_call 65;refine (L.o _ _ e.o.pp).mono ?_;rintro o w3 ⟨rfl,b,r⟩;obtain ⟨c6,i,W⟩:=e.o.pp.box;have m:=aA (e.o.take b r);have U:=aA (S.o.grownBox i W b);clear b r i)
      |(go_at_call 109;refine (aD z).mono ?_;rintro o w1 ⟨c,I,d,rfl,j,k⟩;obtain ⟨b9,b8,rfl,b6,b7,t,u,q⟩:=Z.o w1 d I j k (M.o.kept.trans c);have e:=aA t;have N:=aA u;have S:=aA q;clear c j k t u q)
      |go_in)
     go_ret2;refine ⟨a4.o,?_⟩;rw [V.o];exact ⟨_,_,_,_,_,_,rfl,d0.o,rfl⟩
theorem aR3(e:∀l,(aJ T l).kind∈gX)(y:∀l,(aJ T l).txt.size<=1000000)(f:s.size<=3000)(i:T.length<=1000000):∀a,aIi B pb s T g vC mg a:=by
 intro a;induction a using Nat.strongRecOn with
 |_ a ih=>
  intro A c st vP vl D w d o m n t u p x q;have C:=d.pp.lt;obtain ⟨b,rfl⟩ : ∃b,a=b+1:=⟨a-1,by omega⟩;by_cases j:(aJ T st.i).kind=110
  ·exact aT8 c b e f i (aR2 b e f i λz j=>ih z (by omega)) d o m n j u p x q
  ·by_cases k:(aJ T st.i).kind=118
   ·have r:c=false:=by
     cases c
     ·rfl
     ·exact absurd k (t rfl)
    exact aT4 c b e y f i d o m n k r p q
   ·exact aT5 c b e f d k j
end
theorem aR4(e:∀i,(aJ T i).kind∈gX)(j:∀i,(aJ T i).txt.size<=1000000)(u:s.size<=3000)(q:T.length<=1000000)(a:bX B w pb s T st g vC vP mg)(p:B<=w.heap.size)(t:st.pz.length<=st.i)(x:st.vars.length<=st.i):Calls zy 91 #[.pointer (some ⟨pb,0,none⟩)] w λc w'=>sX B w.heap.size pb w s T g vC mg (cJ T (T.length+1) true st []) c w':=by
 have C:=a.pp.lt;obtain ⟨left,f,_⟩:=a.pp.box;have o:=f.c1;by_cases b:(aJ T st.i).kind=118
 ·have l:aM (cJ T (T.length+1) true st []=.error (aJ T st.i).pos):=aA (by rw [cJ,aI (by simp),aH (by rw [b];decide)]);rw [b,show dN 118=65 from rfl] at o;have m:=aA a;clear a f;go_enter Tryz.func91,Tryz.ntmps91;go_wp2;go_ret2;refine ⟨bV.refl _ _ _ _,?_⟩;rw [l.o];exact ⟨_,_,_,_,_,_,rfl,m.o.pp,rfl⟩
 ·have D:(dN (aJ T st.i).kind==65)=false:=by
   rw [beq_eq_false_iff_ne];exact λc=>b (aD1 _ (e st.i) 118 (by decide) (by rw [c];rfl))
  have k:=aA (aR3 (B:=B) (pb:=pb) (g:=g) (vC:=vC) (mg:=mg) e j u q (T.length+1) w.heap.size true st vP (.slice none 0 0) [] w a (zt _ _ _ _) p (zz _) (λ_=>b) (by omega) (zl _) t x);generalize dN (aJ T st.i).kind=K at *;clear a f b e j;go_enter Tryz.func91,Tryz.ntmps91;go_wp2_with (first
   |(go_at_call 109;refine (aD k).mono ?_;intro c w1 d;obtain ⟨y,E,A,z,r⟩:=d.shape;subst r;have n:=aA d;clear d)
   |go_in)
  go_ret2;exact n.o
def aR5(B pb:Nat)(w:World)(s:ByteArray)(T:List Tk)(g:Nat)(vC:Value)(mg:Nat)(k:Except Nat (bE×List Lt))(d:Ending)(w':World):Prop:=
 bV B w.heap.size mg w w'/\
  match k with
  | .ok (s1,b)=>∃a f vP,d=.returned (.tuple #[f,.bool true])/\bX B w' pb s T s1 g vC vP mg/\w'.ownsRow w.heap.size 86 2 f a.length (bF a)/\(∀c∈a,w'.ownsRow w.heap.size 117 2 c.2 c.1.2.length (bB c.1.2))/\a.map zv=b
  | .error p=>∃i j b e vP l,d=.returned (.tuple #[.slice i j b,.bool false])/\dH B w' pb s T e g vC vP l/\(aJ T e).pos=p
structure LLq(B pb:Nat)(w:World)(s:ByteArray)(T:List Tk)(g:Nat)(vC:Value)(mg:Nat)(r:Except Nat (bE×List Lt))(k:Nat)(vc:Value)(wr:World)(st:bE)(P:List (Lt×Value))(vP:Value):Prop where
 q:bX B wr pb s T st g vC vP mg
 kept:bV B w.heap.size mg w wr
 row:wr.ownsRow w.heap.size 86 2 vc P.length (bF P)
 atoms:∀q∈P,wr.ownsRow w.heap.size 117 2 q.2 q.1.2.length (bB q.1.2)
 eq:r=fV T k st (P.map zv)
 fuel:T.length<st.i+k
 pl:st.pz.length<=st.i
 vs:st.vars.length<=st.i
 few:P.length<=st.i
section
variable {B pb:Nat}{w w1 w2 w3:World}{s:ByteArray}{T:List Tk}{g:Nat}{vC vP vc:Value}{mg:Nat}{st:bE}{P:List (Lt×Value)}
theorem xY{d:bE}(f:bX B w1 pb s T d g vC vP mg)(m:bV B w.heap.size mg w w1)(j:w1.ownsRow w.heap.size 86 2 vc P.length (bF P))(e:∀a∈P,w1.ownsRow w.heap.size 117 2 a.2 a.1.2.length (bB a.1.2)){k:Nat}(b:w1.grownBy w2 (some pb))(n:dH B w2 pb s T k g vC vP (.map (some mg))):bX B w2 pb s T ⟨k,d.vars,d.pz⟩ g vC vP mg/\bV B w.heap.size mg w w2/\w2.ownsRow w.heap.size 86 2 vc P.length (bF P)/\(∀a∈P,w2.ownsRow w.heap.size 117 2 a.2 a.1.2.length (bB a.1.2)):=by
 obtain ⟨left,c,l⟩:=f.pp.box;exact ⟨f.take b n,m.grownBox c l b,j.kept b (c.apart j (by decide)),λa i=>(e a i).kept b (c.apart (e a i) (by decide))⟩
theorem aHi{n:bE}{b:List Nd}(m:bX B w1 pb s T n g vC vP mg)(c:bV B w.heap.size mg w w1)(j:w1.ownsRow w.heap.size 86 2 vc P.length (bF P))(e:∀a∈P,w1.ownsRow w.heap.size 117 2 a.2 a.1.2.length (bB a.1.2))(d:bV B w1.heap.size mg w1 w2)(l:w2.ownsRow w1.heap.size 117 2 vl b.length (bB b)):bV B w.heap.size mg w w2/\w2.ownsRow w.heap.size 86 2 vc P.length (bF P)/\(∀a∈P,w2.ownsRow w.heap.size 117 2 a.2 a.1.2.length (bB a.1.2))/\w2.ownsRow w.heap.size 117 2 vl b.length (bB b):=by
 obtain ⟨o,f,_⟩:=m.map;exact ⟨c.trans (d.mono c.size),d.own j (by decide) (by intro k;exact absurd k (by decide)) (sW j f),λa i=>d.own (e a i) (by decide) (λ_=>zz _) (sW (e a i) f),iP l c.size⟩
theorem aHj{m:bE}{n:Value}{x:Lt}{i:Obj}(y:bX B w2 pb s T m g vC vP mg)(r:bV B w.heap.size mg w w2)(z:w2.ownsRow w.heap.size 86 2 vc P.length (bF P))(p:∀a∈P,w2.ownsRow w.heap.size 117 2 a.2 a.1.2.length (bB a.1.2))(t:w2.ownsRow w.heap.size 117 2 vl x.2.length (bB x.2))
  (u:w3.ownsRow w.heap.size 86 2 n (P.length+1) (bF P++[.bool x.1,vl])) (b:(w2.alloc i).grownBy w3 vc.ownBlock):bX B w3 pb s T m g vC vP mg/\bV B w.heap.size mg w w3/\w3.ownsRow w.heap.size 86 2 n (P++[(x,vl)]).length (bF (P++[(x,vl)]))/\(∀a∈P++[(x,vl)],w3.ownsRow w.heap.size 117 2 a.2 a.1.2.length (bB a.1.2)):=by
 have d:=(Below.refl w2.heap.size w2).alloc (zz _) i;have e:=bG z d (zz _);have j:=λa hq'=>bG (p a hq') d (zz _)
 have l:=bG t d (zz _);refine ⟨(y.below d).far e (by decide) b,?_,by rw [zZ,zw];exact u,λa hq'=>?_⟩
 ·have c:=r.trans (bV.of_below (B:=B) (B':=w.heap.size) (mg:=mg) d);exact ⟨b.os.trans c.os,b.tape.trans c.tape,b.output.trans c.output,zo c.size b.size,λf k q=>by
   rw [b.block f (Nat.lt_of_lt_of_le k c.size) (λo=>by have:=(cU e f o.symm).1;omega),c.block f k q]⟩
 ·rcases List.mem_append.1 hq' with hq'|hq'
  ·exact (j a hq').kept b (gE (j a hq') e (by decide))
  ·simp at hq';subst hq';exact l.kept b (gE l e (by decide))
theorem aR6(a4:∀S,(aJ T S).kind∈gX)(a9:∀S,(aJ T S).txt.size<=1000000)(R:s.size<=3000)(b9:T.length<=1000000)(Z:bX B w pb s T st g vC vP mg)(b8:B<=w.heap.size)(e:st.pz.length<=st.i)(a8:st.vars.length<=st.i):Calls zy 66 #[.pointer (some ⟨pb,0,none⟩)] w λi w'=>aR5 B pb w s T g vC mg (fV T (T.length+1) st []) i w':=by
 obtain ⟨b0,a0,a1,a2,a3⟩:=info_parts tZ;have L:aM (LLq B pb w s T g vC mg (fV T (T.length+1) st []) (T.length+1) (.slice none 0 0) w st [] vP):=aA ⟨Z,bV.refl _ _ _ _,zt _ _ _ _,λd8 k=>by simp at k,rfl,by omega,e,a8,by simp⟩;obtain ⟨u,O⟩ : ∃u,fV T (T.length+1) st []=u:=⟨_,rfl⟩;rw [O] at L;simp only [O];have N:=aA a4;have b7:=aA a9;clear Z O a4 a9 e a8;go_enter Tryz.func66,Tryz.ntmps66;go_wp2;go_loopg [4] (T.length+1) (λc4 vc wr=>∃z P W,LLq B pb w s T g vC mg u c4 vc wr z P W);case atStart=>exact ⟨st,[],vP,L.o⟩
 case round=>
  clear L;obtain ⟨z,P,W,j⟩:=hrel;have d3:=j.q.pp.lt;have d2:=j.fuel;have d4:=j.pl;have d5:=j.vs;have d1:=j.few;obtain ⟨J,rfl⟩ : ∃J,gk=J+1:=⟨gk-1,by omega⟩;obtain ⟨e2,e3,rfl⟩:=bA j.row;obtain ⟨d9,e0,b1,b2⟩:=aEv T z;have C:=aA (mM 126 (by decide) (by decide) (by decide) N.o R j.q.pp);rw [show dN 126=126 from rfl] at C;have D:=aA (λw1 (c0:w.heap.size<=w1.heap.size) (c2:bX B w1 pb s T (kR T z) g vC W mg)=>aR4 N.o b7.o R b9 c2 (zo b8 c0) (by rw [b2];omega) (by rw [b1];omega));have b:=aA j;obtain ⟨l,Q⟩ : ∃l,decide ((aJ T z.i).kind=126)=l:=⟨_,rfl⟩;rw [Q] at C;have X:=aA Q;clear j Q;cases k:cJ T (T.length+1) true (kR T z) [] with
  |error p=>
   rw [k] at D;have E:aM (u=.error p):=aA (by rw [b.o.eq,aEs k]);clear k;go_wp2_with (first
    |(go_at_call 91;refine (D.o _ a.o.2.1.size a.o.1).mono ?_;rintro i w2 ⟨o,c9,d7,d0,d6,b3,e1,rfl,a6,a7⟩;have b4:=aA (a.o.2.1.trans (o.mono a.o.2.1.size));have b5:=aA a6;have b6:=aA a7;clear o a6 a7)
    |(go_at_call 65;refine (aD C).mono ?_;rintro i w1 ⟨rfl,n,e⟩;have a:=aA (xY b.o.q b.o.kept b.o.row b.o.atoms n e);clear n e)
    |go_in)
   go_ret2;refine ⟨b4.o,?_⟩;rw [E.o];exact ⟨_,_,_,_,_,_,rfl,b5.o,b6.o⟩
  |ok y=>
   obtain ⟨m,t⟩:=y;have a5:=(wT T (T.length+1)).1 _ _ _ _ _ k;simp only [List.length_nil] at a5;rw [b1,b2] at a5;rw [k] at D;have Y:=aA k;clear k;have A:=aA (λw3 vP3 (c1:dH B w3 pb s T m.i g vC vP3 (.map (some mg)))=>mM 124 (by decide) (by decide) (by decide) N.o R c1);rw [show dN 124=124 from rfl] at A;by_cases x:(aJ T m.i).kind=124
   ·rw [aH x,fC x] at A;have E:aM (∀vl,u=fV T J ⟨m.i+1,m.vars,m.pz⟩ ((P++[((l,t),vl)]).map zv)):=aA (λvl=>by rw [b.o.eq,aEt Y.o x,X.o,List.map_append,zp]);go_wp2_with (first
     |(go_at_call 65;refine (A.o _ _ d.o.1.pp).mono ?_;rintro i c8 ⟨rfl,G,H⟩;have f:=aA (xY d.o.1 d.o.2.1 d.o.2.2.1 d.o.2.2.2 G H);clear G H)
     |(at_builtin;refine wpList_append_own _ rfl (.tmp 17) (.tmp 21) 51 rfl w.heap.size 86 b0 (.agg #[.bool false,.slice none 0 0]) 2 32 zn a0 a1 a2 a3 rfl (by decide) _ _ _ rfl (c.o.2.1.alloc _) ⟨_,0,none⟩ 1 1 [.bool l,.slice U t.length V] rfl rfl (kZ w2 _ _ _ _ rfl) (uA _ _ _ _) (by unfold maxLen;omega) (by omega) (by simp;omega) ?_;intro c5 w3 r F _;have d:=aA (aHj (x:=(l,t)) M.o c.o.1 c.o.2.1 c.o.2.2.1 c.o.2.2.2 r F);obtain ⟨c6,c7,rfl⟩:=bA r;clear r F)
     |(go_at_call 91;refine (D.o _ a.o.2.1.size a.o.1).mono ?_;rintro i w2 ⟨o,vl,b3,rfl,I,q⟩;obtain ⟨U,V,rfl⟩:=bA q;have c:=aA (aHi a.o.1 a.o.2.1 a.o.2.2.1 a.o.2.2.2 o q);have M:=aA I;have c3:=c.o.1.size;clear o I q)
     |(go_at_call 65;refine (aD C).mono ?_;rintro i w1 ⟨rfl,n,e⟩;have a:=aA (xY b.o.q b.o.kept b.o.row b.o.atoms n e);clear n e)
     |go_in)
    go_roundg J;case measure=>omega
    case rel=>exact ⟨⟨m.i+1,m.vars,m.pz⟩,P++[((l,t),_)],_,f.o.1,f.o.2.1,f.o.2.2.1,f.o.2.2.2,E.o _,by simp;omega,by simp;omega,by simp;omega,by simp;omega⟩
   ·rw [aI x,gB x] at A;have E:aM (∀vl,u=.ok (m,(P++[((l,t),vl)]).map zv)):=aA (λvl=>by rw [b.o.eq,aEu Y.o x,X.o,List.map_append,zp]);go_wp2_with (first
     |(go_at_call 65;refine (A.o _ _ d.o.1.pp).mono ?_;rintro i c8 ⟨rfl,G,H⟩;have f:=aA (xY d.o.1 d.o.2.1 d.o.2.2.1 d.o.2.2.2 G H);clear G H)
     |(at_builtin;refine wpList_append_own _ rfl (.tmp 17) (.tmp 21) 51 rfl w.heap.size 86 b0 (.agg #[.bool false,.slice none 0 0]) 2 32 zn a0 a1 a2 a3 rfl (by decide) _ _ _ rfl (c.o.2.1.alloc _) ⟨_,0,none⟩ 1 1 [.bool l,.slice U t.length V] rfl rfl (kZ w2 _ _ _ _ rfl) (uA _ _ _ _) (by unfold maxLen;omega) (by omega) (by simp;omega) ?_;intro c5 w3 r F _;have d:=aA (aHj (x:=(l,t)) M.o c.o.1 c.o.2.1 c.o.2.2.1 c.o.2.2.2 r F);obtain ⟨c6,c7,rfl⟩:=bA r;clear r F)
     |(go_at_call 91;refine (D.o _ a.o.2.1.size a.o.1).mono ?_;rintro i w2 ⟨o,vl,b3,rfl,I,q⟩;obtain ⟨U,V,rfl⟩:=bA q;have c:=aA (aHi a.o.1 a.o.2.1 a.o.2.2.1 a.o.2.2.2 o q);have M:=aA I;have c3:=c.o.1.size;clear o I q)
     |(go_at_call 65;refine (aD C).mono ?_;rintro i w1 ⟨rfl,n,e⟩;have a:=aA (xY b.o.q b.o.kept b.o.row b.o.atoms n e);clear n e)
     |go_in)
    go_ret2;refine ⟨f.o.2.1,?_⟩;rw [E.o];exact ⟨_,_,_,rfl,f.o.1,f.o.2.2.1,f.o.2.2.2,rfl⟩
end
abbrev Pc:=(Nat×List (Lt×Value))×Value
def pL(b:List Pc):List Value:=b.flatMap λa=>[.int .i64 a.1.1,a.2]
theorem aR7(b:List Pc)(a:Pc):pL (b++[a])=pL b++[.int .i64 a.1.1,a.2]:=by simp [pL]
structure fI(B:Nat)(w:World)(vC:Value)(CV:List Pc):Prop where
 row:w.ownsRow B 95 2 vC CV.length (pL CV)
 each:∀p∈CV,qY w B (p.1.2,p.2)
def jK(a:Pc):Nat×List Lt:=(a.1.1,a.1.2.map zv)
structure sT(B:Nat)(w:World)(pb:Nat)(s:ByteArray)(T:List Tk)(st:bE)(g:Nat)(vC vP:Value)(CV:List Pc):Prop where
 pp:∃vM,dH B w pb s T st.i g vC vP vM
 pz:w.ownsRow B 3 1 vP st.pz.length (nL st.pz)
 cs:fI B w vC CV
theorem fI.keep{d:List Pc}(b:fI B w vC d)(c:∀a j v f k,(a=95\/a=86\/a=117)->(a=95->v=vC)->w.ownsRow B a j v f k->w'.ownsRow B a j v f k):fI B w' vC d:=
 ⟨c _ _ _ _ _ (Or.inl rfl) (λ_=>rfl) b.row,λi e=>⟨c _ _ _ _ _ (zr (Or.inl rfl)) (λa=>absurd a (by decide)) (b.each i e).1,λm l=>c _ _ _ _ _ (zr (zr rfl)) (λa=>absurd a (by decide)) ((b.each i e).2 m l)⟩⟩
theorem fI.below{a:List Pc}(b:fI B w vC a)(k:aB w w'):fI B w' vC a:=
 b.keep λ_ _ _ _ _ _ _ c=>bG c k (zz _)
theorem aCp{a:TypeId}(b:a=95\/a=86\/a=117):a≠65/\a≠3:=by rcases b with rfl|rfl|rfl<;>decide
theorem fI.take{a:List Pc}{left:Value}{k c:Int}{m:ByteArray}{j l:Value}(d:fI B w vC a)(e:bQ w pb left k c m j vP l)(i:w.grownBy w' (some pb)):fI B w' vC a:=
 d.keep λ_ _ _ _ _ f _ b=>b.kept i (e.apart b (aCp f).1)
theorem fI.kept{n:Nat}{a:List Pc}{d:DataW Unit}(e:fI B w vC a)(i:w.ownsMap zy 9 nK mg n d)(f:bV B w.heap.size mg w w'):fI B w' vC a:=
 e.keep λ_ _ _ _ _ b _ c=>f.own c ⟨(aCp b).2,(aCp b).1⟩ (λ_=>zz _) (sW c i)
theorem aA8{c d:TypeId}{m:Nat}{l:Nat}{n:List Value}{e:Array Value}{f:Nat×Nat}(k:w.ownsRow B c m v l n)(b:w.heap[lb]?=some (.cells e d f))(i:c≠d):v.ownBlock≠some lb:=by
 intro a;obtain ⟨_,⟨rfl,_⟩|⟨q,o,p,rfl,_,j,_⟩⟩:=k
 ·simp [Value.ownBlock] at a
 ·simp [Value.ownBlock] at a;subst a;rw [j] at b;simp at b;exact i b.2.1
theorem bX.other{l:Array Value}{m:Nat×Nat}(b:bX B w pb s T st g vC vP mg)(c:w.heap[lb]?=some (.cells l 95 m))(e:w.grownBy w' (some lb)):bX B w' pb s T st g vC vP mg:=by
 obtain ⟨k,f,n⟩:=b.map;obtain ⟨left,d,_⟩:=b.pp.box;obtain ⟨p,r,i⟩:=b.pp.glyph;refine ⟨b.pp.far e ?_ ?_,b.pz.kept e (zr (aA8 b.pz c (by decide))),⟨k,f.kept e ?_,n⟩,b.mhigh⟩
 ·intro a;simp at a;subst a;unfold bQ at d;rw [c] at d;simp at d
 ·intro a;simp at a;subst a;rw [c] at i;simp at i
 ·intro a;simp at a;subst a;obtain ⟨q,o,j,_⟩:=f;rw [c] at j;cases j
theorem fI.other{a:List Pc}{d:Array Value}{f:Nat×Nat}(i:fI B w vC a)(l:w.heap[lb]?=some (.cells d 95 f))(k:vC.ownBlock≠some lb)(j:w.grownBy w' (some lb)):fI B w' vC a:=
 i.keep λe _ _ _ _ n m c=>c.kept j (zr (by
  by_cases b:e=95
  ·rw [m b];exact k
  ·exact aA8 c l b))
theorem bX.setC(b:bX B w pb s T st g vC vP mg)(v:Value):bX B (w.setCell ⟨pb,4,none⟩ v) pb s T st g v vP mg:=by obtain ⟨e,d,j⟩:=b.map;obtain ⟨m,k,l,f,a⟩:=b.pp;have c:=a.sc.box;exact ⟨⟨m,k,l,f,⟨heap_setCell_same w pb 4 _ _ _ c,a.sc.high,c.row a.sc.row (by decide) _ _,a.sc.len,a.sc.drop,a.sc.le⟩,a.lt,a.on⟩,c.row b.pz (by decide) _ _,⟨e,d.setCell (λi=>aAf c d i.symm) _,j⟩,b.mhigh⟩
theorem aR8{i:List Pc}(f:sT B w pb s T st g vC vP i)(A:B<=w.heap.size)(d:Array Value){c:World}(n:c=((w.alloc (.cells d 95)).alloc (.map #[] 0)).setCell ⟨pb,6,none⟩ (.map (some (w.heap.size+1)))):bX B c pb s T ⟨st.i,[],st.pz⟩ g vC vP (w.heap.size+1)/\fI B c vC i/\Below B w c/\c.heap[w.heap.size]?=some (.cells d 95):=by
 subst n;have b:=((Below.refl w.heap.size w).alloc (zz _) (.cells d 95)).alloc (by simp) (.map #[] 0);obtain ⟨F,j⟩:=f.pp;obtain ⟨E,o,z⟩:=j.box;have D:=o.lt;have r:=j.below b;obtain ⟨y,u,x,l,a⟩:=r;have e:=a.sc.box;have t:=bG f.pz b (zz _);have p:=f.cs.below b;have q:((w.alloc (.cells d 95)).alloc (.map #[] 0)).ownsMap zy 9 nK (w.heap.size+1) 0 (.map []):=by have:=World.ownsMap_made (P:=zy) (w.alloc (.cells d 95)) 9 nK;simpa using this
 refine ⟨⟨⟨y,u,x,l,⟨heap_setCell_same _ pb 6 _ _ _ e,a.sc.high,e.row a.sc.row (by decide) _ _,a.sc.len,a.sc.drop,a.sc.le⟩,a.lt,a.on⟩,e.row t (by decide) _ _,⟨.map [],q.setCell (λm=>by simp at m;omega) _,pM.start⟩,by omega⟩,p.take e (cN _ _ _),?_,?_⟩
 ·refine ⟨b.os,b.tape,b.output,by simp [zq];omega,λk C=>?_⟩;rw [Below.heap_setCell _ _ _ _ (show k≠pb by omega)];exact b.block k (by omega)
 ·rw [Below.heap_setCell _ _ _ _ (show w.heap.size≠pb by omega)];show ((w.heap.push _).push _)[w.heap.size]?=_;rw [Array.getElem?_push_lt (by simp)];simp
theorem aHk{e:World}{f:Value}{j:List Pc}{q:Obj}{r:Nat}{p:List (Lt×Value)}(d:bX B e pb s T st g vC vP mg)(z:fI B e vC j)(k:Below B w e)(G:B<=w.heap.size)(x:qY e B (p,vl))(C:w3.ownsRow B 95 2 f (j.length+1) (pL j++[.int .i64 r,vl]))(c:(e.alloc q).grownBy w3 vC.ownBlock):w3.cell? ⟨pb,4,none⟩=some vC/\w3.frozen? ⟨pb,4,none⟩=false/\bX B (w3.setCell ⟨pb,4,none⟩ f) pb s T st g f vP mg/\fI B (w3.setCell ⟨pb,4,none⟩ f) f (j++[((r,p),vl)])/\Below B w (w3.setCell ⟨pb,4,none⟩ f):=by
 have b:=(Below.refl e.heap.size e).alloc (zz _) q;have m:=z.below b;have D:=d.below b;have u:=D.far m.row (by decide) c;obtain ⟨left,l,F⟩:=u.pp.box;have H:=k.size;have t:∀a∈j++[((r,p),vl)],qY w3 B (a.1.2,a.2):=by
  intro a hp;have o:qY (e.alloc q) B (a.1.2,a.2):=by
   rcases List.mem_append.1 hp with hp|hp
   ·exact m.each a hp
   ·simp at hp;subst hp;exact ⟨bG x.1 b (zz _),λi d=>bG (x.2 i d) b (zz _)⟩
  exact ⟨o.1.kept c (gE o.1 m.row (by decide)),λi d=>(o.2 i d).kept c (gE (o.2 i d) m.row (by decide))⟩
 refine ⟨l.c4,l.soft 4,u.setC f,⟨?_,λa hp=>⟨l.row (t a hp).1 (by decide) _ _,λi d=>l.row ((t a hp).2 i d) (by decide) _ _⟩⟩,?_⟩
 ·refine l.row ?_ (by decide) _ _;rw [aR7,zw];exact C
 ·have E:=c.size;simp at E;refine ⟨c.os.trans (b.os.trans k.os),c.tape.trans (b.tape.trans k.tape),c.output.trans (b.output.trans k.output),by simp [zq];omega,λn A=>?_⟩;rw [Below.heap_setCell _ _ _ _ (show n≠pb by omega),c.block n (by simp;omega) (λy=>by have:=(cU m.row n y.symm).1;omega),b.block n (by omega),k.block n A]
def aHl(B pb:Nat)(w:World)(s:ByteArray)(T:List Tk)(g:Nat)(e:List Pc)(f:Nat)(i:Except Nat (bE×List Lt))(b:Ending)(w':World):Prop:=
 Below B w w'/\
  match i with
  | .ok (s1,c)=>∃vC vP a vl,b=.returned (.bool true)/\sT B w' pb s T s1 g vC vP (e++[((f,a),vl)])/\a.map zv=c
  | .error p=>∃d vC vP j,b=.returned (.bool false)/\dH B w' pb s T d g vC vP j/\(aJ T d).pos=p
section
variable {B pb:Nat}{s:ByteArray}{T:List Tk}{g:Nat}{vC vP:Value}{st:bE}{w:World}{CV:List Pc}
theorem aHm(d:Int)(c:Option Addr)(f e:Nat):∀b∈[Value.int .i64 d,Value.slice c f e],b.oneCell'=true:=by intro b a;simp at a;rcases a with rfl|rfl<;>rfl
theorem aHn:(zy.info? 95).map (λa=>(a.zero,a.size,a.bytes))=some (some (.agg #[.int .i64 0,.slice none 0 0]),2,32):=by kernel_rfl
theorem aHo{f m:World}{a:bE}{n:Bool}{e l:Value}{i:List (Lt×Value)}{o:Ending}(y:B<=w.heap.size)(x:lG T st=.ok (a,i.map zv))(c:decide ((aJ T a.i).kind=46)=n)(k:bX B f pb s T a g e l mg)(u:fI B f e (CV++[((tp,i),vl)]))(p:Below B w f)(j:f.grownBy m (some pb))(d:dH B m pb s T (if (aJ T a.i).kind=46 then a.i+1 else a.i) g e l (.map (some mg)))(r:o=.returned (.bool n)):aHl B pb w s T g CV tp (kP T st) o m:=by
 obtain ⟨left,q,t⟩:=k.pp.box;have z:=p.size;refine ⟨p.grown j (by omega) (by simpa using t),?_⟩;unfold kP;rw [x];simp only;by_cases b:(aJ T a.i).kind=46
 ·rw [aH b] at d ⊢;rw [fC b] at c;subst c;exact ⟨e,l,i,vl,r,⟨⟨_,d⟩,k.pz.kept j (q.apart k.pz (by decide)),u.take q j⟩,rfl⟩
 ·rw [aI b] at d ⊢;rw [gB b] at c;subst c;exact ⟨_,_,_,_,r,d,rfl⟩
structure sU(B pb:Nat)(w w1:World)(s:ByteArray)(T:List Tk)(st:bE)(g:Nat)(vC vP:Value)(mg:Nat)(CV:List Pc)(lb tp:Nat)(v:Value):Prop where
 q:bX B w1 pb s T st g vC vP mg
 cs:fI B w1 vC CV
 low:Below B w w1
 box:w1.heap[lb]?=some (.cells #[.int .i64 tp,v] 95)
 size:B<=w1.heap.size
theorem aR9{a:World}(i:bX B a pb s T s1 g vC vP mg)(l:fI B a vC CV)(f:Below B w a)(n:B<=w.heap.size)(d:a.heap[lb]?=some (.cells #[.int .i64 tp,v] 95)){j:Nat}(b:a.grownBy w1 (some pb))(m:dH B w1 pb s T j g vC vP (.map (some mg))):sU B pb w w1 s T ⟨j,s1.vars,s1.pz⟩ g vC vP mg CV lb tp v:=by
 obtain ⟨left,c,k⟩:=i.pp.box;have o:=f.size;have p:=b.size;refine ⟨i.take b m,l.take c b,f.grown b (by omega) (by simpa using k),?_,by omega⟩;rw [b.block lb (Array.getElem?_eq_some_iff.1 d).1 ?_]
 ·exact d
 ·intro e;simp at e;subst e;unfold bQ at c;rw [d] at c;simp at c
theorem sU.boxKept(a:sU B pb w w1 s T s1 g vC vP mg CV lb tp v)(e:bV B w1.heap.size mg w1 w3):w3.heap[lb]?=some (.cells #[.int .i64 tp,v] 95):=by
 rw [e.block lb (Array.getElem?_eq_some_iff.1 a.box).1 (zr ⟨?_,λj m l b=>?_⟩)]
 ·exact a.box
 ·rintro rfl;obtain ⟨f,⟨k,i,d,_⟩,_⟩:=a.q.map;have:=a.box;rw [d] at this;cases this
 ·rw [a.box] at b;simp at b;obtain ⟨_,rfl,_⟩:=b;exact ⟨by decide,by decide,λc=>absurd c (by decide)⟩
theorem sU.err(c:sU B pb w w1 s T s1 g vC vP mg CV lb tp v)(t:B<=w.heap.size)(o:B<=lb)(i:bV B w1.heap.size mg w1 w3){k:Nat}{n m:Value}(e:dH B w3 pb s T k g vC n m)(l:Value):w3.cell? ⟨lb,1,none⟩=some v/\w3.frozen? ⟨lb,1,none⟩=false/\Below B w (w3.setCell ⟨lb,1,none⟩ l)/\dH B (w3.setCell ⟨lb,1,none⟩ l) pb s T k g vC n m:=by
 have b:=c.boxKept i;obtain ⟨left,d,r⟩:=e.box;obtain ⟨p,q,f⟩:=e.glyph;have j:=c.low.trans (i.below c.size);have u:=j.size;refine ⟨by unfold zx;rw [b];rfl,by unfold World.frozen?;rw [b];rfl,j.grown (cN _ _ _) (by omega) (by simpa using o),e.far (cN _ _ _) ?_ ?_⟩
 ·intro a;simp at a;subst a;unfold bQ at d;rw [b] at d;simp at d
 ·intro a;simp at a;subst a;rw [b] at f;simp at f
theorem sU.ok{n:bE}(b:sU B pb w w1 s T s1 g vC vP mg CV lb tp v)(u:B<=w.heap.size)(p:B<=lb)(r:vC.ownBlock≠some lb)(f:bV B w1.heap.size mg w1 w3){o e:Value}{P:List (Lt×Value)}(t:bX B w3 pb s T n g vC o mg)(l:w3.ownsRow w1.heap.size 86 2 e P.length (bF P))(i:∀d∈P,w3.ownsRow w1.heap.size 117 2 d.2 d.1.2.length (bB d.1.2)):w3.cell? ⟨lb,1,none⟩=some v/\w3.frozen? ⟨lb,1,none⟩=false/\sU B pb w (w3.setCell ⟨lb,1,none⟩ e) s T n g vC o mg CV lb tp e/\qY (w3.setCell ⟨lb,1,none⟩ e) B (P,e):=by
 have a:=b.boxKept f;obtain ⟨D,q,_⟩:=b.q.map;have j:=b.low.trans (f.below b.size);have x:=j.size;have c:=cN w3 ⟨lb,1,none⟩ e;have m:=b.size;refine ⟨by unfold zx;rw [a];rfl,by unfold World.frozen?;rw [a];rfl,⟨t.other a c,(b.cs.kept q f).other a r c,j.grown c (by omega) (by simpa using p),heap_setCell_same w3 lb 1 _ _ _ a,by have:=c.size;omega⟩,(iP l m).kept c (zr (aA8 l a (by decide))),λd k=>(iP (i d k) m).kept c (zr (aA8 (i d k) a (by decide)))⟩
theorem aRa(e1:∀c7,(aJ T c7).kind∈gX)(f6:∀c7,(aJ T c7).txt.size<=1000000)(a8:s.size<=3000)(i1:T.length<=1000000)(a6:sT B w pb s T st g vC vP CV)(O:B<=w.heap.size)(c:st.pz.length<=st.i)(j1:CV.length<=st.i):Calls zy 40 #[.pointer (some ⟨pb,0,none⟩)] w λl w'=>aHl B pb w s T g CV (aJ T st.i).pos (kP T st) l w':=by
 have j3:=@run_makeMap zy;obtain ⟨j7,c3⟩:=a6.pp;have j2:=c3.lt;obtain ⟨left,Q,_⟩:=c3.box;have c1:=Q.c2;have d5:∀d,(w.alloc d).cell? ⟨pb,2,none⟩=some (.int .i64 (aJ T st.i).pos):=λd=>aC ((Below.refl w.heap.size w).alloc (zz _) d) c1
 have h5:=Q.c6;have h7:=Q.soft 6;have f1:=Q.lt;obtain ⟨b1,b2,rfl⟩:=bA a6.cs.row;have d1:=aA a6;have a5:=aA e1;have g0:=aA f6;clear a6 Q c3 e1 f6;obtain ⟨tp,a9⟩ : ∃tp,(aJ T st.i).pos=tp:=⟨_,rfl⟩;rw [a9] at c1;simp only [a9] at d5 ⊢;have j0:=aA a9;clear a9;go_enter Tryz.func40,Tryz.ntmps40;go_upto_region 3 with (fail);have e2:((w.setCell ⟨pb,6,none⟩ (.map (some (w.heap.size+1)))).alloc (.cells #[.int .i64 tp,.slice none 0 0] 95)).alloc (.map #[] 0)=((w.alloc (.cells #[.int .i64 tp,.slice none 0 0] 95)).alloc (.map #[] 0)).setCell ⟨pb,6,none⟩ (.map (some (w.heap.size+1))):=by rw [zs _ _ _ _ (by simp;omega),zs _ _ _ _ f1]
 have f4:=aR8 d1.o O #[.int .i64 tp,.slice none 0 0] e2;have f5:w.heap.size<(((w.setCell ⟨pb,6,none⟩ (.map (some (w.heap.size+1)))).alloc (.cells #[.int .i64 tp,.slice none 0 0] 95)).alloc (.map #[] 0)).heap.size:=by simp [zq];omega
 generalize ((w.setCell ⟨pb,6,none⟩ (.map (some (w.heap.size+1)))).alloc (.cells #[.int .i64 tp,.slice none 0 0] 95)).alloc (.map #[] 0)=W at *;have f0:=tE d1.o.cs.row;generalize w.heap.size+1=mg at *;have u:=O;obtain ⟨lb,e9⟩ : ∃lb,w.heap.size=lb:=⟨_,rfl⟩;rw [e9] at f5 f0 f4 O f1;simp only [e9];obtain ⟨e0,d8,d7,e3⟩:=f4;clear e2 c1 d5 h5 h7;have q:=aA e0;have H:=aA d8;have D:=aA d7;have M:=aA e3;clear e0 d8 d7 e3;have f:=aA (mM 102 (by decide) (by decide) (by decide) a5.o a8 q.o.pp);rw [show dN 102=36 from rfl] at f;by_cases E:(aJ T st.i).kind=102
 ·rw [aH E,fC E] at f;go_upto_region 8 with (first
   |(go_at_call 65;refine (aD f).mono ?_;rintro l a ⟨rfl,e,c⟩;have J:=aA e;have d2:=aA c;clear e c)
   |go_in)
  have a7:=q.o.take J.o d2.o;obtain ⟨j5,e6,i0⟩:=q.o.pp.box;have e7:=H.o.take e6 J.o;have e5:Below B w a:=D.o.grown J.o (by have:=D.o.size;omega) (by simpa using i0);have f7:a.heap[lb]?=some (.cells #[.int .i64 tp,.slice none 0 0] 95):=by rw [J.o.block lb f5 (by simp;omega)];exact M.o
  have r:=aA a7;have I:=aA e7;have b:=aA e5;have t:=aA f7;have L:aM (lG T st=.ok (⟨st.i+1,[],st.pz⟩,[])):=aA (by rw [lG,aH E]);clear a7 e6 e7 e5 f7 q H D M J d2 f;obtain ⟨i3,R,h9⟩:=r.o.pp.box;have a3:=R.c4;have c9:a.cell? ⟨lb,0,none⟩=some (.int .i64 tp):=by unfold zx;rw [t.o];rfl
  have F:a.cell? ⟨lb,1,none⟩=some (.slice none 0 0):=by unfold zx;rw [t.o];rfl
  have c8:∀d,(a.alloc d).cell? ⟨pb,4,none⟩=some (.slice b1 CV.length b2):=λd=>aC ((Below.refl a.heap.size a).alloc (zz _) d) a3
  have i2:=b.o.size;clear R;go_cut [] (λC=>∃A,bX B C pb s T ⟨st.i+1,[],st.pz⟩ g A vP mg/\fI B C A (CV++[((tp,[]),.slice none 0 0)])/\Below B w C);case first=>
   refine tK ?_;have c4:=aA (r.o.below (aU (w1:=a.drew) ⟨1,rfl⟩));have U:=aA (I.o.below (aU (w1:=a.drew) ⟨1,rfl⟩));have c2:aM (Below B w a.drew):=aA ⟨b.o.os,b.o.tape,b.o.output,b.o.size,b.o.block⟩;have c5:aM (qY a.drew B ([],.slice none 0 0)):=aA ⟨zt _ _ _ _,λj6 n=>by simp at n⟩;go_region_law (refine oU ?g1 (.tmp 30) (.tmp 32) 62 95 ?g2 (.agg #[.int .i64 0,.slice none 0 0]) 2 32 zm aHn ?g3 ?g4 ?g5 B _ CV.length (pL CV) ?g6 (U.out.row.alloc _) ?g7 ?g8 a.heap.size 1 [.int .i64 tp,.slice none 0 0] ?g9 ?g10 (kZ a.drew _ _ 95 a.heap.size rfl) (aHm _ _ _ _) ?_;(case g1=>rfl);(case g2=>rfl);(case g3=>rfl);(case g4=>decide);(case g5=>decide);(case g6=>rfl);(case g7=>omega);(case g8=>(simp;omega));(case g9=>rfl);(case g10=>rfl);intro i5 w3 z V;obtain ⟨h4,h6,m⟩:=aHk c4.out U.out c2.out u c5.out z V;have b6:=aA m;obtain ⟨i7,i8,rfl⟩:=bA z;clear z V m);all_goals
    refine qT ?_;go_wp2_with fail;go_meet;case rel=>exact ⟨_,b6.o⟩
  case rest=>
   obtain ⟨A,x,P,N⟩:=hcut;have o:=aA (mM 46 (by decide) (by decide) (by decide) a5.o a8 x.pp);rw [show dN 46=46 from rfl] at o;have b8:=aA x;have b4:=aA P;have b3:=aA N;clear x P N r I b t a3 c8 c9 F;obtain ⟨h1,S⟩ : ∃c0,decide ((aJ T (⟨st.i+1,[],st.pz⟩ : bE).i).kind=46)=c0:=⟨_,rfl⟩;rw [S] at o;go_wp2_with (first
    |(go_at_call 65;refine (aD o).mono ?_;rintro l i9 ⟨rfl,X,Z⟩;have b5:=aA X;have b7:=aA Z;clear X Z)
    |go_in)
   go_ret;exact aHo u L.o S b8.o b4.o b3.o b5.o b7.o rfl
 ·rw [aI E,gB E] at f;have a4:aM (lG T st=fV T (T.length+1) ⟨st.i,[],st.pz⟩ []):=aA (by rw [lG,aI E]);have G:=aA (λw1 (a7:bX B w1 pb s T ⟨st.i,[],st.pz⟩ g (.slice b1 CV.length b2) vP mg) (h8:B<=w1.heap.size)=>aR6 a5.o g0.o a8 i1 a7 h8 c (zl _));have b9:=aA (λw1 (e:W.grownBy w1 (some pb)) (c:dH B w1 pb s T st.i g (.slice b1 CV.length b2) vP (.map (some mg)))=>aR9 q.o H.o D.o u M.o e c);cases n:fV T (T.length+1) ⟨st.i,[],st.pz⟩ [] with
  |error p=>
   rw [n] at G;have L:aM (kP T st=.error p):=aA (by rw [kP,a4.o,n]);clear n a4 q H D M;go_wp2_with (first
    |(go_at_call 65;refine (aD f).mono ?_;rintro l w1 ⟨rfl,e,c⟩;have i:=aA (b9.o w1 e c);clear e c)
    |(go_at_call 66;refine (G.o _ i.o.q i.o.size).mono ?_;rintro l w3 ⟨Y,h0,i4,h3,j4,j9,j8,rfl,m,f2⟩;obtain ⟨F,d6,a0⟩:=i.o.err u O Y m (.slice h0 i4 h3);have j:=aA a0;have f8:=aA f2;clear Y m f2 a0)
    |go_in)
   go_ret;refine ⟨j.o.1,?_⟩;rw [L.o];exact ⟨_,_,_,_,rfl,j.o.2,f8.o⟩
  |ok y=>
   obtain ⟨b0,h2⟩:=y;rw [n] at G;have d4:aM (lG T st=.ok (b0,h2)):=aA (by rw [a4.o,n]);clear n a4 q H D M;go_upto_region 8 with (first
    |(go_at_call 65;refine (aD f).mono ?_;rintro l w1 ⟨rfl,e,c⟩;have i:=aA (b9.o w1 e c);clear e c)
    |(go_at_call 66;refine (G.o _ i.o.q i.o.size).mono ?_;rintro l w3 ⟨Y,k,k0,i6,rfl,f3,c6,e4,d9⟩;obtain ⟨a1,a2,rfl⟩:=bA c6;obtain ⟨F,d6,a0,e8⟩:=i.o.ok u O f0 Y f3 c6 e4;have j:=aA a0;have d0:=aA e8;have d3:=aA d9;clear Y f3 c6 e4 a0 d9 e8)
    |go_in)
   have L:aM (lG T st=.ok (b0,k.map zv)):=aA (by rw [d4.o,d3.o]);clear b9 G f i d4 d3 F d6;generalize w3.setCell ⟨lb,1,none⟩ (.slice a1 k.length a2)=a at *;have r:=aA j.o.q;have I:=aA j.o.cs;have b:=aA j.o.low;have t:=aA j.o.box;have f9:=aA d0.o;clear j d0;obtain ⟨i3,R,h9⟩:=r.o.pp.box;have a3:=R.c4;have c9:a.cell? ⟨lb,0,none⟩=some (.int .i64 tp):=by unfold zx;rw [t.o];rfl
   have F:a.cell? ⟨lb,1,none⟩=some (.slice a1 k.length a2):=by unfold zx;rw [t.o];rfl
   have c8:∀d,(a.alloc d).cell? ⟨pb,4,none⟩=some (.slice b1 CV.length b2):=λd=>aC ((Below.refl a.heap.size a).alloc (zz _) d) a3
   have i2:=b.o.size;clear R;go_cut [] (λC=>∃A,bX B C pb s T b0 g A i6 mg/\fI B C A (CV++[((tp,k),.slice a1 k.length a2)])/\Below B w C);case first=>
    refine tK ?_;have c4:=aA (r.o.below (aU (w1:=a.drew) ⟨1,rfl⟩));have U:=aA (I.o.below (aU (w1:=a.drew) ⟨1,rfl⟩));have c2:aM (Below B w a.drew):=aA ⟨b.o.os,b.o.tape,b.o.output,b.o.size,b.o.block⟩;have c5:aM (qY a.drew B (k,.slice a1 k.length a2)):=aA f9.o;go_region_law (refine oU ?g1 (.tmp 30) (.tmp 32) 62 95 ?g2 (.agg #[.int .i64 0,.slice none 0 0]) 2 32 zm aHn ?g3 ?g4 ?g5 B _ CV.length (pL CV) ?g6 (U.out.row.alloc _) ?g7 ?g8 a.heap.size 1 [.int .i64 tp,.slice a1 k.length a2] ?g9 ?g10 (kZ a.drew _ _ 95 a.heap.size rfl) (aHm _ _ _ _) ?_;(case g1=>rfl);(case g2=>rfl);(case g3=>rfl);(case g4=>decide);(case g5=>decide);(case g6=>rfl);(case g7=>omega);(case g8=>(simp;omega));(case g9=>rfl);(case g10=>rfl);intro i5 w3 z V;obtain ⟨h4,h6,m⟩:=aHk c4.out U.out c2.out u c5.out z V;have b6:=aA m;obtain ⟨i7,i8,rfl⟩:=bA z;clear z V m);all_goals
     refine qT ?_;go_wp2_with fail;go_meet;case rel=>exact ⟨_,b6.o⟩
   case rest=>
    obtain ⟨A,x,P,N⟩:=hcut;have o:=aA (mM 46 (by decide) (by decide) (by decide) a5.o a8 x.pp);rw [show dN 46=46 from rfl] at o;have b8:=aA x;have b4:=aA P;have b3:=aA N;clear x P N r I b t a3 c8 c9 F;obtain ⟨h1,S⟩ : ∃c0,decide ((aJ T (b0:bE).i).kind=46)=c0:=⟨_,rfl⟩;rw [S] at o;go_wp2_with (first
     |(go_at_call 65;refine (aD o).mono ?_;rintro l i9 ⟨rfl,X,Z⟩;have b5:=aA X;have b7:=aA Z;clear X Z)
     |go_in)
    go_ret;exact aHo u L.o S b8.o b4.o b3.o b5.o b7.o rfl
end
