import Derived.Test.YtbpiopdphigodaaGreatDoorUSzP
import Derived.Deep.CutRange
import Derived.Lib.SliceRun
import Derived.Test.YtbpiopdphigodaaGreatDoorVExtP
open List renaming eraseIdx_of_length_le→zu,eraseIdx_append_of_length_le→zt,take_succ_eq_append_getElem→zs,length_cons→zq,length_append→zo,replicate→zm,getElem?_eq_some_iff→zk,mem_map→zi,mem_cons_of_mem→ze,flatten_cons→zc,cons_append→za
open Nat renaming le_refl→zx,le_trans→zv
open Or renaming inr→zp,inl→z5
open Prod renaming snd→zw
namespace Go.Proofs.YtbpiopdphigodaaGreatDoor
open Oper renaming semAt_some→zh
open _root_.Go.Proofs.Tryz renaming prog→zr
open Value renaming ownBlock→zz,slice→zf
open World renaming block_lt_of_cell?→zy,cell?_setCell_same'→zl,frozen?_of_block→zj,frozen?_setCell→zg,grownBy→zd,size_alloc→zb
open Go.RowKit Go.Shelf Go.WideMaps
set_option maxHeartbeats 2000000
set_option maxRecDepth 100000
variable{S:List Int}{F:List Nat}{out:List Nd}{xs:List Value}{B n tb:Nat}{e:TypeId}{v ve vl vm vn vs:Value}{w:World}
section
attribute [local go_sem] zh
theorem zO{g:Nat}(d:w.ownsRow B e g v n xs)(f:v.ownBlock≠none):∃a b,v=.slice (some ⟨a,0,none⟩) n b:=by
 obtain ⟨_,⟨rfl,_⟩|⟨a,c,i,rfl,_⟩⟩:=d
 ·exact absurd rfl f
 ·exact ⟨a,c,rfl⟩
theorem aJe(w:World)(b d:Value)(c f:TypeId):∃a,a=(w.alloc (.cells #[b] c)).alloc (.cells #[d] f)/\aB w a/\a.cell? ⟨w.heap.size,0,none⟩=some b/\a.cell? ⟨w.heap.size+1,0,none⟩=some d/\a.frozen? ⟨w.heap.size+1,0,none⟩=false/\a.heap.size=w.heap.size+2:=by
 refine ⟨_,rfl,((Below.refl _ _).alloc (zx _) _).alloc (by simp) _,?_,?_,?_,by simp⟩
 ·exact Below.at' ((Below.refl _ (w.alloc (.cells #[b] c))).alloc (zx _) (.cells #[d] f)) (zx _) (qM w b c).1
 ·have:=(qM (w.alloc (.cells #[b] c)) d f).1;rw [zb] at this;exact this
 ·have:=(qM (w.alloc (.cells #[b] c)) d f).2;rw [zb] at this;exact this
def aJf(b:Exit->Act->World->Prop):Exit->Act->World->Prop
 | .panic _,_,_=>False
 |e,a,w=>b e a w
theorem aWw{d:Code}{c:Exit->Act->World->Prop}{b:Act}(a:d.wp zr (aJf c) b w):d.wp zr c b w:=
 Code.wp_mono (λe b w a=>by cases e<;>first|exact a|exact False.elim a) a
theorem aJg{a b:World}{c:Nat}{l m:Value}{g:Obj}(f:(a.drew.alloc g).grownBy b (some c))(r:a.cell? ⟨w.heap.size,0,none⟩=some l)(k:a.cell? ⟨w.heap.size+1,0,none⟩=some m)(s:a.frozen? ⟨w.heap.size+1,0,none⟩=false)(o:w.heap.size≠c)(i:w.heap.size+1≠c):b.cell? ⟨w.heap.size,0,none⟩=some l/\b.cell? ⟨w.heap.size+1,0,none⟩=some m/\b.frozen? ⟨w.heap.size+1,0,none⟩=false:=by
 have d:aB a (a.drew.alloc g):=(aQ (w1:=a.drew) ⟨1,rfl⟩).alloc (zx _) g;have q:=aD d r;have j:=aD d k;refine ⟨f.cell q (by simpa using o),f.cell j (by simpa using i),?_⟩;rw [zj (f.block _ (zy _ _ j) (by simpa using i)),d.frozen (p:=⟨w.heap.size+1,0,none⟩) (zy _ _ k)];exact s
theorem aWx{a:Exit->Act->World->Prop}{b:Act}(c:a .normal b w):aJf a .normal b w:=c
theorem aWy{t a g:World}{k:List Nd}{i d cv b c:Nat}{s:Nd}{ex:Nat->List Nd}{f:Obj}(G:bH t B tb vn ve vl vs vm k F S)(m:bH w B tb vn ve vl vs vm k F S)(I:aB w a)(H:t.heap.size<=i)(M:i<=d/\d<w.heap.size)(j:(a.drew.alloc f).grownBy g (some d))(Q:a.cell? ⟨w.heap.size,0,none⟩=some (.pointer (some ⟨tb,0,none⟩))){T:Value}(r:a.cell? ⟨w.heap.size+1,0,none⟩=some T)(R:a.frozen? ⟨w.heap.size+1,0,none⟩=false)
  (N:g.ownsRow i 43 2 (.slice (some ⟨b,0,none⟩) (out.length+1) c) (out.length+1) (aV (out++[s]))) (l:(zf (some ⟨b,0,none⟩) (out.length+1) c).ownBlock=some d\/(zf (some ⟨b,0,none⟩) (out.length+1) c).ownBlock=some (a.drew.alloc f).heap.size):mX w B tb vn ve vl vs vm k F S i (.slice (some ⟨d,0,none⟩) out.length cv) (out++[s]) ex (w.heap.size+1) (w.heap.size+2) [] (g.setCell ⟨w.heap.size+1,0,none⟩ (.slice (some ⟨b,0,none⟩) (out.length+1) c)):=by
 have J:aB a (a.drew.alloc f):=(aQ (w1:=a.drew) ⟨1,rfl⟩).alloc (zx _) f;have o:aB w (a.drew.alloc f):=aZ I J;obtain ⟨z,A,C,D,E⟩:=G.lts (zv H M.1);have P:=(m.below o).grown j z (zp A) (zp C) (zp D) (zp E);obtain ⟨u,x,y⟩:=aJg j Q r R (by omega) (by omega);have W:w.heap.size+1<a.heap.size:=zy _ _ r;have X:=j.size;have O:(a.drew.alloc f).heap.size=a.heap.size+1:=by simp
 have L:b=d\/b=a.heap.size+1:=by simp only [zz,Option.some.injEq] at l;rw [O] at l;exact l
 have q:b≠w.heap.size+1/\b≠w.heap.size:=by omega
 have Y:(g.setCell ⟨w.heap.size+1,0,none⟩ (.slice (some ⟨b,0,none⟩) (out.length+1) c)).heap.size=g.heap.size:=by simp [World.setCell]
 refine ⟨by omega,P.boxed m (by omega) 0 _,⟨_,zl _ _ _ (by rw [x];rfl),?_,by simp [zz],?_,by simpa [zz] using q.1,by simpa [zz] using q.2,?_⟩,?_,mU (wN o j) (by omega) 0 _,gE u (by omega)⟩
 ·have:=sV N (p:=⟨w.heap.size+1,0,none⟩) (by simp [zz];omega) (.slice (some ⟨b,0,none⟩) (out.length+1) c);simpa using this
 ·rcases L with e|e
  ·exact z5 (by simp [zz,e])
  ·exact zp ⟨b,rfl,by omega⟩
 ·intro Z U V e;simp [zz] at e;omega
 ·rw [zg];exact y
theorem aWz{g:Nat}(c:w.ownsRow B e g v n xs)(d:v.ownBlock≠none):∃b f a,v=.slice (some ⟨b,0,none⟩) f a:=by obtain ⟨b,a,c⟩:=zO c d;exact ⟨b,_,a,c⟩
theorem aX0{a:List Nat}{ex:Nat->List Nd}(d:∀c∈a,1<=(ex c).length):a.length<=((a.map ex).flatten).length/\∀b∈a,(ex b).length+a.length<=((a.map ex).flatten).length+1:=by
 induction a with
 |nil=>simp
 |cons c a ih=>
  obtain ⟨j,f⟩:=ih (λi g=>d i (ze _ g));have k:=d c (by simp);simp only [List.map_cons,zc,zo,zq];refine ⟨by omega,λb hx=>?_⟩;rcases List.mem_cons.1 hx with rfl|hx
  ·omega
  ·have:=f b hx;omega
theorem aX1{pre:List Nat}{ex:Nat->List Nd}{M:Nat}(b:∀a∈pre,(ex a).length<=M):((pre.map ex).flatten).length<=pre.length*M:=by
 induction pre with
 |nil=>simp
 |cons a C ih=>
  have f:=ih (λd c=>b d (ze _ c));have g:=b a (by simp);simp only [List.map_cons,zc,zo,zq,Nat.add_mul];omega
theorem aX2{j k M e:Nat}(c:j<k)(d:k+M=n)(a:e<=M):1+j*M+e*e<=n*n:=by
 subst d;have f:e*e<=M*M:=Nat.mul_le_mul a a;have g:j*M<=k*M:=Nat.mul_le_mul_right _ (Nat.le_of_lt c);have i:0<k*k:=Nat.mul_pos (by omega) (by omega);have b:(k+M)*(k+M)=k*k+k*M+(k*M+M*M):=by rw [Nat.add_mul,Nat.mul_add,Nat.mul_add,Nat.mul_comm M k]
 rw [b];omega
theorem mX.boxes{d c:World}{i:List Nd}{g:Nat}{j:Nat->List Nd}{f m:Nat}(b:mX w B tb vn ve vl vs vm i F S g v out j f m [] d)(a:aB d c)(y:c.heap.size=d.heap.size+2):mX w B tb vn ve vl vs vm i F S g v out j f c.heap.size [] c:=by
 obtain ⟨u,k,l,o,q,r,s,x⟩:=b.st;refine ⟨zx _,b.tm.below a,⟨u,aD a k,bF l a (zx _),o,q,r,s,?_⟩,(a.frozen (p:=⟨f,0,none⟩) (zy _ _ k)).trans b.nf,aFw b.far (jJ.refl _ _) ?_,aD a b.x0⟩
 ·intro t z A e;have:=(cL l t e).2;omega
 ·exact fX a
theorem mX.next{f W':World}{l:List Nd}{q:Nat}{c:Nat->List Nd}{a g x:Nat}{j:List Nat}(C:bH w B tb vn ve vl vs vm l F S)(i:mX w B tb vn ve vl vs vm l F S q v out c a g j f)(O:w.heap.size<a)(M:a<g){b n m:Nat}{v2:Value}(s:f.cell? ⟨a,0,none⟩=some (.slice (some ⟨b,0,none⟩) n m))(z:jJ w v (.slice (some ⟨b,0,none⟩) n m))(J:b≠a)(L:b≠w.heap.size)(D:∀k,g<=k+2->k<g->b≠k)
  (d:aJc f B tb vn ve vl vs vm l F S q (.slice (some ⟨b,0,none⟩) n m) (out++(j.map c).flatten++c x) v2 W'):mX w B tb vn ve vl vs vm l F S q v out c a g (j++[x]) (W'.setCell ⟨a,0,none⟩ v2)/\W'.cell? ⟨a,0,none⟩=some (.slice (some ⟨b,0,none⟩) n m)/\W'.frozen? ⟨a,0,none⟩=false:=by
 have o:f.grownBy W' (some b):=d.far;have Q:=o.size;have N:=i.big;have t:=o.cell s (by simp;omega);have u:W'.frozen? ⟨a,0,none⟩=false:=(zj (o.block a (zy f ⟨a,0,none⟩ s) (by simp;omega))).trans i.nf;have r:v2.ownBlock=some b\/∃k,v2.ownBlock=some k/\f.heap.size<=k:=d.moved;have P:(W'.setCell ⟨a,0,none⟩ v2).heap.size=W'.heap.size:=by simp [World.setCell]
 have A:v2.ownBlock≠some a:=by rcases r with e|⟨k,e,y⟩<;>rw [e]<;>simp<;>omega
 have E:v2.ownBlock≠some w.heap.size:=by rcases r with e|⟨k,e,y⟩<;>rw [e]<;>simp<;>omega
 have G:=i.far.size;refine ⟨⟨by omega,d.tm.boxed C (by omega) 0 _,⟨v2,zl _ _ _ (by rw [t];rfl),?_,d.some,z.trans d.moved G,A,E,?_⟩,?_,mU (aFw i.far z d.far) (by omega) 0 _,gE (o.cell i.x0 (by simp;omega)) (by omega)⟩,t,u⟩
 ·have:=sV d.row (p:=⟨a,0,none⟩) (λe=>A e.symm) v2;have e:out++((j++[x]).map c).flatten=out++(j.map c).flatten++c x:=by simp
  rw [e];exact this
 ·intro k H I;rcases r with e|⟨R,e,y⟩<;>rw [e]<;>simp
  ·exact D k H I
  ·omega
 ·rw [zg];exact u
theorem aX3(B tb:Nat)(vn ve vl vs vm:Value)(b:List Nd)(F:List Nat)(S:List Int)(c f9:Nat->Nat)(g4:eT b)(a2:fR F c f9)(g5:kC b c)(g2:eA (aJ b) (λJ j=>c J=c j) λ_ _=>False)(k1:World)(h0:bH k1 B tb vn ve vl vs vm b F S)(A:Nat)(g1:k1.heap.size<=A):∀(c7:Nat) (q:Nat) (o out:List Nd) (v:Value) (w:World),o.length<c7->aU (aJ b) (λJ j=>c J=c j) c [q] o->bH w B tb vn ve vl vs vm b F S->w.ownsRow A 43 2 v out.length (aV out)->v.ownBlock≠none->A<=w.heap.size->out.length+o.length*o.length<=1000000->q<b.length->
  Calls zr 166 #[.pointer (some ⟨tb,0,none⟩),v,.int .i64 q] w λe e7=>∃U,e=.returned U/\aJc w B tb vn ve vl vs vm b F S A v (out++o) U e7:=by
 obtain ⟨c0,g6⟩:=aJ1 g2 (qF c);intro c7;induction c7 with
 |zero=>intro q o out v w e0;omega
 |succ c7 ih=>
  intro q o out v w e0 c1 u c4 j4 r0 e3 g9;have o4:out.length+o.length<=1000000:=zv (Nat.add_le_add_left (Nat.le_mul_self _) _) e3;have l9:=aA e3;clear e3;obtain ⟨H,b8,rfl⟩:=zO c4 j4;have h5:=cL c4 H rfl;obtain ⟨k2,j5,a3,q4,e8,n1,r9⟩:=aJe w (.pointer (some ⟨tb,0,none⟩)) (.slice (some ⟨H,0,none⟩) out.length b8) 173 39;have b2:=aA (aBn B tb vn ve vl vs vm b F S c f9 q k2 (u.below a3) a2 g9);have j0:c q<b.length:=by rw [<-u.lf];exact a2.rt_lt (by rw [u.lf];exact g9)
  have e2:=a2.rt_rt q;obtain ⟨p9,I⟩ : ∃n,b[c q]?=some n:=⟨b[c q],List.getElem?_eq_getElem j0⟩;obtain ⟨g0,f8,rfl,d3,d4⟩:=(u.below a3).node I;have m5:=(u.below a3).c0;have o1:=u.few;have b7:=aA u;have X:=aA a3;have f6:=aA c1;have f3:=aA c4;have b3:=aA c0;have b5:=aA g6;have l3:=aA g5;have q6:=aA a2;have m1:=aA ih;have l0:=aA e0;obtain ⟨g,m⟩:=p9;simp only at d3 d4;obtain ⟨d,a8⟩ : ∃d,d=c q:=⟨_,rfl⟩;rw [<-a8] at j0 e2 I d3 d4 b2;have d1:=aA a8;have d0:=aA e2;have b6:=aA I;have r7:(d:Int)<(b.length:Int):=by omega
  have V:=aA (λb1=>nH g m b1);clear u a3 c1 c4 j4 c0 g6 g5 a2 ih e0 a8 e2 I g2;refine (callsIn_wide (n:=3)).1 ?_;refine callsIn_of_wp_marks Tryz.func166 rfl trivial ?_;simp only [Tryz.ntmps166,List.size_toArray,zq,List.length_nil,Nat.reduceAdd,Nat.reduceSub,Array.replicate_succ,Array.replicate_zero,List.push_toArray,List.append_toArray,List.nil_append,za];refine wpIn_wide.2 ?_;by_cases c5:g.toList.isEmpty=true
  ·rw [c5] at V;have c6:aM (g,m)=true:=c5;have a6:∀j,c d=c j->¬(aJ b).named j:=by
    intro j e d7;have:=l3.o j d7;rw [<-e,d0.o,gX b6.o,c6] at this;cases this
   have d9:o=[(⟨#[]⟩,(d:Int))]:=by have a1:aU (aJ b) (λJ j=>c J=c j) c [q] [(⟨#[]⟩,((c q:Nat):Int))]:=aU.var (λj e d7=>a6 j (by rw [d0.o,d1.o];exact e) d7) aU.nil;have b9:=f6.o.one b3.o b5.o (uA b) (λ_ _ e=>e) _ a1;rw [b9,d1.o]
   subst d9;have k5:=aA (λ(k:World) (l:aB k2 k)=>aJb (k.alloc (.cells #[.string ⟨#[]⟩,.int .i64 d] 43)) 39 A _ out ((bF (bF f3.o X.o (zx _)) l (zx _)).alloc _) (by simp [zz]) (by omega) (by have:=X.o.size;have:=l.size;simp;omega) k.heap.size 1 (⟨#[]⟩,(d:Int)) (yH _ _ _ _).1 (yH _ _ _ _).2);subst j5;clear a6 c6;go_wp2_with (first
    |(go_at_call 164;refine (aC b2).mono ?_;rintro e e7 ⟨rfl,rfl⟩)
    |(go_at_call 36;refine (aC V _).mono ?_;rintro e k ⟨rfl,l⟩;have L:=aD l e8;have P:=aA l;obtain ⟨c8,G,i9,a7,a4,b0⟩:=k5.o k l;have l8:=aA i9;have l6:=aA a7;have f0:=aA a4;have f5:=aA b0;clear l i9 a7 a4 b0)
    |(at_builtin;refine Go.Lib.wpList_append_run _ rfl _ _ _ _ rfl _ _ rfl rfl _ _ (aC l8) ?_)
    |go_in)
   refine tF (v:=c8) rfl (by simp [results,Tryz.results166,go_sem]) ?_;have d6:aB w (k.alloc (.cells #[.string ⟨#[]⟩,.int .i64 d] 43)):=(aZ X.o P.o).alloc (zv X.o.size P.o.size) _;obtain ⟨m6,m7,m8,m9,n0⟩:=h0.lts (zv g1 h5.1);exact ⟨c8,rfl,⟨(b7.o.below d6).grown f0.o m6 (zp m7) (zp m8) (zp m9) (zp n0),by simpa using l6.o,by rcases f5.o with e|e<;>rw [e]<;>simp [zz],wN d6 f0.o,by
    rcases f5.o with e|e
    ·exact z5 e
    ·exact zp ⟨_,e,d6.size⟩⟩⟩
  ·have c6:aM (g,m)=false:=by simpa [aM] using c5
   rw [show g.toList.isEmpty=false by simpa using c5] at V;have e1:(aJ b).named d:=by rw [gX b6.o];exact c6
   have j1:c q=c d:=by rw [d0.o,d1.o]
   obtain ⟨t,o3,g8⟩ : ∃t,o=(g,m)::t/\aU (aJ b) (λJ j=>c J=c j) c ((aJ b).ch d) t:=by
    have c1:=f6.o;cases c1 with
    |var a1 _=>exact absurd e1 (a1 d j1)
    |@name _ j _ t a1 b9 h3=>
     have h6:c j=c d:=a1.symm.trans j1;refine ⟨t,by rw [b5.o j d h6 b9 e1,pG b6.o],?_⟩;rw [List.append_nil] at h3;exact h3.same b3.o (λ_ _ e=>e) _ (aC7 b3.o b5.o (uA b) h6 b9 e1)
   subst o3;have r6:out.length+(t.length+1)<=1000000:=by simpa using o4
   obtain ⟨y,d5⟩ : ∃y,(aJ b).ch d=y:=⟨_,rfl⟩;rw [d5] at g8;obtain ⟨z,h2,o0,h4⟩:=aWv b3.o b5.o (uA b) (λ_ _ e=>e) g8;obtain ⟨D,f7,rfl,_⟩:=b7.o.ends (by omega);subst j5;go_upto_region 4 with (first
    |(go_at_call 164;refine (aC b2).mono ?_;rintro e e7 ⟨rfl,rfl⟩)
    |(go_at_call 36;refine (aC V _).mono ?_;rintro e k ⟨rfl,l⟩;have e5:=aD l q4;have L:=aD l e8;have j7:=(l.frozen (p:=⟨w.heap.size+1,0,none⟩) (zy _ _ e8)).trans n1;have s2:=aD l d3;have s3:=aD l d4;have s4:=aD l m5;have P:=aA (aZ X.o l);clear l)
    |go_in)
   have p1:=P.o.size;have r2:w.heap.size+1<k.heap.size:=zy _ _ L;have f4:=aA (bF f3.o (P.o.trans ((aQ (w1:=k.drew) ⟨1,rfl⟩).mono p1)) (zx _));have b4:=aA (λ(G:World) (R:(k.drew.alloc (.cells #[.string g,.int .i64 m] 43)).grownBy G (some H))=>aJg R e5 L j7 (by omega) (by omega));have p5:=λY=>aD ((Below.refl k.heap.size k).alloc (zx _) Y) L
   have p6:=λY=>aD ((Below.refl k.heap.size k).alloc (zx _) Y) e5
   have r8:(0:Int)<=(d:Int):=Int.natCast_nonneg _;have f2:=aA (λ(G:World) (a0 Z:Nat) (R:(k.drew.alloc (.cells #[.string g,.int .i64 m] 43)).grownBy G (some H)) (o6:G.ownsRow A 43 2 (.slice (some ⟨a0,0,none⟩) (out.length+1) Z) (out.length+1) (aV (out++[(g,m)]))) (p0:(zf (some ⟨a0,0,none⟩) (out.length+1) Z).ownBlock=some H\/(zf (some ⟨a0,0,none⟩) (out.length+1) Z).ownBlock=some (k.drew.alloc (.cells #[.string g,.int .i64 m] 43)).heap.size)=>aWy (cv:=b8) (ex:=z) h0 b7.o P.o g1 h5 R e5 L j7 o6 p0);go_cut [24] from 24 to 33 (λj9 b1=>j9=j9/\mX w B tb (.slice (some ⟨g0,0,none⟩) b.length f8) (.slice (some ⟨D,0,none⟩) b.length f7) vl vs vm b F S A (.slice (some ⟨H,0,none⟩) out.length b8) (out++[(g,m)]) z (w.heap.size+1) (w.heap.size+2) [] b1)
   case first=>
    refine aWw ?_;go_region_law (refine aWu (by rfl) _ _ (by rfl) A _ out (by rfl) (f4.o.alloc _) (by simp [zz]) (by omega) (by simp;omega) k.heap.size 1 (g,m) (by rfl) (yH _ _ _ _).1 (yH _ _ _ _).2 ?_;intro c8 G a7 a4 b0;have o9:c8.ownBlock≠none:=(by rcases b0 with e|e<;>rw [e]<;>simp [zz]);obtain ⟨a0,Z,rfl⟩:=zO a7 o9;obtain ⟨q7,q8,q9⟩:=b4.o G a4);all_goals
     refine aWx ?_;go_wp2_with fail;go_meet;case rel=>exact ⟨by first|rfl|trivial,f2.o G a0 Z a4 a7 b0⟩
   case rest=>
    obtain ⟨_,c2⟩:=hcut;have e9:=aA (λb1=>aCv tb d b1);have q5:=c2.x0;have l2:=aA c2;have s1:=c2.big;clear c2 b2 V f2 b4 f4 p5 p6;have p8:=λY=>aD ((Below.refl wc.heap.size wc).alloc (zx _) Y) q5
    go_wp2_with (first
     |(go_at_call 165;refine (aC e9 _).mono ?_;rintro e s8 ⟨rfl,rfl⟩)
     |go_in)
    clear p8 e9;obtain ⟨O,j6,n8,q1,q0,_,o8⟩:=aJe wc (.pointer (some ⟨tb,0,none⟩)) (.int .i64 d) 173 3;rw [<-j6];clear j6;have g3:=l2.o.boxes n8 o8;have n4:lJ O (wc.heap.size+1) wc.heap.size tb D b d:=lJ.of g3.tm (by omega) q0 q1;have s0:=(Array.getElem?_eq_some_iff.1 h0.box).1;have r5:=(cL h0.re D rfl).2;have i0:∀f∈[wc.heap.size+1,wc.heap.size,tb,D],f<O.heap.size:=by intro f s;simp at s;rcases s with rfl|rfl|rfl|rfl<;>omega
    have I:=b6.o;refine (wpIn_wide (n:=3)).1 ?_;refine wpIn_rangeFunc_ownG rfl (by omega) (gf:=171) (lb:=#[.pointer (some ⟨wc.heap.size+1,0,none⟩),.pointer (some ⟨wc.heap.size,0,none⟩)]) rfl trivial (enters_of Tryz.func171 (by kernel_rfl) rfl)
     (encs:=λa:nQ y=>#[.int .i64 (a.1:Nat)]) (Kp:=iK [wc.heap.size+1,wc.heap.size,tb,D]) (S:=λxs=>xs.map (λa=>a.1)=y) (Sp:=λx=>x.map (λa=>a.1) <+: y) (N:=y.length) (w0:=O)
     (λo m2 m3 i n6 n5 r1 n7 h0=>by
      have:=aD4 2 o (wc.heap.size+1) wc.heap.size tb D b d (g,m) y d5 (by omega) g4 o1 I m2 m3 _ n5 n7 i (n4.kept (aCx n6 i0)) h0;simpa using this)
     (λu f=>u.trans f) (iK.put i0) (Below.refl _ _) (λ_=>rfl)
     (λx i=>mX w B tb (.slice (some ⟨g0,0,none⟩) b.length f8) (.slice (some ⟨D,0,none⟩) b.length f7) vl vs vm b F S A (.slice (some ⟨H,0,none⟩) out.length b8) (out++[(g,m)]) z (w.heap.size+1) O.heap.size (x.map λa=>a.1) i)
     (λd2 x i=>False)
     (mX.own (by omega)) (λd2=>by intro _ _ _ _ u;cases u) ?h0 ?a1 ?assign ?body ?done ?stop
    case h0=>exact g3
    case assign=>
     intro o a i K hK;gi_wp2
     exact hK
    case body=>
     rintro o x a i r o5;obtain ⟨U,h1,E,a9,a5,i4,i6,i8⟩:=r.st;have p3:a.1<b.length:=aCz g4 I a.1 (by rw [d5];exact a.2);obtain ⟨Q,d2,rfl⟩:=zO E a9;have p2:=o0 a.1 a.2;have i3:∀c9∈y,1<=(z c9).length:=λc9 e4=>(h2 c9 e4).pos
     have j2:(out++[(g,m)]++((x.map λa=>a.1).map z).flatten).length+(z a.1).length*(z a.1).length<=1000000:=by
      obtain ⟨q2,e6⟩:=aX0 i3;rw [h4] at q2 e6;have q3:=aX1 (pre:=x.map λa=>a.1) (ex:=z) (M:=t.length+1-y.length) (λc9 e4=>by
       obtain ⟨k3,_,rfl⟩:=zi.1 e4;have:=e6 k3.1 k3.2;omega)
      rw [List.length_map] at q3;have s5:=e6 a.1 a.2;have s6:=aX2 (j:=x.length) (k:=y.length) (M:=t.length+1-y.length) (e:=(z a.1).length) (n:=t.length+1) o5 (by omega) (by omega);have s7:out.length+(t.length+1)*(t.length+1)<=1000000:=by simpa using l9.o
      simp only [zo,zq,List.length_nil];omega
     have n3:A<=i.heap.size:=by have:=r.far.size;omega
     have k4:=aA (m1.o a.1 (z a.1) _ _ i (by have:=l0.o;simp at this;omega) (h2 a.1 a.2) r.tm E a9 n3 j2 p3);have o2:=cL E Q rfl;have r3:=r.big;have i5:Q≠w.heap.size+1:=by simpa [zz] using i4
     have i7:Q≠w.heap.size:=by simpa [zz] using i6
     have c3:∀f,O.heap.size<=f+2->f<O.heap.size->Q≠f:=λf L p4=>by simpa [zz] using i8 f L p4
     have d8:∀f∈[wc.heap.size+1,wc.heap.size,tb,D],f<i.heap.size/\f≠Q:=by
      intro f s;simp at s;rcases s with rfl|rfl|rfl|rfl
      ·exact ⟨by omega,(c3 _ (by omega) (by omega)).symm⟩
      ·exact ⟨by omega,(c3 _ (by omega) (by omega)).symm⟩
      ·exact ⟨by omega,by omega⟩
      ·exact ⟨by omega,by omega⟩
     have h8:∀f∈[wc.heap.size+1,wc.heap.size,tb,D],f≠w.heap.size+1:=by intro f s;simp at s;rcases s with rfl|rfl|rfl|rfl<;>omega
     have l5:=aA (λ(C:World) (k0:Value) a8=>mX.next (x:=a.1) (W':=C) (v2:=k0) b7.o r (by omega) (by omega) h1 a5 i5 i7 c3 a8);have k8:=aA (λ(C:World) (R:i.grownBy C (some Q))=>And.intro (wM O.heap.size R (vQ E rfl)) (aD0 R d8));have k9:=aA (λ(C:World) (o7:i.heap.size<=C.heap.size) (v:Value) (f:Nat) s=>(cJ C ⟨w.heap.size+1,0,none⟩ v).block f (Nat.lt_of_lt_of_le (d8 f s).1 o7) (by simpa using h8 f s));have s9:=r.x0;clear r E a9 a5 i4 i6 i8 j2 i3 p2 d8 h8 i5 i7 c3 o2;generalize (out++[(g,m)]++((x.map λa=>a.1).map z).flatten).length=n at *;gi_wp2_with (first
      |(refine ⟨trivial,?_⟩;gi_at_call 166;refine (CallsIn.inRound o (callsIn_wide.2 (aC k4))).mono ?_;rintro e C ⟨k0,rfl,T⟩;obtain ⟨n2,p7,m4,rfl⟩:=aWz T.row T.some;obtain ⟨i1,n9,r4⟩:=l5.o C _ T;obtain ⟨h7,h9⟩:=k8.o C T.far;have j3:=k9.o C T.far.size (.slice (some ⟨n2,0,none⟩) p7 m4);have l4:=aA i1;have k7:=aA h7;have b4:=aA h9;have m0:=aA j3;clear i1 h7 h9 j3 T)
      |fail)
     refine ⟨k7.o.trans (rX _ n9 _),b4.o.trans (λf s=>m0.o f s),?_⟩;have a6:=l4.o;rw [show (x.map λa=>a.1)++[a.1]=(x++[a]).map λa=>a.1 by simp] at a6;exact a6
    case done=>
     rintro W t0 i c0 g7 r hK;obtain ⟨U,h1,E,a9,a5,_⟩:=r.st;rw [g7,h4] at E;have f1:=aA r;have l7:=aA E;have k6:=aA hK;have l1:=aA a5;clear r E hK a5;go_wp2;have hK:=k6.o;refine ⟨by simp,.inl ⟨_,_,rfl,run_takeDeferred hK,?_⟩⟩;refine ⟨U,by simp [results,Tryz.results166,go_sem],?_⟩;have i2:∀d,(some W:Option Nat)=some d->∃j8:Obj,i.heap[d]?=some j8/\j8.isCells=false:=λd e=>by cases e;exact ⟨_,hK,rfl⟩
     have d9:out++(g,m)::t=out++[(g,m)]++t:=by simp
     refine ⟨U,rfl,⟨f1.o.tm.others (grownBy_putObj' i W (.deferred none)) i2,by rw [d9];exact aJd l7.o (grownBy_putObj' i W (.deferred none)) i2,a9,nO f1.o.far (grownBy_putObj' i W (.deferred none)) (λd e=>by cases e;omega),l1.o⟩⟩
    case stop=>
     rintro W d2 x i c0 g7 r hK;cases r
end
section
attribute [local go_sem] zh
theorem aX4{a:Nat}{c:Nat}(i:w.ownsRow a e c v n xs)(k:B<=a):w.ownsRow B e c v n xs:=by
 obtain ⟨b,⟨rfl,j⟩|⟨g,d,f,rfl,l,m⟩⟩:=i
 ·exact ⟨b,z5 ⟨rfl,j⟩⟩
 ·exact ⟨b,zp ⟨g,d,f,rfl,zv k l,m⟩⟩
structure aX5(w:World)(B tb:Nat)(vn ve vl vs vm:Value)(L:List Nd)(F:List Nat)(S:List Int)(rt:Nat->Nat)(a:Nat)(v:Value)(b:Bool)(w':World)(S':List Int):Prop where
 tm:bH w' B tb vn ve vl vs vm L F S'
 far:w.grownBy w' vs.ownBlock
 keep:bY (aJ L) (λi j=>rt i=rt j) a->qO L rt S'/\∀p:Nat,S'[p]?=some (-1)↔S[p]?=some (-1)
 yes:b=true->bY (aJ L) (λi j=>rt i=rt j) a/\v.ownBlock≠none/\∃l,aU (aJ L) (λi j=>rt i=rt j) rt [a] l/\l.length<=500/\w'.ownsRow w.heap.size 43 2 v l.length (aV l)
 no:b=false->v=.slice none 0 0/\(¬bY (aJ L) (λi j=>rt i=rt j) a\/∃l,aU (aJ L) (λi j=>rt i=rt j) rt [a] l/\500<l.length)
theorem aX6(B tb:Nat)(vn ve vl vs vm:Value)(b:List Nd)(F:List Nat)(c u:Nat->Nat)(N:eT b)(z:fR F c u)(k:kC b c)(y:eA (aJ b) (λD E=>c D=c E) λ_ _=>False)(S:List Int)(g:Nat)(w:World)(x:bH w B tb vn ve vl vs vm b F S)(P:qO b c S)(O:∀s:Nat,S[s]?=some (-1)->fC (aJ b) (λD E=>c D=c E) s g)(Q:g<b.length):Calls zr 151 #[.pointer (some ⟨tb,0,none⟩),.int .i64 g] w λe b5=>∃v p a7,e=.returned (.tuple #[v,.bool p])/\aX5 w B tb vn ve vl vs vm b F S c g v p b5 a7:=by
 have G:=aA (aJa B tb vn ve vl vs vm b F c u N z k y (kQ S+1) S g w (by omega) x P O Q);have a0:=aA y;have a1:=aA z;have a3:=aA k;have b7:=aA x.rs;clear x P O y z k;obtain ⟨b4,k,a8,a9,b0⟩:=info_parts rE;go_enter Tryz.func151,Tryz.ntmps151;go_upto_region 2 with (first
  |(go_at_call 149;refine (aC G).mono ?_;rintro e f ⟨n,p,o,rfl,i⟩)
  |go_in)
 clear G;cases p with
 |false=>
  obtain ⟨rfl,R⟩:=i.no rfl;have d:=aA i;clear i;go_wp2;go_ret2;refine ⟨.slice none 0 0,false,o,rfl,⟨d.o.tm,d.o.far,λe=>absurd e R,λe=>(by cases e),λ_=>⟨rfl,z5 R⟩⟩⟩
 |true=>
  obtain ⟨U,V,W,a,X,Y⟩:=i.yes rfl;obtain ⟨j,A⟩ : ∃j,j=min 501 a.length:=⟨_,rfl⟩;rw [<-A] at Y;subst Y;have d:=aA i;have I:=aA U;have J:=aA V;have a2:=aA W;have t:=aA X;have L:=aA A;clear i U V W X A;by_cases b8:500<j
  ·have b1:(500:Int)<(j:Int):=by omega
   go_wp2;go_ret2;refine ⟨.slice none 0 0,false,o,rfl,⟨d.o.tm,d.o.far,λ_=>⟨I.o,J.o⟩,λe=>(by cases e),λ_=>⟨rfl,zp ⟨a,t.o,by have:=L.o;omega⟩⟩⟩⟩
  ·have b1:¬(500:Int)<(j:Int):=by omega
   have b2:j=a.length:=by have:=L.o;omega
   subst b2;have C:a.length<=500:=by omega
   have a6:=aA (λ(m:World) (q:m.ownsRow f.heap.size 43 2 (.slice (some ⟨f.heap.size,0,none⟩) 0 a.length) 0 []) (l:f.grownBy m none)=>aX3 B tb vn ve vl vs vm b F o c u N a1.o a3.o a0.o f d.o.tm f.heap.size (zx _) (a.length+1) g a [] _ m (by omega) t.o (d.o.tm.grown l (by simp) (by cases vn.ownBlock<;>simp) (by cases ve.ownBlock<;>simp) (by cases vl.ownBlock<;>simp) (by cases vs.ownBlock<;>simp)) q (by simp [zz]) l.size (by have:=Nat.mul_le_mul C C;simp;omega) Q);go_wp2_with (first
    |(at_make;refine wpList_make_own _ rfl _ _ 39 rfl f.heap.size 43 b4 (.agg #[.string ⟨#[]⟩,.int .i64 0]) 2 Tryz.underlying39 k a8 a9 .i64 .i64 _ a.length rfl rfl rfl (by rw [b0];omega) (by unfold maxLen;omega) (zx _) ?_;intro m q l;have a4:=aA q;have H:=aA l;clear q l)
    |(go_at_call 166;refine (aC a6 m a4.o H.o).mono ?_;rintro e b6 ⟨Z,rfl,T⟩;have a5:=aA T;clear T)
    |go_in)
   go_ret2;have r:=a5.o;have b3:b6.ownsRow f.heap.size 43 2 Z a.length (aV a):=by simpa using r.row
   refine ⟨Z,true,o,rfl,⟨r.tm,?_,λ_=>⟨I.o,J.o⟩,λ_=>⟨a2.o,r.some,a,t.o,C,?_⟩,λe=>(by cases e)⟩⟩
   ·have M:=d.o.far;exact nO (nO M H.o (λs e=>by cases e)) r.far (λs e=>by simp [zz] at e;have:=M.size;omega)
   ·exact aX4 b3 d.o.far.size
end
section
attribute [local go_sem] zh
theorem bH.cleared{c:List Nd}{d j:Nat}:∀(m b:Nat) (w:World) (S:List Int),bH w B tb vn ve vl (.slice (some ⟨d,0,none⟩) c.length j) vm c F S->b+m=c.length->(∀a,a<b->S[a]?=some 0)->
  ∃f,bH (w.setCells d b (zm m (.int .i64 0))) B tb vn ve vl (.slice (some ⟨d,0,none⟩) c.length j) vm c F f/\(∀a,a<c.length->f[a]?=some 0)/\w.grownBy (w.setCells d b (zm m (.int .i64 0))) (some d):=by
 intro m;induction m with
 |zero=>
  intro b w S g p i;exact ⟨S,g,λa o=>i a (by omega),zd.refl _ _⟩
 |succ m ih=>
  intro b w S g p i;obtain ⟨k,l⟩:=g.sized b 0;have u:=g.ls;obtain ⟨f,q,r,s⟩:=ih (b+1) _ _ k (by omega) (λa o=>by
   by_cases e:a=b
   ·subst e;rw [List.getElem?_set_self (by omega)]
   ·rw [List.getElem?_set_ne (λt=>e t.symm)];exact i a (by omega))
  exact ⟨f,q,r,l.trans s⟩
theorem aD6{f:World}{d:Option Nat}(g:∀b,d=some b->B<=b)(i:B<=w.heap.size)(a:w.grownBy f d):Below B w f:=
 ⟨a.os,a.tape,a.output,a.size,λc j=>a.block c (by omega) (λe=>by have:=g c e.symm;omega)⟩
structure aX7(w:World)(B tb:Nat)(vn ve vl vs vm:Value)(L:List Nd)(rt:Nat->Nat)(a b:Nat)(ok:Bool)(w':World):Prop where
 size:w.heap.size<=w'.heap.size
 low:Below B w w'
 keep:∀k,k<w.heap.size->vl.ownBlock≠some k->vs.ownBlock≠some k->w'.heap[k]?=w.heap[k]?
 yes:ok=true↔lE (aJ L) (Cl (aJ L) λi j=>rt i=rt j\/(i=a/\j=b))/\bY (aJ L) (Cl (aJ L) λi j=>rt i=rt j\/(i=a/\j=b)) a
 st:ok=true->∃F' S' rt' d',bH w' B tb vn ve vl vs vm L F' S'/\fR F' rt' d'/\kC L rt'/\eA (aJ L) (λi j=>rt' i=rt' j) (λ_ _=>False)/\(∀i j,rt' i=rt' j↔Cl (aJ L) (λi j=>rt i=rt j\/(i=a/\j=b)) i j)/\qO L rt' S'/\∀r:Nat,S'[r]?≠some (-1)
theorem aX8(B tb:Nat)(vn ve vl vs vm:Value)(b:List Nd)(F:List Nat)(g a0:Nat->Nat)(a9:eT b)(a8:fR F g a0)(b0:kC b g)(a7:eA (aJ b) (λa d=>g a=g d) λ_ _=>False)(S:List Int)(j r:Nat)(w:World)(l:bH w B tb vn ve vl vs vm b F S)(N:j<b.length)(d3:r<b.length):Calls zr 125 #[.pointer (some ⟨tb,0,none⟩),.int .i64 j,.int .i64 r] w λe e1=>∃I:Bool,e=.returned (.bool I)/\aX7 w B tb vn ve vl vs vm b g j r I e1:=by
 obtain ⟨k,c7,e8,rfl,d6,c4,c6⟩:=l.size N;have d5:=l.ls;have d4:∀R,(Builtin.clear_ #[33] R #[.slice (some ⟨k,0,none⟩) b.length c7]).run zr w=.ok (.tuple #[]) (w.setCells k 0 (zm b.length (.int .i64 0))):=λR=>
  Lib.run_clear_slice w _ 3 R (.int .i64 0) Tryz.underlying33 (λw=>by obtain ⟨e7,d1,d2,e4,e5⟩:=info_parts sI;simp [zeroValue,typeInfo,d1,d2]) rfl rfl k 0 _ _ (by omega) (λd P=>by
   obtain ⟨c9,c3,d7,t,c8,a2,a3⟩:=l.size P;simp at t;obtain ⟨rfl,_⟩:=t;rw [Nat.zero_add,a2];rfl) (λd P=>by
   obtain ⟨c9,c3,d7,t,c8,a2,a3⟩:=l.size P;simp at t;obtain ⟨rfl,_⟩:=t;rw [Nat.zero_add,a3])
 obtain ⟨C,a4,a5,a6⟩:=bH.cleared b.length 0 w S l (by omega) (λa e6=>by omega);have c5:=l.c3;clear c4 c6 d6 d5;generalize w.setCells k 0 (zm b.length (.int .i64 0))=w1 at *;have T:=aA (aW4 B tb vn ve vl _ vm b C a9 (mM F+1) F g a0 j r w1 (by omega) a4 a8 b0 N d3);have W:=aA l;have V:=aA a5;have z:=aA a6;have b6:=aA a7;have L:=aA (cL l.rs k rfl).1;clear l a4 a5 a6 a8 b0 a7;go_enter Tryz.func125,Tryz.ntmps125;go_wp2_with (first
  |(go_at_call 148;refine (aC T).mono ?_)
  |go_in)
 rintro e y ⟨I,U,x,a1,rfl,c⟩;clear T d4 c5;have D:∀i,y.grownBy i (some k)->Below B w i:=λi O=>by
  have d0:B<=w.heap.size:=zv L.o (Nat.le_of_lt (cL W.o.rs k rfl).2);have d9:=z.o.size;have e0:=c.far.size;exact ((aD6 (λM e=>by simp at e;subst e;exact L.o) d0 z.o).trans (aD6 (λM e=>(cL W.o.rl M e).1) (by omega) c.far)).trans (aD6 (λM e=>by simp at e;subst e;exact L.o) (by omega) O)
 have E:∀i,y.grownBy i (some k)->∀f,f<w.heap.size->vl.ownBlock≠some f->k≠f->i.heap[f]?=w.heap[f]?:=λi O f o p s=>by
  have d9:=z.o.size;have e0:=c.far.size;rw [O.block f (by omega) (by simpa using λe=>s e.symm),c.far.block f (by omega) (λe=>p e.symm),z.o.block f o (by simpa using λe=>s e.symm)]
 have G:=c.sem (λa d=>g a=g d\/(a=j/\d=r)) (λ_ _=>False) (λa d e=>Cl.base (z5 e)) (Cl.base (zp ⟨rfl,rfl⟩)) (b6.o.mono λ_ _ e=>e.elim);cases I with
 |false=>
  have b9:=aA (G.2 rfl);have A:=aA (D y (zd.refl _ _));have J:=aA (E y (zd.refl _ _));clear c G D E;go_wp2;go_ret;exact ⟨false,rfl,A.o.size,A.o,λf o p s=>J.o f o p (by simpa [zz] using s),⟨λe=>(by cases e),λe=>absurd e.1 b9.o⟩,λe=>(by cases e)⟩
 |true=>
  obtain ⟨b3,b4,H⟩:=G.1 rfl;obtain ⟨o,p⟩:=H.done (qF x) b4 (λa d e=>by
   rcases e with e|⟨rfl,rfl⟩
   ·exact c.mono a d e
   ·exact b3)
  have Q:∀q:Nat,C[q]?≠some (-1):=λq e=>by
   have u:=(zk.1 e).1;rw [c.tm.ls] at u;rw [V.o q u] at e;cases e
  have b5:=aA (aJa B tb vn ve vl _ vm b U x a1 a9 c.forest c.named H (kQ C+1) C j y (by omega) c.tm (λd8 n e=>by
   have u:=(zk.1 e).1;rw [c.tm.ls] at u;rw [V.o d8 u] at e;simp at e;exact z5 e.symm) (λq e=>absurd e (Q q)) N)
  have X:=aA o;have b8:=aA p;have b7:=aA H;have c1:=aA Q;have A:=aA D;have J:=aA E;have Y:=aA c;clear c G D E b3 b4 H o p Q;go_wp2_with (first
   |(go_at_call 149;refine (aC b5).mono ?_;rintro e i ⟨n,Z,c2,rfl,m⟩;have c0:=aA m;clear m)
   |go_in)
  go_ret;have m:=c0.o;have b2:=A.o i m.far;have b1:∀a,bY (aJ b) (λa d=>x a=x d) a↔bY (aJ b) (Cl (aJ b) λa d=>g a=g d\/(a=j/\d=r)) a:=λa=>bY.iff X.o
  refine ⟨Z,rfl,b2.size,b2,λf o p s=>J.o i m.far f o p (by simpa [zz] using s),?_,?_⟩
  ·cases Z with
   |true=>exact ⟨λ_=>⟨b8.o,(b1 j).1 (m.yes rfl).2.2.1⟩,λ_=>rfl⟩
   |false=>exact ⟨λe=>(by cases e),λe=>absurd ((b1 j).2 e.2) (m.no rfl).2⟩
  ·rintro rfl;obtain ⟨e2,e3,e9,f0⟩:=m.yes rfl;exact ⟨U,c2,x,a1,m.tm,Y.o.forest,Y.o.named,b7.o,X.o,e2,λq e=>c1.o q ((e3 q).1 e)⟩
end
theorem bH.toRaw{b:List Nd}(a:bH w B tb vn ve vl vs vm b F S)(c:ve.ownBlock≠none)(d:vl.ownBlock≠none)(f:vs.ownBlock≠none):cG w B tb vn ve vl vs vm b (eN b) F S:=
 ⟨a.box,a.high,a.rn,by rw [gL];exact a.re,by rw [a.lf];exact a.rl,by rw [a.ls];exact a.rs,a.ab,a.ac,a.bc,c,d,f⟩
structure gO(B tb mp:Nat)(nb:Option Nat)(M:List Tg)(a b:Nat)(ps:List Nat)(ls:List (List Nd))(w:World):Prop where
 tm:∃vn ve vl vs F rt d S,vn.ownBlock=nb/\cG w B tb vn ve vl vs (.map (some mp)) (M.map zw) (eN (M.map zw)) F S/\iC M a b F rt d S/\(∀p,p<M.length->bY (aJ (M.map zw)) (λi j=>rt i=rt j) p)/\aO (λp l=>aU (aJ (M.map zw)) (λi j=>rt i=rt j) rt [p] l) ps ls
 low:∀p∈ps,p<M.length
 first:fV w mp M
 big:B<=w.heap.size
 ne:mp≠tb
 mlow:B<=mp
 short:∀t∈M,t.2.1.size<=140737488355328
def oV(f:Option Nat)(w g:World):Prop:=∀(a:Nat) (c:Array Value) (b:TypeId) (d:Nat×Nat),w.heap[a]?=some (.cells c b d)->b≠3->b≠191->f≠some a->g.heap[a]?=w.heap[a]?
def aJh(w:World)(c b:Option Nat):Prop:=b=c\/∃a,b=some a/\w.heap.size<=a
section
variable {B tb mp:Nat}{nb:Option Nat}{M:List Tg}{a b:Nat}{ps:List Nat}{ls:List (List Nd)}{w:World}
theorem aX9(f:gO B tb mp nb M a b ps ls w)(g:Int)(l:Option Addr)(m:Nat)(d:List Nd)(z:cS w l d)(t:aN d 1=true)(N:∀c,l=some c->c.block<B)(L:M.length+d.length<=1000000)(Q : -1000<=g/\g<=1000):Calls zr 126 #[.pointer (some ⟨tb,0,none⟩),.int .i64 g,.slice l d.length m] w λe q=>e=.returned (.int .i64 M.length)/\∃C,gO B tb mp C (M++aW g d) a b ps ls q/\Below B w q/\aJh w nb C/\oV nb w q:=by
 obtain ⟨vn,ve,vl,vs,F,k,a0,S,A,T,j,I,O⟩:=f.tm;have o:(M.map zw).length=M.length:=by simp
 refine (aIw B tb mp vn ve vl vs (M.map zw) F S M g l m d w T rfl j.whole f.first (by rw [j.lf,o]) (by rw [j.ls,o]) f.big f.ne f.mlow t z N (by rw [o];exact L) Q).mono ?_;rintro e q ⟨D,W,X,Y,rfl,E,G,r,H⟩;have s:(M++aW g d).map zw=M.map zw++d:=by rw [List.map_append,zN]
 refine ⟨by rw [o],D.ownBlock,⟨⟨D,W,X,Y,_,_,_,_,rfl,by rw [s];exact E,j.add (o:=g) t,?_,?_⟩,λc i=>by have:=f.low c i;simp;omega,G,zv f.big r.low.size,f.ne,f.mlow,?_⟩,r.low,by rw [<-A];exact H,by rw [<-A];exact r.nod⟩
 ·intro c i;rw [s];have a1:c<M.length+d.length:=by simpa using i
  exact j.endsAll (o:=g) t I (M.length+d.length-c) c (by omega)
 ·rw [s];have V:∀{ps:List Nat} {ls:List (List Nd)},aO (λc x=>aU (aJ (M.map zw)) (λp u=>k p=k u) k [c] x) ps ls->(∀c∈ps,c<M.length)->aO (λc x=>aU (aJ (M.map zw++d)) (λp u=>cU M (M++d.map λn=>(g,n)) k p=cU M (M++d.map λn=>(g,n)) k u) (cU M (M++d.map λn=>(g,n)) k) [c] x) ps ls:=by
   intro ps ls f;induction f with
   |nil=>intro _;exact aO.nil
   |cons m _ ih=>
    intro i;exact aO.cons (j.exp (o:=g) m (λp y=>by simp at y;subst y;exact i _ (by simp))) (ih λc R=>i c (by simp [R]))
  exact V O f.low
 ·intro Z hx;rcases List.mem_append.1 hx with hx|hx
  ·exact f.short Z hx
  ·obtain ⟨n,P,rfl⟩:=zi.1 hx;obtain ⟨U,J,rfl⟩:=List.getElem_of_mem P;exact z.short U J
theorem aXa(g:gO B tb mp nb M a b ps ls w)(i:Nat)(q:i<M.length)(L:M.length<=1000000):Calls zr 151 #[.pointer (some ⟨tb,0,none⟩),.int .i64 i] w λe j=>∃v p,e=.returned (.tuple #[v,.bool p])/\Below B w j/\w.heap.size<=j.heap.size/\oV nb w j/\∃c,
   (p=true->c.length<=500/\v.ownBlock≠none/\j.ownsRow w.heap.size 43 2 v c.length (aV c)/\gO B tb mp nb M a b (ps++[i]) (ls++[c]) j)/\
   (p=false->v=.slice none 0 0/\500<c.length/\gO B tb mp nb M a b (ps++[i]) (ls++[c]) j):=by
 obtain ⟨vn,ve,vl,vs,F,k,C,S,R,l,d,x,P⟩:=g.tm;have o:(M.map zw).length=M.length:=by simp
 have O:=l.toIn (by rw [d.lf,o]) (by rw [d.ls,o]) (by rw [o];exact L) (λn Q=>by obtain ⟨W,T,rfl⟩:=zi.1 Q;exact g.short W T);refine (aX6 B tb vn ve vl vs _ (M.map zw) F k C d.whole d.forest d.named d.cl S i w O d.sz (λf e=>absurd e (d.none f)) (by rw [o];exact q)).mono ?_;rintro e j ⟨v,p,H,rfl,f⟩;obtain ⟨A,V⟩:=f.keep (x i q);have E:Below B w j:=⟨f.far.os,f.far.tape,f.far.output,f.far.size,λr m=>f.far.block r (by have:=g.big;omega) (λe=>by have:=(cL l.rs r e.symm).1;omega)⟩;have G:oV nb w j:=λr Z X a1 m A _ _=>f.far.block r (Array.getElem?_eq_some_iff.1 m).1 (λe=>by
  obtain ⟨_,⟨rfl,_⟩|⟨a2,Y,a0,rfl,_,N,_⟩⟩:=l.rs
  ·simp [zz] at e
  ·simp [zz] at e;subst e;rw [N] at m;simp at m;exact A m.2.1.symm)
 have D:∀c,aU (aJ (M.map zw)) (λy z=>k y=k z) k [i] c->gO B tb mp nb M a b (ps++[i]) (ls++[c]) j:=λc U=>
  ⟨⟨vn,ve,vl,vs,F,k,C,H,R,f.tm.toRaw l.ne l.nl l.ns,⟨d.whole,d.lf,by rw [f.tm.ls,o],d.forest,d.named,d.cl,d.iff,A,λs e=>d.none s ((V s).1 e),d.ha,d.hb⟩,x,P.snoc U⟩,λs hq=>by
   rcases List.mem_append.1 hq with hq|hq
   ·exact g.low s hq
   ·simp at hq;subst hq;exact q,g.first.grown f.far (pS l.rs g.first),zv g.big f.far.size,g.ne,g.mlow,g.short⟩
 cases p with
 |true=>
  obtain ⟨_,e2,c,t,u,J⟩:=f.yes rfl;exact ⟨v,true,rfl,E,f.far.size,G,c,λ_=>⟨u,e2,J,D c t⟩,(λe=>by cases e)⟩
 |false=>
  obtain ⟨I,e2⟩:=f.no rfl;obtain ⟨c,t,u⟩ : ∃c,aU (aJ (M.map zw)) (λy z=>k y=k z) k [i] c/\500<c.length:=by
   rcases e2 with e2|e2
   ·exact absurd (x i q) e2
   ·exact e2
  exact ⟨v,false,rfl,E,f.far.size,G,c,(λe=>by cases e),λ_=>⟨I,u,D c t⟩⟩
end
def iB(c:List Lt)(out a:Nat):List Lt:=(c.take a).eraseIdx out
theorem aJi{a:List Lt}{out:Nat}(b:out<a.length):iB a out (out+1)=iB a out out:=by
 unfold iB;have c:(a.take out).length=out:=by simp;omega
 rw [zs b,zt (by omega),c,Nat.sub_self,zu (l:=a.take out) (by omega)];simp
theorem aJj{b:List Lt}{out a:Nat}(c:a<b.length)(f:a≠out):iB b out (a+1)=iB b out a++[b[a]]:=by
 unfold iB;rw [zs c];have d:(b.take a).length=a:=by simp;omega
 by_cases g:out<a
 ·rw [List.eraseIdx_append_of_lt_length (by omega)]
 ·rw [zt (by omega),zu (l:=b.take a) (by omega),zu (by simp;omega)]
theorem aJk(a:List Lt)(out:Nat):iB a out a.length=a.eraseIdx out:=by unfold iB;rw [List.take_length]
theorem aXb(a:List Lt)(out:Nat):iB a out 0=[]:=by simp [iB]
def bE:Nat->List (List Lt×Nat)->List (Int×Lt)
 |_,[]=>[]
 |o,p::ps=>((p.1.eraseIdx p.2).map λa=>((o:Int),a))++bE (o+1) ps
theorem aJl:∀(c:List (List Lt×Nat)) (b a:Nat) (d:a<c.length),bE b (c.take (a+1))=bE b (c.take a)++((c[a].1.eraseIdx c[a].2).map λf=>(((b+a:Nat):Int),f)):=by
 intro c;induction c with
 |nil=>intro b a d;simp at d
 |cons p c ih=>
  intro b a d;cases a with
  |zero=>simp [bE]
  |succ a=>
   simp only [List.take_succ_cons,bE,List.getElem_cons_succ,List.append_assoc];rw [ih (b+1) a (by simpa using d)];congr 2
   simp only [show b+1+a=b+(a+1) by omega]
theorem aJm(b:List (Int×Lt))(a:Int×Lt):bL (b++[a])=bL b++a.2.2.map λn=>(a.1,n):=by simp [bL]
theorem aJn:∀(a:List (Int×Lt)) (n:Nat) (b:Int×Lt),eG n (a++[b])=eG n a++[n+(bL a).length]:=by
 intro a;induction a with
 |nil=>intro n b;simp [eG,bL]
 |cons x a ih=>
  intro n b;simp only [za,eG,ih];rw [zS];simp;omega
theorem aXc(a:List (Int×Lt))(b:List (List Nd))(f:a.length=b.length)(d:Int×Lt)(c:List Nd):cW (a++[d]) (b++[c])=cW a b++[(d.2.1,c)]:=by unfold cW;rw [List.zipWith_append f];rfl
section
variable {B tb mp:Nat}{nb:Option Nat}{M:List Tg}{a b:Nat}{ps:List Nat}{ls:List (List Nd)}{w w':World}
theorem gO.below(c:gO B tb mp nb M a b ps ls w)(f:aB w w'):gO B tb mp nb M a b ps ls w':=by obtain ⟨vn,ve,vl,vs,F,k,d,S,g,j,i⟩:=c.tm;exact ⟨⟨vn,ve,vl,vs,F,k,d,S,g,j.below f,i⟩,c.low,c.first.at (f.block mp c.first.lt),zv c.big f.size,c.ne,c.mlow,c.short⟩
theorem gO.lits(c:gO B tb mp nb M a b ps ls w){v:Value}{n i:Nat}{xs:List Value}(d:w.ownsRow i 41 2 v n xs)(g:w.grownBy w' v.ownBlock):gO B tb mp nb M a b ps ls w':=by obtain ⟨vn,ve,vl,vs,F,m,j,S,k,f,l⟩:=c.tm;exact ⟨⟨vn,ve,vl,vs,F,m,j,S,k,f.grown g (dZ d f.box (by decide)) (fQ f.rn d (by decide)) (fQ f.re d (by decide)) (fQ f.rl d (by decide)) (fQ f.rs d (by decide)),l⟩,c.low,c.first.grown g (pS d c.first),zv c.big g.size,c.ne,c.mlow,c.short⟩
theorem gO.nbT(g:gO B tb mp nb M a b ps ls w){d:Nat}(c:nb=some d):∃f,w.heap[d]?=some (.cells f 43):=by
 obtain ⟨vn,ve,vl,vs,F,r,o,S,j,k,q⟩:=g.tm;rw [<-j] at c;obtain ⟨_,⟨rfl,_⟩|⟨p,l,m,rfl,_,i,_⟩⟩:=k.rn
 ·simp [zz] at c
 ·simp [zz] at c;subst c;exact ⟨_,i⟩
theorem gO.pure(c:gO B tb mp nb M a b ps ls w):oX M a b ps ls:=by obtain ⟨vn,ve,vl,vs,F,j,d,S,_,_,i,f,g⟩:=c.tm;exact ⟨F,j,d,S,i,f,g,c.low⟩
theorem gO.nodes(g:gO B tb mp nb M a b ps ls w)(A:M.length<=1000000):∀d∈ls,uD d/\∀n∈d,n.1.size<=140737488355328:=by
 obtain ⟨vn,ve,vl,vs,F,k,y,S,_,D,p,C,m⟩:=g.tm;have q:∀{ps:List Nat} {ls:List (List Nd)},aO (λj d=>aU (aJ (M.map zw)) (λf u=>k f=k u) k [j] d) ps ls->(∀j∈ps,j<M.length)->∀d∈ls,∀n∈d,(aM n=true/\∃f,f<(M.map zw).length/\n=(⟨#[]⟩,(k f:Int)))\/(aM n=false/\n∈M.map zw):=by
  intro ps ls g;induction g with
  |nil=>intro _ d hl;simp at hl
  |cons c _ ih=>
   intro o d hl;rcases List.mem_cons.1 hl with rfl|hl
   ·exact aXq p.whole c (λf i=>by simp at i;subst i;simpa using o _ (by simp))
   ·exact ih (λj r=>o j (by simp [r])) d hl
 intro d hl;refine ⟨λn l t=>?_,λn l=>?_⟩
 ·rcases q m g.low d hl n l with ⟨_,f,i,rfl⟩|⟨e,_⟩
  ·have z:=p.rt_lt (p:=f) (by simpa using i);constructor
   ·simp
   ·simp;omega
  ·rw [t] at e;cases e
 ·rcases q m g.low d hl n l with ⟨_,f,i,rfl⟩|⟨_,e⟩
  ·exact Nat.zero_le _
  ·obtain ⟨x,s,rfl⟩:=zi.1 e;exact g.short x s
end
