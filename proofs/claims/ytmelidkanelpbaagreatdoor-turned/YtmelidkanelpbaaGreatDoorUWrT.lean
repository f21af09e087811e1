import Derived.Test.YtmelidkanelpbaaGreatDoorUSzT
import Derived.Deep.CutRange
open List renaming length_cons→zw,length_append→zt,mem_cons_of_mem→zo,flatten_cons→zn
open Nat renaming le_refl→zx,le_trans→zv
open Or renaming inr→zu
namespace Go.Proofs.YtmelidkanelpbaaGreatDoor
open Value renaming ownBlock→zz,slice→zp
open World renaming block_lt_of_cell?→zy,cell?_setCell_same'→zs,frozen?_of_block→zr,frozen?_setCell→zq,size_alloc→zm
open Go.RowKit Go.Shelf Go.WideMaps
set_option maxHeartbeats 2000000
set_option maxRecDepth 100000
variable{S:List Int}{F:List Nat}{out:List Nd}{xs:List Value}{B n size:Nat}{e:TypeId}{v ve vl vm vn vs:Value}{w:World}
section
attribute [local go_sem] Oper.semAt_some
theorem aBm(d:w.ownsRow B e size v n xs)(f:v.ownBlock≠none):∃a b,v=.slice (some ⟨a,0,none⟩) n b:=by
 obtain ⟨_,⟨rfl,_⟩|⟨a,c,g,rfl,_⟩⟩:=d
 ·exact absurd rfl f
 ·exact ⟨a,c,rfl⟩
theorem aN1(w:World)(b d:Value)(c f:TypeId):∃a,a=(w.alloc (.cells #[b] c)).alloc (.cells #[d] f)/\aB w a/\a.cell? ⟨w.heap.size,0,none⟩=some b/\a.cell? ⟨w.heap.size+1,0,none⟩=some d/\a.frozen? ⟨w.heap.size+1,0,none⟩=false/\a.heap.size=w.heap.size+2:=by
 refine ⟨_,rfl,((Below.refl _ _).alloc (zx _) _).alloc (by simp) _,?_,?_,?_,by simp⟩
 ·exact Below.at' ((Below.refl _ (w.alloc (.cells #[b] c))).alloc (zx _) (.cells #[d] f)) (zx _) (rQ w b c).1
 ·have:=(rQ (w.alloc (.cells #[b] c)) d f).1;rw [zm] at this;exact this
 ·have:=(rQ (w.alloc (.cells #[b] c)) d f).2;rw [zm] at this;exact this
def aN2(b:Exit->Act->World->Prop):Exit->Act->World->Prop
 | .panic _,_,_=>False
 |e,a,w=>b e a w
theorem bBg{d:Code}{c:Exit->Act->World->Prop}{b:Act}(a:d.wp Tryz.prog (aN2 c) b w):d.wp Tryz.prog c b w:=
 Code.wp_mono (λe b w a=>by cases e<;>first|exact a|exact False.elim a) a
theorem aN3{a b:World}{c:Nat}{l m:Value}{g:Obj}(f:(a.drew.alloc g).grownBy b (some c))(r:a.cell? ⟨w.heap.size,0,none⟩=some l)(k:a.cell? ⟨w.heap.size+1,0,none⟩=some m)(s:a.frozen? ⟨w.heap.size+1,0,none⟩=false)(o:w.heap.size≠c)(i:w.heap.size+1≠c):b.cell? ⟨w.heap.size,0,none⟩=some l/\b.cell? ⟨w.heap.size+1,0,none⟩=some m/\b.frozen? ⟨w.heap.size+1,0,none⟩=false:=by
 have d:aB a (a.drew.alloc g):=(aS (w1:=a.drew) ⟨1,rfl⟩).alloc (zx _) g;have q:=aC d r;have j:=aC d k;refine ⟨f.cell q (by simpa using o),f.cell j (by simpa using i),?_⟩;rw [zr (f.block _ (zy _ _ j) (by simpa using i)),d.frozen (p:=⟨w.heap.size+1,0,none⟩) (zy _ _ k)];exact s
theorem bBh{a:Exit->Act->World->Prop}{b:Act}(c:a .normal b w):aN2 a .normal b w:=c
theorem bBi{u a g:World}{k:Nat}{l:List Nd}{i d cv b c:Nat}{t:Nd}{ex:Nat->List Nd}{f:Obj}(H:bL u B k vn ve vl vs vm l F S)(o:bL w B k vn ve vl vs vm l F S)(J:aB w a)(I:u.heap.size<=i)(N:i<=d/\d<w.heap.size)(j:(a.drew.alloc f).grownBy g (some d))(R:a.cell? ⟨w.heap.size,0,none⟩=some (.pointer (some ⟨k,0,none⟩))){U:Value}(s:a.cell? ⟨w.heap.size+1,0,none⟩=some U)(T:a.frozen? ⟨w.heap.size+1,0,none⟩=false)
  (O:g.ownsRow i 117 2 (.slice (some ⟨b,0,none⟩) (out.length+1) c) (out.length+1) (bA (out++[t]))) (m:(zp (some ⟨b,0,none⟩) (out.length+1) c).ownBlock=some d\/(zp (some ⟨b,0,none⟩) (out.length+1) c).ownBlock=some (a.drew.alloc f).heap.size):oB w B k vn ve vl vs vm l F S i (.slice (some ⟨d,0,none⟩) out.length cv) (out++[t]) ex (w.heap.size+1) (w.heap.size+2) [] (g.setCell ⟨w.heap.size+1,0,none⟩ (.slice (some ⟨b,0,none⟩) (out.length+1) c)):=by
 have L:aB a (a.drew.alloc f):=(aS (w1:=a.drew) ⟨1,rfl⟩).alloc (zx _) f;have q:aB w (a.drew.alloc f):=bE J L;obtain ⟨A,C,D,E,G⟩:=H.lts (zv I N.1);have Q:=(o.below q).grown j A (zu C) (zu D) (zu E) (zu G);obtain ⟨x,y,z⟩:=aN3 j R s T (by omega) (by omega);have X:w.heap.size+1<a.heap.size:=zy _ _ s;have Y:=j.size;have P:(a.drew.alloc f).heap.size=a.heap.size+1:=by simp
 have M:b=d\/b=a.heap.size+1:=by simp only [zz,Option.some.injEq] at m;rw [P] at m;exact m
 have r:b≠w.heap.size+1/\b≠w.heap.size:=by omega
 have Z:(g.setCell ⟨w.heap.size+1,0,none⟩ (.slice (some ⟨b,0,none⟩) (out.length+1) c)).heap.size=g.heap.size:=by simp [World.setCell]
 refine ⟨by omega,Q.boxed o (by omega) 0 _,⟨_,zs _ _ _ (by rw [y];rfl),?_,by simp [zz],?_,by simpa [zz] using r.1,by simpa [zz] using r.2,?_⟩,?_,nY (yY q j) (by omega) 0 _,gO x (by omega)⟩
 ·have:=uD O (p:=⟨w.heap.size+1,0,none⟩) (by simp [zz];omega) (.slice (some ⟨b,0,none⟩) (out.length+1) c);simpa using this
 ·rcases M with e|e
  ·exact Or.inl (by simp [zz,e])
  ·exact zu ⟨b,rfl,by omega⟩
 ·intro a0 V W e;simp [zz] at e;omega
 ·rw [zq];exact z
theorem bBj(c:w.ownsRow B e size v n xs)(d:v.ownBlock≠none):∃b f a,v=.slice (some ⟨b,0,none⟩) f a:=by obtain ⟨b,a,c⟩:=aBm c d;exact ⟨b,_,a,c⟩
theorem bBk{a:List Nat}{ex:Nat->List Nd}(d:∀c∈a,1<=(ex c).length):a.length<=((a.map ex).flatten).length/\∀b∈a,(ex b).length+a.length<=((a.map ex).flatten).length+1:=by
 induction a with
 |nil=>simp
 |cons c a ih=>
  obtain ⟨j,f⟩:=ih (λi g=>d i (zo _ g));have k:=d c (by simp);simp only [List.map_cons,zn,zt,zw];refine ⟨by omega,λb hx=>?_⟩;rcases List.mem_cons.1 hx with rfl|hx
  ·omega
  ·have:=f b hx;omega
theorem bBl{pre:List Nat}{ex:Nat->List Nd}{M:Nat}(b:∀a∈pre,(ex a).length<=M):((pre.map ex).flatten).length<=pre.length*M:=by
 induction pre with
 |nil=>simp
 |cons a C ih=>
  have f:=ih (λd c=>b d (zo _ c));have g:=b a (by simp);simp only [List.map_cons,zn,zt,zw,Nat.add_mul];omega
theorem bBm{j k M e:Nat}(c:j<k)(d:k+M=n)(a:e<=M):1+j*M+e*e<=n*n:=by
 subst d;have f:e*e<=M*M:=Nat.mul_le_mul a a;have g:j*M<=k*M:=Nat.mul_le_mul_right _ (Nat.le_of_lt c);have i:0<k*k:=Nat.mul_pos (by omega) (by omega);have b:(k+M)*(k+M)=k*k+k*M+(k*M+M*M):=by rw [Nat.add_mul,Nat.mul_add,Nat.mul_add,Nat.mul_comm M k]
 rw [b];omega
theorem oB.boxes{d c:World}{m:Nat}{i:List Nd}{g:Nat}{j:Nat->List Nd}{f o:Nat}(b:oB w B m vn ve vl vs vm i F S g v out j f o [] d)(a:aB d c)(z:c.heap.size=d.heap.size+2):oB w B m vn ve vl vs vm i F S g v out j f c.heap.size [] c:=by
 obtain ⟨x,k,l,q,r,s,t,y⟩:=b.st;refine ⟨zx _,b.tm.below a,⟨x,aC a k,bJ l a (zx _),q,r,s,t,?_⟩,(a.frozen (p:=⟨f,0,none⟩) (zy _ _ k)).trans b.nf,aJ4 b.far (jW.refl _ _) ?_,aC a b.x0⟩
 ·intro u A C e;have:=(cO l u e).2;omega
 ·exact gM a
theorem oB.next{f W':World}{q:Nat}{l:List Nd}{r:Nat}{c:Nat->List Nd}{a g x:Nat}{j:List Nat}(D:bL w B q vn ve vl vs vm l F S)(i:oB w B q vn ve vl vs vm l F S r v out c a g j f)(P:w.heap.size<a)(N:a<g){b n m:Nat}{v2:Value}(t:f.cell? ⟨a,0,none⟩=some (.slice (some ⟨b,0,none⟩) n m))(A:jW w v (.slice (some ⟨b,0,none⟩) n m))(L:b≠a)(M:b≠w.heap.size)(E:∀k,g<=k+2->k<g->b≠k)
  (d:aMp f B q vn ve vl vs vm l F S r (.slice (some ⟨b,0,none⟩) n m) (out++(j.map c).flatten++c x) v2 W'):oB w B q vn ve vl vs vm l F S r v out c a g (j++[x]) (W'.setCell ⟨a,0,none⟩ v2)/\W'.cell? ⟨a,0,none⟩=some (.slice (some ⟨b,0,none⟩) n m)/\W'.frozen? ⟨a,0,none⟩=false:=by
 have o:f.grownBy W' (some b):=d.far;have R:=o.size;have O:=i.big;have u:=o.cell t (by simp;omega);have y:W'.frozen? ⟨a,0,none⟩=false:=(zr (o.block a (zy f ⟨a,0,none⟩ t) (by simp;omega))).trans i.nf;have s:v2.ownBlock=some b\/∃k,v2.ownBlock=some k/\f.heap.size<=k:=d.moved;have Q:(W'.setCell ⟨a,0,none⟩ v2).heap.size=W'.heap.size:=by simp [World.setCell]
 have C:v2.ownBlock≠some a:=by rcases s with e|⟨k,e,z⟩<;>rw [e]<;>simp<;>omega
 have G:v2.ownBlock≠some w.heap.size:=by rcases s with e|⟨k,e,z⟩<;>rw [e]<;>simp<;>omega
 have H:=i.far.size;refine ⟨⟨by omega,d.tm.boxed D (by omega) 0 _,⟨v2,zs _ _ _ (by rw [u];rfl),?_,d.some,A.trans d.moved H,C,G,?_⟩,?_,nY (aJ4 i.far A d.far) (by omega) 0 _,gO (o.cell i.x0 (by simp;omega)) (by omega)⟩,u,y⟩
 ·have:=uD d.row (p:=⟨a,0,none⟩) (λe=>C e.symm) v2;have e:out++((j++[x]).map c).flatten=out++(j.map c).flatten++c x:=by simp
  rw [e];exact this
 ·intro k I J;rcases s with e|⟨T,e,z⟩<;>rw [e]<;>simp
  ·exact E k I J
  ·omega
 ·rw [zq];exact y
theorem bBn(B m:Nat)(vn ve vl vs vm:Value)(b:List Nd)(F:List Nat)(S:List Int)(c g0:Nat->Nat)(g5:eT b)(a3:gE F c g0)(g6:kS b c)(g3:eA (aG b) (λL j=>c L=c j) λ_ _=>False)(k2:World)(h0:bL k2 B m vn ve vl vs vm b F S)(C:Nat)(g2:k2.heap.size<=C):∀(c8:Nat) (r:Nat) (q out:List Nd) (v:Value) (w:World),q.length<c8->aW (aG b) (λL j=>c L=c j) c [r] q->bL w B m vn ve vl vs vm b F S->w.ownsRow C 117 2 v out.length (bA out)->v.ownBlock≠none->C<=w.heap.size->out.length+q.length*q.length<=1000000->r<b.length->
  Calls Tryz.prog 139 #[.pointer (some ⟨m,0,none⟩),v,.int .i64 r] w λe e8=>∃V,e=.returned V/\aMp w B m vn ve vl vs vm b F S C v (out++q) V e8:=by
 obtain ⟨c1,g7⟩:=aMh g3 (rK c);intro c8;induction c8 with
 |zero=>intro r q out v w e1;omega
 |succ c8 ih=>
  intro r q out v w e1 c2 x c5 j5 r1 e4 h1;have o5:out.length+q.length<=1000000:=zv (Nat.add_le_add_left (Nat.le_mul_self _) _) e4;have m0:=aA e4;clear e4;obtain ⟨I,b9,rfl⟩:=aBm c5 j5;have h6:=cO c5 I rfl;obtain ⟨k3,j6,a4,q5,e9,n2,s0⟩:=aN1 w (.pointer (some ⟨m,0,none⟩)) (.slice (some ⟨I,0,none⟩) out.length b9) 153 84;have b3:=aA (aDw B m vn ve vl vs vm b F S c g0 r k3 (x.below a4) a3 h1);have j1:c r<b.length:=by rw [<-x.lf];exact a3.rt_lt (by rw [x.lf];exact h1)
  have e3:=a3.rt_rt r;obtain ⟨q0,J⟩ : ∃n,b[c r]?=some n:=⟨b[c r],List.getElem?_eq_getElem j1⟩;obtain ⟨g1,f9,rfl,d4,d5⟩:=(x.below a4).node J;have m6:=(x.below a4).c0;have o2:=x.few;have b8:=aA x;have Y:=aA a4;have f7:=aA c2;have f4:=aA c5;have b4:=aA c1;have b6:=aA g7;have l4:=aA g6;have q7:=aA a3;have m2:=aA ih;have l1:=aA e1;obtain ⟨g,o⟩:=q0;simp only at d4 d5;obtain ⟨d,a9⟩ : ∃d,d=c r:=⟨_,rfl⟩;rw [<-a9] at j1 e3 J d4 d5 b3;have d2:=aA a9;have d1:=aA e3;have b7:=aA J;have r8:(d:Int)<(b.length:Int):=by omega
  have W:=aA (λb2=>pL g o b2);clear x a4 c2 c5 j5 c1 g7 g6 a3 ih e1 a9 e3 J g3;refine (callsIn_wide (n:=3)).1 ?_;refine callsIn_of_wp_marks Tryz.func139 rfl trivial ?_;simp only [Tryz.ntmps139,List.size_toArray,zw,List.length_nil,Nat.reduceAdd,Nat.reduceSub,Array.replicate_succ,Array.replicate_zero,List.push_toArray,List.append_toArray,List.nil_append,List.cons_append];refine wpIn_wide.2 ?_;by_cases c6:g.toList.isEmpty=true
  ·rw [c6] at W;have c7:aL (g,o)=true:=c6;have a7:∀j,c d=c j->¬(aG b).named j:=by
    intro j e d8;have:=l4.o j d8;rw [<-e,d1.o,fL b7.o,c7] at this;cases this
   have e0:q=[(⟨#[]⟩,(d:Int))]:=by have a2:aW (aG b) (λL j=>c L=c j) c [r] [(⟨#[]⟩,((c r:Nat):Int))]:=aW.var (λj e d8=>a7 j (by rw [d1.o,d2.o];exact e) d8) aW.nil;have c0:=f7.o.one b4.o b6.o (vY b) (λ_ _ e=>e) _ a2;rw [c0,d2.o]
   subst e0;have k6:=aA (λ(k:World) (l:aB k3 k)=>aMo (k.alloc (.cells #[.string ⟨#[]⟩,.int .i64 d] 117)) 84 C _ out ((bJ (bJ f4.o Y.o (zx _)) l (zx _)).alloc _) (by simp [zz]) (by omega) (by have:=Y.o.size;have:=l.size;simp;omega) k.heap.size 1 (⟨#[]⟩,(d:Int)) (aAl _ _ _ _).1 (aAl _ _ _ _).2);subst j6;clear a7 c7;go_wp2_with (first
    |(go_at_call 137;refine (aD b3).mono ?_;rintro e e8 ⟨rfl,rfl⟩)
    |(go_at_call 67;refine (aD W _).mono ?_;rintro e k ⟨rfl,l⟩;have O:=aC l e9;have Q:=aA l;obtain ⟨c9,H,j0,a8,a5,b1⟩:=k6.o k l;have l9:=aA j0;have l7:=aA a8;have f1:=aA a5;have f6:=aA b1;clear l j0 a8 a5 b1)
    |(at_builtin;refine Go.Lib.wpList_append_run _ rfl _ _ _ _ rfl _ _ rfl rfl _ _ (aD l9) ?_)
    |go_in)
   refine uP (v:=c9) rfl (by simp [results,Tryz.results139,go_sem]) ?_;have d7:aB w (k.alloc (.cells #[.string ⟨#[]⟩,.int .i64 d] 117)):=(bE Y.o Q.o).alloc (zv Y.o.size Q.o.size) _;obtain ⟨m7,m8,m9,n0,n1⟩:=h0.lts (zv g2 h6.1);exact ⟨c9,rfl,⟨(b8.o.below d7).grown f1.o m7 (zu m8) (zu m9) (zu n0) (zu n1),by simpa using l7.o,by rcases f6.o with e|e<;>rw [e]<;>simp [zz],yY d7 f1.o,by
    rcases f6.o with e|e
    ·exact Or.inl e
    ·exact zu ⟨_,e,d7.size⟩⟩⟩
  ·have c7:aL (g,o)=false:=by simpa [aL] using c6
   rw [show g.toList.isEmpty=false by simpa using c6] at W;have e2:(aG b).named d:=by rw [fL b7.o];exact c7
   have j2:c r=c d:=by rw [d1.o,d2.o]
   obtain ⟨u,o4,g9⟩ : ∃u,q=(g,o)::u/\aW (aG b) (λL j=>c L=c j) c ((aG b).ch d) u:=by
    have c2:=f7.o;cases c2 with
    |var a2 _=>exact absurd e2 (a2 d j2)
    |@name _ j _ u a2 c0 h3=>
     have h7:c j=c d:=a2.symm.trans j2;refine ⟨u,by rw [b6.o j d h7 c0 e2,pI b7.o],?_⟩;rw [List.append_nil] at h3;exact h3.same b4.o (λ_ _ e=>e) _ (aDo b4.o b6.o (vY b) h7 c0 e2)
   subst o4;have r7:out.length+(u.length+1)<=1000000:=by simpa using o5
   obtain ⟨z,d6⟩ : ∃z,(aG b).ch d=z:=⟨_,rfl⟩;rw [d6] at g9;obtain ⟨A,h4,o1,h5⟩:=bB3 b4.o b6.o (vY b) (λ_ _ e=>e) g9;obtain ⟨E,f8,rfl,_⟩:=b8.o.ends (by omega);subst j6;go_upto_region 4 with (first
    |(go_at_call 137;refine (aD b3).mono ?_;rintro e e8 ⟨rfl,rfl⟩)
    |(go_at_call 67;refine (aD W _).mono ?_;rintro e k ⟨rfl,l⟩;have e6:=aC l q5;have O:=aC l e9;have j8:=(l.frozen (p:=⟨w.heap.size+1,0,none⟩) (zy _ _ e9)).trans n2;have s3:=aC l d4;have s4:=aC l d5;have s5:=aC l m6;have Q:=aA (bE Y.o l);clear l)
    |go_in)
   have p2:=Q.o.size;have r3:w.heap.size+1<k.heap.size:=zy _ _ O;have f5:=aA (bJ f4.o (Q.o.trans ((aS (w1:=k.drew) ⟨1,rfl⟩).mono p2)) (zx _));have b5:=aA (λ(H:World) (T:(k.drew.alloc (.cells #[.string g,.int .i64 o] 117)).grownBy H (some I))=>aN3 T e6 O j8 (by omega) (by omega));have p6:=λZ=>aC ((Below.refl k.heap.size k).alloc (zx _) Z) O
   have p7:=λZ=>aC ((Below.refl k.heap.size k).alloc (zx _) Z) e6
   have r9:(0:Int)<=(d:Int):=Int.natCast_nonneg _;have f3:=aA (λ(H:World) (a1 a0:Nat) (T:(k.drew.alloc (.cells #[.string g,.int .i64 o] 117)).grownBy H (some I)) (o7:H.ownsRow C 117 2 (.slice (some ⟨a1,0,none⟩) (out.length+1) a0) (out.length+1) (bA (out++[(g,o)]))) (p1:(zp (some ⟨a1,0,none⟩) (out.length+1) a0).ownBlock=some I\/(zp (some ⟨a1,0,none⟩) (out.length+1) a0).ownBlock=some (k.drew.alloc (.cells #[.string g,.int .i64 o] 117)).heap.size)=>bBi (cv:=b9) (ex:=A) h0 b8.o Q.o g2 h6 T e6 O j8 o7 p1);go_cut [24] from 24 to 33 (λk0 b2=>k0=k0/\oB w B m (.slice (some ⟨g1,0,none⟩) b.length f9) (.slice (some ⟨E,0,none⟩) b.length f8) vl vs vm b F S C (.slice (some ⟨I,0,none⟩) out.length b9) (out++[(g,o)]) A (w.heap.size+1) (w.heap.size+2) [] b2)
   case first=>
    refine bBg ?_;go_region_law (refine bB2 (by rfl) _ _ (by rfl) C _ out (by rfl) (f5.o.alloc _) (by simp [zz]) (by omega) (by simp;omega) k.heap.size 1 (g,o) (by rfl) (aAl _ _ _ _).1 (aAl _ _ _ _).2 ?_;intro c9 H a8 a5 b1;have p0:c9.ownBlock≠none:=(by rcases b1 with e|e<;>rw [e]<;>simp [zz]);obtain ⟨a1,a0,rfl⟩:=aBm a8 p0;obtain ⟨q8,q9,r0⟩:=b5.o H a5);all_goals
     refine bBh ?_;go_wp2_with fail;go_meet;case rel=>exact ⟨by first|rfl|trivial,f3.o H a1 a0 a5 a8 b1⟩
   case rest=>
    obtain ⟨_,c3⟩:=hcut;have f0:=aA (λb2=>aF5 m d b2);have q6:=c3.x0;have l3:=aA c3;have s2:=c3.big;clear c3 b3 W f3 b5 f5 p6 p7;have p9:=λZ=>aC ((Below.refl wc.heap.size wc).alloc (zx _) Z) q6
    go_wp2_with (first
     |(go_at_call 138;refine (aD f0 _).mono ?_;rintro e s9 ⟨rfl,rfl⟩)
     |go_in)
    clear p9 f0;obtain ⟨P,j7,n9,q2,q1,_,o9⟩:=aN1 wc (.pointer (some ⟨m,0,none⟩)) (.int .i64 d) 153 3;rw [<-j7];clear j7;have g4:=l3.o.boxes n9 o9;have n5:lR P (wc.heap.size+1) wc.heap.size m E b d:=lR.of g4.tm (by omega) q1 q2;have s1:=(Array.getElem?_eq_some_iff.1 h0.box).1;have r6:=(cO h0.re E rfl).2;have i1:∀f∈[wc.heap.size+1,wc.heap.size,m,E],f<P.heap.size:=by intro f t;simp at t;rcases t with rfl|rfl|rfl|rfl<;>omega
    have J:=b7.o;refine (wpIn_wide (n:=3)).1 ?_;refine wpIn_rangeFunc_ownG rfl (by omega) (gf:=144) (lb:=#[.pointer (some ⟨wc.heap.size+1,0,none⟩),.pointer (some ⟨wc.heap.size,0,none⟩)]) rfl trivial (enters_of Tryz.func144 (by kernel_rfl) rfl)
     (encs:=λa:oJ z=>#[.int .i64 (a.1:Nat)]) (Kp:=jA [wc.heap.size+1,wc.heap.size,m,E]) (S:=λxs=>xs.map (λa=>a.1)=z) (Sp:=λy=>y.map (λa=>a.1) <+: z) (N:=z.length) (w0:=P)
     (λq m3 m4 i n7 n6 r2 n8 h0=>by
      have:=aD7 2 q (wc.heap.size+1) wc.heap.size m E b d (g,o) z d6 (by omega) g5 o2 J m3 m4 _ n6 n8 i (n5.kept (aF7 n7 i1)) h0;simpa using this)
     (λx f=>x.trans f) (jA.put i1) (Below.refl _ _) (λ_=>rfl)
     (λy i=>oB w B m (.slice (some ⟨g1,0,none⟩) b.length f9) (.slice (some ⟨E,0,none⟩) b.length f8) vl vs vm b F S C (.slice (some ⟨I,0,none⟩) out.length b9) (out++[(g,o)]) A (w.heap.size+1) P.heap.size (y.map λa=>a.1) i)
     (λd3 y i=>False)
     (oB.own (by omega)) (λd3=>by intro _ _ _ _ x;cases x) ?h0 ?a1 ?assign ?body ?done ?stop
    case h0=>exact g4
    case assign=>
     intro q a i K hK;gi_wp2
     exact hK
    case body=>
     rintro q y a i s o6;obtain ⟨V,h2,G,b0,a6,i5,i7,i9⟩:=s.st;have p4:a.1<b.length:=aF9 g5 J a.1 (by rw [d6];exact a.2);obtain ⟨R,d3,rfl⟩:=aBm G b0;have p3:=o1 a.1 a.2;have i4:∀d0∈z,1<=(A d0).length:=λd0 e5=>(h4 d0 e5).pos
     have j3:(out++[(g,o)]++((y.map λa=>a.1).map A).flatten).length+(A a.1).length*(A a.1).length<=1000000:=by
      obtain ⟨q3,e7⟩:=bBk i4;rw [h5] at q3 e7;have q4:=bBl (pre:=y.map λa=>a.1) (ex:=A) (M:=u.length+1-z.length) (λd0 e5=>by
       obtain ⟨k4,_,rfl⟩:=List.mem_map.1 e5;have:=e7 k4.1 k4.2;omega)
      rw [List.length_map] at q4;have s6:=e7 a.1 a.2;have s7:=bBm (j:=y.length) (k:=z.length) (M:=u.length+1-z.length) (e:=(A a.1).length) (n:=u.length+1) o6 (by omega) (by omega);have s8:out.length+(u.length+1)*(u.length+1)<=1000000:=by simpa using m0.o
      simp only [zt,zw,List.length_nil];omega
     have n4:C<=i.heap.size:=by have:=s.far.size;omega
     have k5:=aA (m2.o a.1 (A a.1) _ _ i (by have:=l1.o;simp at this;omega) (h4 a.1 a.2) s.tm G b0 n4 j3 p4);have o3:=cO G R rfl;have r4:=s.big;have i6:R≠w.heap.size+1:=by simpa [zz] using i5
     have i8:R≠w.heap.size:=by simpa [zz] using i7
     have c4:∀f,P.heap.size<=f+2->f<P.heap.size->R≠f:=λf O p5=>by simpa [zz] using i9 f O p5
     have d9:∀f∈[wc.heap.size+1,wc.heap.size,m,E],f<i.heap.size/\f≠R:=by
      intro f t;simp at t;rcases t with rfl|rfl|rfl|rfl
      ·exact ⟨by omega,(c4 _ (by omega) (by omega)).symm⟩
      ·exact ⟨by omega,(c4 _ (by omega) (by omega)).symm⟩
      ·exact ⟨by omega,by omega⟩
      ·exact ⟨by omega,by omega⟩
     have h9:∀f∈[wc.heap.size+1,wc.heap.size,m,E],f≠w.heap.size+1:=by intro f t;simp at t;rcases t with rfl|rfl|rfl|rfl<;>omega
     have l6:=aA (λ(D:World) (k1:Value) a9=>oB.next (x:=a.1) (W':=D) (v2:=k1) b8.o s (by omega) (by omega) h2 a6 i6 i8 c4 a9);have k9:=aA (λ(D:World) (T:i.grownBy D (some R))=>And.intro (yX P.heap.size T (yF G rfl)) (aFa T d9));have l0:=aA (λ(D:World) (o8:i.heap.size<=D.heap.size) (v:Value) (f:Nat) t=>(cM D ⟨w.heap.size+1,0,none⟩ v).block f (Nat.lt_of_lt_of_le (d9 f t).1 o8) (by simpa using h9 f t));have t0:=s.x0;clear s G b0 a6 i5 i7 i9 j3 i4 p3 d9 h9 i6 i8 c4 o3;generalize (out++[(g,o)]++((y.map λa=>a.1).map A).flatten).length=n at *;gi_wp2_with (first
      |(refine ⟨trivial,?_⟩;gi_at_call 139;refine (CallsIn.inRound q (callsIn_wide.2 (aD k5))).mono ?_;rintro e D ⟨k1,rfl,U⟩;obtain ⟨n3,p8,m5,rfl⟩:=bBj U.row U.some;obtain ⟨i2,o0,r5⟩:=l6.o D _ U;obtain ⟨h8,i0⟩:=k9.o D U.far;have j4:=l0.o D U.far.size (.slice (some ⟨n3,0,none⟩) p8 m5);have l5:=aA i2;have k8:=aA h8;have b5:=aA i0;have m1:=aA j4;clear i2 h8 i0 j4 U)
      |fail)
     refine ⟨k8.o.trans (tE _ o0 _),b5.o.trans (λf t=>m1.o f t),?_⟩;have a7:=l5.o;rw [show (y.map λa=>a.1)++[a.1]=(y++[a]).map λa=>a.1 by simp] at a7;exact a7
    case done=>
     rintro X t1 i c1 g8 s hK;obtain ⟨V,h2,G,b0,a6,_⟩:=s.st;rw [g8,h5] at G;have f2:=aA s;have l8:=aA G;have k7:=aA hK;have l2:=aA a6;clear s G hK a6;go_wp2;have hK:=k7.o;refine ⟨by simp,.inl ⟨_,_,rfl,run_takeDeferred hK,?_⟩⟩;refine ⟨V,by simp [results,Tryz.results139,go_sem],?_⟩;have i3:∀d,(some X:Option Nat)=some d->∃j9:Obj,i.heap[d]?=some j9/\j9.isCells=false:=λd e=>by cases e;exact ⟨_,hK,rfl⟩
     have e0:out++(g,o)::u=out++[(g,o)]++u:=by simp
     refine ⟨V,rfl,⟨f2.o.tm.others (grownBy_putObj' i X (.deferred none)) i3,by rw [e0];exact aMq l8.o (grownBy_putObj' i X (.deferred none)) i3,b0,oT f2.o.far (grownBy_putObj' i X (.deferred none)) (λd e=>by cases e;omega),l2.o⟩⟩
    case stop=>
     rintro X d3 y i c1 g8 s hK;cases s
end
section
attribute [local go_sem] Oper.semAt_some
theorem bBo{a:Nat}(g:w.ownsRow a e size v n xs)(j:B<=a):w.ownsRow B e size v n xs:=by
 obtain ⟨b,⟨rfl,i⟩|⟨f,c,d,rfl,k,l⟩⟩:=g
 ·exact ⟨b,Or.inl ⟨rfl,i⟩⟩
 ·exact ⟨b,zu ⟨f,c,d,rfl,zv j k,l⟩⟩
structure bBp(w:World)(B tb:Nat)(vn ve vl vs vm:Value)(L:List Nd)(F:List Nat)(S:List Int)(rt:Nat->Nat)(a:Nat)(v:Value)(b:Bool)(w':World)(S':List Int):Prop where
 tm:bL w' B tb vn ve vl vs vm L F S'
 far:w.grownBy w' vs.ownBlock
 keep:cE (aG L) (λi j=>rt i=rt j) a->rR L rt S'/\∀p:Nat,S'[p]?=some (-1)↔S[p]?=some (-1)
 yes:b=true->cE (aG L) (λi j=>rt i=rt j) a/\v.ownBlock≠none/\∃l,aW (aG L) (λi j=>rt i=rt j) rt [a] l/\l.length<=500/\w'.ownsRow w.heap.size 117 2 v l.length (bA l)
 no:b=false->v=.slice none 0 0/\(¬cE (aG L) (λi j=>rt i=rt j) a\/∃l,aW (aG L) (λi j=>rt i=rt j) rt [a] l/\500<l.length)
theorem bBq(B m:Nat)(vn ve vl vs vm:Value)(b:List Nd)(F:List Nat)(c x:Nat->Nat)(O:eT b)(A:gE F c x)(k:kS b c)(z:eA (aG b) (λE G=>c E=c G) λ_ _=>False)(S:List Int)(g:Nat)(w:World)(y:bL w B m vn ve vl vs vm b F S)(Q:rR b c S)(P:∀t:Nat,S[t]?=some (-1)->fG (aG b) (λE G=>c E=c G) t g)(R:g<b.length):Calls Tryz.prog 122 #[.pointer (some ⟨m,0,none⟩),.int .i64 g] w λe b6=>∃v q a8,e=.returned (.tuple #[v,.bool q])/\bBp w B m vn ve vl vs vm b F S c g v q b6 a8:=by
 have H:=aA (aMn B m vn ve vl vs vm b F c x O A k z (lH S+1) S g w (by omega) y Q P R);have a1:=aA z;have a2:=aA A;have a4:=aA k;have b8:=aA y.rs;clear y Q P z A k;obtain ⟨b5,k,a9,b0,b1⟩:=info_parts sF;go_enter Tryz.func122,Tryz.ntmps122;go_upto_region 2 with (first
  |(go_at_call 119;refine (aD H).mono ?_;rintro e f ⟨n,q,p,rfl,i⟩)
  |go_in)
 clear H;cases q with
 |false=>
  obtain ⟨rfl,T⟩:=i.no rfl;have d:=aA i;clear i;go_wp2;go_ret2;refine ⟨.slice none 0 0,false,p,rfl,⟨d.o.tm,d.o.far,λe=>absurd e T,λe=>(by cases e),λ_=>⟨rfl,Or.inl T⟩⟩⟩
 |true=>
  obtain ⟨V,W,X,a,Y,Z⟩:=i.yes rfl;obtain ⟨j,C⟩ : ∃j,j=min 501 a.length:=⟨_,rfl⟩;rw [<-C] at Z;subst Z;have d:=aA i;have J:=aA V;have L:=aA W;have a3:=aA X;have u:=aA Y;have M:=aA C;clear i V W X Y C;by_cases b9:500<j
  ·have b2:(500:Int)<(j:Int):=by omega
   go_wp2;go_ret2;refine ⟨.slice none 0 0,false,p,rfl,⟨d.o.tm,d.o.far,λ_=>⟨J.o,L.o⟩,λe=>(by cases e),λ_=>⟨rfl,zu ⟨a,u.o,by have:=M.o;omega⟩⟩⟩⟩
  ·have b2:¬(500:Int)<(j:Int):=by omega
   have b3:j=a.length:=by have:=M.o;omega
   subst b3;have D:a.length<=500:=by omega
   have a7:=aA (λ(o:World) (r:o.ownsRow f.heap.size 117 2 (.slice (some ⟨f.heap.size,0,none⟩) 0 a.length) 0 []) (l:f.grownBy o none)=>bBn B m vn ve vl vs vm b F p c x O a2.o a4.o a1.o f d.o.tm f.heap.size (zx _) (a.length+1) g a [] _ o (by omega) u.o (d.o.tm.grown l (by simp) (by cases vn.ownBlock<;>simp) (by cases ve.ownBlock<;>simp) (by cases vl.ownBlock<;>simp) (by cases vs.ownBlock<;>simp)) r (by simp [zz]) l.size (by have:=Nat.mul_le_mul D D;simp;omega) R);go_wp2_with (first
    |(at_make;refine wpList_make_own _ rfl _ _ 84 rfl f.heap.size 117 b5 (.agg #[.string ⟨#[]⟩,.int .i64 0]) 2 Tryz.underlying84 k a9 b0 .i64 .i64 _ a.length rfl rfl rfl (by rw [b1];omega) (by unfold maxLen;omega) (zx _) ?_;intro o r l;have a5:=aA r;have I:=aA l;clear r l)
    |(go_at_call 139;refine (aD a7 o a5.o I.o).mono ?_;rintro e b7 ⟨a0,rfl,U⟩;have a6:=aA U;clear U)
    |go_in)
   go_ret2;have s:=a6.o;have b4:b7.ownsRow f.heap.size 117 2 a0 a.length (bA a):=by simpa using s.row
   refine ⟨a0,true,p,rfl,⟨s.tm,?_,λ_=>⟨J.o,L.o⟩,λ_=>⟨a3.o,s.some,a,u.o,D,?_⟩,λe=>(by cases e)⟩⟩
   ·have N:=d.o.far;exact oT (oT N I.o (λt e=>by cases e)) s.far (λt e=>by simp [zz] at e;have:=N.size;omega)
   ·exact bBo b4 d.o.far.size
end
