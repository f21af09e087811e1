import Derived.Test.YtenobhkjiebhaaaGreatDoorGnR2S18
open Bool renaming true->zt,false->zn
open List renaming length->V,getElem_mem->zs,map_append->zm,take_of_length_le->zl,length_append->zi,eq_nil_of_length_eq_zero->ze,append_assoc->zd,take_succ_eq_append_getElem->zb,zipWith->za,map_congr_left->z2,length_map->z3,drop_eq_getElem_cons->z5,getElem?_eq_getElem->z6,map_map->z8,map_cons->yx,mem_of_mem_take->yw,mem_or_eq_of_mem_set->yt,getElem_append_right->yr,map->yp,range->yo,take_append_drop->yn,mem_of_mem_drop->ym,getElem_of_mem->yj,mem_map_of_mem->yi,map_nil->yf,getElem?_map->ye,map_toArray->yd
open Nat renaming le_refl->zr,le_trans->zf,zero_le->z4,lt_of_lt_of_le->yv,add_assoc->yq
open Option renaming some->zx,none->zq
open Or renaming inl->z9,inr->yz
open Prod renaming snd->zp,fst->zo
namespace Go.Proofs.YtenobhkjiebhaaaGreatDoor
open Go renaming Value->U,World->zv
open _root_.Go.Proofs.Tryz renaming prog->zg,underlying24->yy,underlying140->yu,results77->yk,underlying50->yg
open Value renaming ownBlock->zy
open World renaming ownsRow->zu,ownsRow_nil->zk,cell?->zj,setCell->zh,grownBy->zc,block_lt_of_cell?->z7
open Go.RowKit Go.Shelf Go.WideMaps
set_option maxHeartbeats 8000000
set_option maxRecDepth 100000
variable{up:Int}{d:List Lt}{ks:List Nat}{r:List Nd}{xs:List U}{B k n tp:Nat}{nd:Nd}{P Q:Tb}{e:TypeId}{w w':zv}{v:U}
theorem aNz(g i:Option Addr)(o j:Nat)(b a:List Nd)(m:U)(c:bK)(w:zv)(s:dI w g b)(t:dI w i a)(y:V a<=j)(A:aP b 1=zt)(C:aP a 1=zt)(p:V b<=60)(q:V a<=60)(u:gQ c)(x:nH w m c)(D:dD b a c=zq):∀f,(∃n,f=w.drewN n)->Calls zg 112 #[.slice g (V b) o,.slice i (V a) j,m] f λe w'=>∃z,e=.returned (.tuple #[z,.bool zn])/\aB w w':=by
 intro f l;refine(aK4 g i o j b a m c f (s.drawn l) (t.drawn l) y A C p q u (x.below (aN l))).mono ?_;grind[uU,nH,aK3,dD,aP]
theorem aO0(g i:Option Addr)(q j:Nat)(b a:List Nd)(m:U)(c p:bK)(w:zv)(u:dI w g b)(x:dI w i a)(A:V a<=j)(C:aP b 1=zt)(D:aP a 1=zt)(s:V b<=60)(t:V a<=60)(y:gQ c)(z:nH w m c)(F:dD b a c=zx p):∀f,(∃n,f=w.drewN n)->Calls zg 112 #[.slice g (V b) q,.slice i (V a) j,m] f λe w'=>∃o,e=.returned (.tuple #[o,.bool zt])/\nH w' o p/\aB w w':=by
 intro f l;refine(aK4 g i q j b a m c f (u.drawn l) (x.drawn l) A C D s t y (z.below (aN l))).mono ?_;rintro e w' ⟨o,r,rfl,G,H,E⟩;grind[uU]
def sM(d:List Lt)(c:Lt)(a:bK)(n:Nat):Prop:=0<n↔∃f∈d,∃b,fQ c f a=zx b
theorem sM.no{b c:Lt}{a:bK}(f:sM d b a n)(g:fQ b c a=zq):sM (d++[c]) b a n:=by grind[sM,List.mem_append_left]
theorem sM.yes{f a:Lt}{b c:bK}(g:fQ f a b=zx c):sM (d++[a]) f b (n+1):=
 ⟨λ_=>⟨a,by simp,c,g⟩,λ_=>by omega⟩
theorem bAe(B:Nat)(b1:Option Addr)(c6:Nat)(d:List Lt)(f:Bool)(i:Option Addr)(j:Nat)(b:List Nd)(N:U)(g:bK)(w:zv)(T:eC w B b1 d)(o:dI w i b)(b6:aP b 1=zt)(b8:V b<=60)(b4:kP d)(b2:gQ g)(m:nH w N g):Calls zg 111 #[.agg #[.bool f,.slice i (V b) j],.slice b1 (V d) c6,N] w λe w'=>∃n:Nat,e=.returned (iQ n)/\n<=8/\sM d (f,b) g n/\aB w w':=by
 have F:aB w (w.alloc (.cells #[.bool f,.slice i (V b) j] 55)):=aI _ _;have b3:=vA w (.bool f) (.slice i (V b) j) 55;have c1:=O (T.fr (Fr.of_below F));have c4:=O (o.below F (zr _));have c3:=O (m.below F);have c2:=O b4;have a6:=O b2;have a5:=O b3;have c0:=O F;have d4:=T.few;clear T o m b4 b2 F b3;go_enter Tryz.func111,Tryz.ntmps111;go_wp2;generalize hW:w.alloc (.cells #[.bool f,.slice i (V b) j] 55)=W at *;clear hW;go_loopw[7,8] (λc5 a1 wr=>∃k n:Nat,k<=V d/\n<=k/\a1=iQ k/\c5=iQ n/\sM (d.take k) (f,b) g n/\aB W wr) (λ_ a1 _=>V d-(intOf a1).toNat);exact⟨0,0,z4 _,z4 _,rfl,rfl,⟨λc7=>absurd c7 (Nat.lt_irrefl 0),λ⟨b9,d2,_⟩=>absurd d2 (by simp)⟩,dP⟩;obtain⟨k,n,d5,d7,rfl,rfl,p,c⟩:=hrel;by_cases b5:k<V d
 .obtain⟨S,a2,G,H,rfl,a0,L,M,y,s⟩:=(c1.o.fr (Fr.of_below c)).cell k b5;obtain⟨t,x⟩:=c2.o d[k] (zs _);have q:d.take (k+1)=d.take k++[d[k]]:=zb b5;have d6:(k:Int)<(V d:Int):=by omega
  generalize d[k]=b9 at *;obtain⟨A,l⟩:=b9;simp only at L M t x s y;have a3:=aC c a5.o.1;have a4:=aC c a5.o.2;have o:=c4.o.below c (zr _);have m:=c3.o.below c;have R:=O q;have J:=O p;have C:=O c;have X:=c.size;cases hmg:dD b l g with
  |none=>
   have I:=O (aNz i G j H b l N g wr o s.nodes y b6 t b8 x a6.o m hmg);have E:aE (fQ (f,b) (A,l) g=zq):=O (by unfold fQ;split<;>simp[hmg]);clear hmg o m s a0 y t x q p c;go_wp2_with fail;go_region_held3 (λw'=>cQ w' w.heap.size 1 (.slice i (V b) j)/\cQ w' S (a2+k*2+1) (.slice G (V l) H)) (go_keep)
    ((go_at_call 112;refine(aD I _ (by first|exact⟨0,rfl⟩|exact⟨1,rfl⟩|exact⟨_,rfl⟩)).mono ?_;rintro e b7 ⟨z,rfl,a⟩;have a7:=aC a a3;have a8:=aC a a4;have a9:=aC a L;have b0:=aC a M;have D:=O (C.o.trans (a.mono X));clear a))
   go_wp2_with fail;go_quiet (fail);go_wp2;exact⟨⟨k+1,n,by omega,by omega,by go_num,rfl,by rw[R.o];exact J.o.no E.o,bE D.o (aN (by first|exact⟨_,rfl⟩|exact dT _ _ _|exact draw3 _ _ _ _))⟩,by simp[intOf];omega⟩
  |some L1=>
   have I:=O (λd3 d1=>(aO0 i G j H b l N g L1 wr o s.nodes y b6 t b8 x a6.o m hmg d3 d1).mono (R':=λe w'=>∃z,e=.returned (.tuple #[z,.bool zt])/\aB wr w') (by rintro e w' ⟨z,c8,_,c9⟩;exact⟨z,c8,c9⟩));by_cases u:f=A
   .have E:aE (fQ (f,b) (A,l) g=zx L1):=O (by simp[fQ,u,hmg]);have d0:(f==A)=true:=by simp[u]
    clear hmg o m s a0 y t x q p c u;go_wp2_with fail;go_region_held3 (λw'=>cQ w' w.heap.size 1 (.slice i (V b) j)/\cQ w' S (a2+k*2+1) (.slice G (V l) H)) (go_keep)
     ((go_at_call 112;refine(aD I _ (by first|exact⟨0,rfl⟩|exact⟨1,rfl⟩|exact⟨_,rfl⟩)).mono ?_;rintro e b7 ⟨z,rfl,a⟩;have a7:=aC a a3;have a8:=aC a a4;have a9:=aC a L;have b0:=aC a M;have D:=O (C.o.trans (a.mono X));clear a))
    go_wp2_with fail;go_quiet (fail);go_wp2;exact⟨⟨k+1,n+1,by omega,by omega,by go_num,by go_num,by rw[R.o];exact sM.yes E.o,bE D.o (aN (by first|exact⟨_,rfl⟩|exact dT _ _ _|exact draw3 _ _ _ _))⟩,by simp[intOf];omega⟩
   have E:aE (fQ (f,b) (A,l) g=zq):=O (by simp[fQ,u]);have d0:(f==A)=false:=by simp[u]
   clear hmg o m s a0 y t x q p c u;go_wp2_with fail;go_region_held3 (λw'=>cQ w' w.heap.size 1 (.slice i (V b) j)/\cQ w' S (a2+k*2+1) (.slice G (V l) H)) (go_keep)
    ((go_at_call 112;refine(aD I _ (by first|exact⟨0,rfl⟩|exact⟨1,rfl⟩|exact⟨_,rfl⟩)).mono ?_;rintro e b7 ⟨z,rfl,a⟩;have a7:=aC a a3;have a8:=aC a a4;have a9:=aC a L;have b0:=aC a M;have D:=O (C.o.trans (a.mono X));clear a))
   go_wp2_with fail;go_quiet (fail);go_wp2;exact⟨⟨k+1,n,by omega,by omega,by go_num,rfl,by rw[R.o];exact J.o.no E.o,bE D.o (aN (by first|exact⟨_,rfl⟩|exact dT _ _ _|exact draw3 _ _ _ _))⟩,by simp[intOf];omega⟩
 have q:d.take k=d:=zl (by omega);rw[q]at p;have J:=O p;have C:=O c;clear p c q;go_wp2;go_ret;exact⟨n,rfl,by omega,J.o,bE c0.o C.o⟩
def nP(ks:List Nat):List U:=ks.map λ(k:Nat)=>iQ (k:Int)
def sN(w:zv)(v:U)(ks:List Nat):Prop:=zu w 0 3 1 v (V ks) (nP ks)
theorem sN.below{w1:zv}(a:sN w v ks)(k:aB w w1):sN w1 v ks:=bF a k (zr _)
theorem sN.cell(a:sN w v ks)(j:0<V ks):∃g cap,v=sQ g (V ks) cap/\V ks<=cap/\∀k (b:k<V ks),zj w (aQ g k)=zx (iQ (ks[k]:Int)):=by
 have c:=a;obtain⟨l,⟨rfl,m⟩|⟨g,cap,i,rfl,o,p,f,q,t,s⟩⟩:=c
 .omega
 refine⟨g,cap,rfl,f,λk b=>?_⟩;have:=World.ownsRow.cellAt a k (by omega);rw[this];simp[nP,b]
theorem aO1(ks:List Nat):∀b∈nP ks,b.oneCell'=true:=by intro b a;simp only[nP,List.mem_map]at a;obtain⟨k,_,rfl⟩:=a;rfl
theorem aO2{a:Nat}{b:U}(c:(nP ks)[a]?=zx b):∃f:a<V ks,b=iQ (ks[a]:Int):=by grind[nP,List.getElem?_eq_some_iff]
def sO(a:List Lt)(ks:List Nat):List Lt:=ks.map λk=>a.getD k (zn,[])
theorem bAf(b:List Lt)(ks:List Nat)(a:Nat)(f:a<V ks):∀c,c∈sO b ks↔c=b.getD ks[a] (zn,[])\/c∈sO b (ks.take a++ks.drop (a+1)):=by grind[sO,z5,zs,ym,yw,yn]
theorem bAg(a:List Lt)(k:Nat)(b:k<V a):a.getD k (zn,[])=a[k]:=by simp[b]
def aH7(n:Nat):Prop:=∀(B:Nat) (c:Option Addr) (j:Nat) (a:List Lt) (f:Option Addr) (dcap:Nat) (d:List Lt) (i:U) (b:bK) (g:U) (ks:List Nat) (w:zv),V ks<=n->(∀k∈ks,k<V a)->eC w B c a->eC w B f d->kP a->kP d->gQ b->nH w i b->sN w g ks->V ks<=8->
 Calls zg 74 #[.slice c (V a) j,.slice f (V d) dcap,g,i] w λe w'=>∃r:Bool,e=.returned (.bool r)/\(r=zt↔fW d (sO a ks) b)/\aB w w'
theorem aO3(j:Option Addr)(l:Nat)(b:List Lt)(m:Option Addr)(o:Nat)(d:List Lt)(p:U)(a:bK)(c:U)(w:zv)(g:gQ a)(f:sN w c []):Calls zg 74 #[.slice j (V b) l,.slice m (V d) o,c,p] w λe w'=>∃r:Bool,e=.returned (.bool r)/\(r=zt↔fW d (sO b []) a)/\aB w w':=by
 obtain⟨q,s,rfl⟩:=aZ f;have i:aE (fW d (sO b []) a):=O (aOn g.look);clear f g;simp only[List.length_nil];go_enter Tryz.func74,Tryz.ntmps74;go_wp2;go_ret;exact⟨zt,rfl,⟨λ_=>i.o,λ_=>rfl⟩,dP⟩
theorem bAh{l o:Nat}{b:List Lt}{p:Option Addr}{dcap:Nat}{s:U}{j:bK}(F:∀k∈ks,k<V b)(y:eC w B (zx (aQ l o)) b)(z:eC w B p d)(D:kP b)(E:kP d)(A:gQ j)(C:nH w s j)
  (a:Nat) (J:a<V ks) (f:zv) (q:aB w f):∃(c:Lt) (g:Option Addr) (i:Nat),c=b.getD ks[a] (zn,[])/\aP c.2 1=zt/\V c.2<=60/\zj f ⟨l,o+ks[a]*2,zq⟩=zx (.bool c.1)/\zj f ⟨l,o+ks[a]*2+1,zq⟩=zx (.slice g (V c.2) i)/\dI f g c.2/\
   Calls zg 111 #[.agg #[.bool c.1,.slice g (V c.2) i],.slice p (V d) dcap,s] f λe w'=>∃n:Nat,e=.returned (iQ n)/\n<=8/\sM d c j n/\aB f w':=by
 have t:=F ks[a] (zs _);obtain⟨x,G,g,i,e,_,H,I,L,u⟩:=(y.fr (Fr.of_below q)).cell ks[a] t;obtain⟨rfl,rfl⟩:l=x/\o=G:=by simpa using e
 have m:=D b[ks[a]] (zs _);exact⟨b[ks[a]],g,i,(bAg b _ t).symm,m.1,m.2,H,I,u.nodes,bAe B p dcap d b[ks[a]].1 g i b[ks[a]].2 s j f (z.fr (Fr.of_below q)) u.nodes m.1 m.2 E A (C.below q)⟩
theorem bAi(n:Nat)(j1:aH7 n):aH7 (n+1):=by
 intro B i5 i6 s o2 dcap d h4 m o4 ks w t0 c3 a5 b9 g4 g5 c1 f9 c0 s0;by_cases b8:0<V ks
 .obtain⟨k7,i7,i8,i9,j0⟩:=info_parts mR;obtain⟨a4,I,rfl,s2,g3⟩:=c0.cell b8;have s1:=a5.few;have s3:=b9.few;have p2:=c3 ks[0] (zs _);obtain⟨a3,b2,rfl⟩:∃a3 b2,i5=zx (aQ a3 b2):=by
   obtain⟨a3,b2,_,_,e,_⟩:=a5.cell ks[0] p2;exact⟨a3,b2,e⟩
  have n1:=O j1;have b5:=O c3;have m1:=O a5;have i2:=O b9;have m3:=O g4;have a2:=O g5;have f3:=O c1;have n2:=O f9;have b3:=O g3;have r7:=O c0;have e9:=O (λq k0 h6 j=>bAh c3 a5 b9 g4 g5 c1 f9 (dcap:=dcap) q k0 h6 j);have p4:((V ks:Int)==0)=false:=by rw[beq_eq_false_iff_ne];omega
  have o0:=g3 0 b8;have p3:(ks[0]:Int)<(V s:Int):=by omega
  have r9:(0:Int)<(V ks:Int):=by omega
  obtain⟨⟨u0,u2⟩,t9,u1,k6,-,-,l1,l2,-,e7⟩:=e9.o 0 b8 w (dP);simp only at l1 l2 e7;have l6:=O e7;have n5:=O k6;clear k6;clear j1 c3 a5 b9 g4 g5 c1 f9 g3 c0 e7;go_enter Tryz.func74,Tryz.ntmps74;go_wp2_with(go_at_call 111;refine(aD l6).mono ?_;rintro e t6 ⟨r2,rfl,c4,j8,j2⟩;have m4:=O j8;have l8:=O j2;clear j8 j2);clear p4 o0 p3 l1 l2;go_loopw[9,10,11] (λn9 o3 q wr=>∃g a A:Nat,g<=V ks/\1<=g/\q=iQ g/\n9=iQ a/\o3=iQ A/\A<=8/\(∃a9:a<V ks,sM d (s.getD ks[a] (zn,[])) m A)/\aB w wr) (λ_ _ q _=>V ks-(intOf q).toNat);exact⟨1,0,r2,by omega,by omega,rfl,rfl,rfl,c4,⟨b8,by rw[<-n5.o];exact m4.o⟩,l8.o⟩;obtain⟨g,a,A,t1,t2,rfl,rfl,rfl,p5,⟨a9,c2⟩,j⟩:=hrel;by_cases g9:g<V ks
  .have p8:(g:Int)<(V ks:Int):=by omega
   have r8:=aC j (b3.o g g9);have s5:=b5.o ks[g] (zs _);have s6:(ks[g]:Int)<(V s:Int):=by omega
   obtain⟨⟨i,c⟩,u,x,b0,-,-,d0,d7,-,e0⟩:=e9.o g g9 wr j;simp only at d0 d7 e0;have l5:=O e0;have b7:=O b0;clear b0;have b4:=O c2;have h9:=O j;have g1:=j.size;clear e0 c2 j;go_wp2_with(go_at_call 111;refine(aD l5).mono ?_;rintro e t7 ⟨r3,rfl,p7,j9,X⟩;have m5:=O j9;have S:=O (h9.o.trans (X.mono g1));clear j9 X)
   .go_roundw;·exact⟨g+1,g,r3,by omega,by omega,by go_num,rfl,rfl,p7,⟨g9,by rw[<-b7.o];exact m5.o⟩,S.o⟩
    .simp[intOf];omega
   go_roundw;·exact⟨g+1,a,A,by omega,by omega,by go_num,rfl,rfl,p5,⟨a9,b4.o⟩,S.o⟩
   simp[intOf];omega
  have p8:¬(g:Int)<(V ks:Int):=by omega
  have o1:=aC j (b3.o a a9);have s7:=b5.o ks[a] (zs _);have s8:(ks[a]:Int)<(V s:Int):=by omega
  have t3:(a:Int)<(V ks:Int):=by omega
  obtain⟨⟨i,c⟩,u,x,b0,h1,h3,d0,d7,g0,-⟩:=e9.o a a9 wr j;simp only at d0 d7 h1 h3 g0;have p9:(a:Int)<=(I:Int):=by omega
  have q0:(a:Int)+1<=(V ks:Int):=by omega
  have q1:(0:Int)<=(a:Int)+1:=by omega
  have q2:((a:Int)+1).toNat=a+1:=by omega
  have q3:(a:Int)+1<=(I:Int):=by omega
  have q4:(V ks:Int)<=(I:Int):=by omega
  have q5:(0:Int)<=(a:Int):=by omega
  have q6:IntKind.i64.wrap ((a:Int)+1)=(a:Int)+1:=by rw[IntKind.wrap_i64];omega
  obtain⟨c7,q7,j7⟩:∃c7,(if I=a+1 then zx ((aQ a4 0):Addr) else zx (aQ a4 (a+1)))=zx (aQ a4 c7)/\(∀q,q<V ks-(a+1)->c7=a+1):=by
   by_cases D:I=a+1
   .exact⟨0,aT D,λq k0=>by omega⟩
   exact⟨a+1,aS D,λ_ _=>rfl⟩
  have m2:=O j7;have b7:=O b0;have b4:=O c2;have h9:=O j;have g1:=j.size;have X:aB wr (wr.alloc (.cells #[.bool i,.slice u (V c) x] 55)):=aI _ _;have S:=O (j.trans (X.mono g1));have j6:=vA wr (.bool i) (.slice u (V c) x) 55;have i1:=O j6;have C:=O (And.intro h1 h3);have n3:=O (g0.below X (zr _));have k2:V (ks.take a)=a:=by simp;omega
  have k3:V (ks.drop (a+1))=V ks-(a+1):=by simp
  have m8:=O k2;have m9:=O k3;obtain⟨c8,k5⟩:∃c8,c8=wr.heap.size:=⟨_,rfl⟩;have i4:=O k5;clear j7 b0 c2 j X j6 h1 h3 g0 k2 k3 k5;go_wp2_with(first
   |(at_builtin;refine wpList_append_own _ rfl _ _ 24 rfl (wr.heap.size+1) 3 k7 (iQ 0) 1 8 yy i7 i8 i9 j0 rfl (by decide) _ _ _ rfl (zk _ _ _ _) (aQ a4 0) a I (nP (ks.take a)) rfl ?d1 ?d2 ?d3 ?d4 ?d5 ?d6 ?_)
   |go_in)
  case d1=>simp[nP];omega
  case d2=>
   intro b r4 h2;obtain⟨k1,rfl⟩:=aO2 h2;have o9:b<V ks:=by have:=m8.o;omega
   try rw[Addr.add_lit,Nat.zero_add]
   have:=aC S.o (b3.o b o9);simpa using this
  case d3=>exact aO1 _
  case d4=>unfold maxLen;omega
  case d5=>omega
  try case d6=>first|omega|(simp;omega)|simp
  intro t5 r5 c5 g6 _;have f0:=O (S.o.grown g6 S.o.size λk e=>by simp[zy]at e);have f1:aE (Below (wr.alloc (.cells #[.bool i,.slice u (V c) x] 55)).heap.size (wr.alloc (.cells #[.bool i,.slice u (V c) x] 55)) r5):=O ((dP).grown g6 (zr _) λk e=>by simp[zy]at e);have o6:=f0.o.size;clear g6;go_wp2_with(first
   |(at_builtin;refine wpList_append_own _ rfl _ _ 24 rfl (wr.heap.size+1) 3 k7 (iQ 0) 1 8 yy i7 i8 i9 j0 rfl (by decide) _ _ _ rfl c5 (aQ a4 c7) (V ks-(a+1)) (I-(a+1)) (nP (ks.drop (a+1))) rfl ?e1 ?e2 ?e3 ?e4 ?e5 ?e6 ?_)
   |go_in)
  case e1=>simp[nP]
  case e2=>
   intro b r4 h2;obtain⟨k1,rfl⟩:=aO2 h2;have p0:b<V ks-(a+1):=by have:=m9.o;omega
   try rw[Addr.add_lit]
   rw[m2.o b p0];have:=aC f0.o (b3.o (a+1+b) (by omega));simpa using this
  case e3=>exact aO1 _
  case e4=>unfold maxLen;omega
  case e5=>omega
  case e6=>have:=f1.o.size;simp at this;omega
  intro k9 c9 k4 g7 _;have m6:aE (sN c9 k9 (ks.take a++ks.drop (a+1))):=O (by
   have e:=fM k4 (z4 _);have D:V (ks.take a++ks.drop (a+1))=0+a+(V ks-(a+1)):=by simp;omega
   unfold sN;rw[D];simpa[nP]using e)
  have m0:=O (f0.o.grown g7 o6 λk e=>by have:=(bS c5 k e).1;omega);have f2:aE (Below (wr.alloc (.cells #[.bool i,.slice u (V c) x] 55)).heap.size (wr.alloc (.cells #[.bool i,.slice u (V c) x] 55)) c9):=O (f1.o.grown g7 f1.o.size λk e=>by have:=(bS c5 k e).1;simp;omega);have m7:aE (∀k∈ks.take a++ks.drop (a+1),k<V s):=O (λk hk=>by
   rcases List.mem_append.1 hk with hk|hk
   .exact b5.o k (yw hk)
   exact b5.o k (ym hk))
  have t4:V (ks.take a++ks.drop (a+1))+1=V ks:=by simp;omega
  have b6:=O (bAf s ks a a9);clear c5 k4 g7 q7 p9 q0 q1 q2 q3 q4 q5 q6 o1;generalize hrest:ks.take a++ks.drop (a+1)=rest at *;rw[<-b7.o]at b6;rw[<-b7.o]at b4;have h7:=aC f2.o i1.o.1;have h8:=aC f2.o i1.o.2;rw[<-i4.o]at h7 h8;have n4:=O (n3.o.below f2.o (zr _));have n7:=O h7;have n8:=O h8;clear hrest h7 h8 d0 d7;go_wp2;have H:=O (λ(h6:zv) (q8:aB c9 h6)=>bE m0.o q8);rw[<-i4.o];go_loopw[15] (λq r6=>∃b:Nat,b<=V d/\q=iQ b/\aB c9 r6/\(∀l∈d.take b,∀o,fQ (i,c) l m=zx o->¬fW d (sO s rest) o)) (λq _=>V d-(intOf q).toNat);exact⟨0,z4 _,rfl,dP,by simp⟩;obtain⟨b,k1,rfl,f,E⟩:=hrel;by_cases g8:b<V d
  .have p1:(b:Int)<(V d:Int):=by omega
   by_cases c4:0<A
   .have p6:(0:Int)<(A:Int):=by omega
    obtain⟨f7,h5,d8,d9,rfl,h0,e4,f8,a1,W⟩:=((i2.o.fr (Fr.of_below (H.o _ f)))).cell b g8;obtain⟨L,N⟩:=a2.o d[b] (zs _);have J:d.take (b+1)=d.take b++[d[b]]:=zb g8;have c6:d[b]∈d:=zs _;generalize d[b]=l at *;obtain⟨R,y⟩:=l;simp only at e4 f8 L N W a1;have l3:=aC f n7.o;have l4:=aC f n8.o;have a7:=n4.o.below f (zr _);have a6:=n2.o.below (H.o _ f);have f6:=O J;have n6:=O c6;have f5:=O E;have F:=O f;have j3:=f.size;by_cases M:i=R
    .have o8:(!i==R)=false:=by simp[M]
     cases hmg:dD c y m with
     |none=>
      have T:aE (fQ (i,c) (R,y) m=zq):=O (by simp[fQ,hmg]);have e8:=O (aNz u d8 x d9 c y h4 m wr a7 W.nodes a1 C.o.1 L C.o.2 N f3.o a6 hmg);clear hmg a7 a6 W h0 a1 L N J c6 E f M;go_wp2_with fail;go_quiet (fail);go_wp2_with fail;go_region_held3 (λw'=>cQ w' c8 1 (.slice u (V c) x)/\cQ w' f7 (h5+b*2+1) (.slice d8 (V y) d9)) (go_keep)
       ((go_at_call 112;refine(aD e8 _ (by first|exact⟨_,rfl⟩|exact dT _ _ _|exact draw3 _ _ _ _)).mono ?_;rintro e l0 ⟨k8,rfl,t⟩;have q9:=aC t l3;have r0:=aC t l4;have r1:=aC t f8;have G:=O (F.o.trans (t.mono j3));clear t))
      go_wp2;exact⟨⟨b+1,by omega,by go_num,G.o,by
       intro l hy o p;rw[f6.o]at hy;rcases List.mem_append.1 hy with hy|hy
       .exact f5.o l hy o p
       simp at hy;subst hy;rw[T.o]at p;simp at p⟩,by simp[intOf];omega⟩
     |some L1=>
      have T:aE (fQ (i,c) (R,y) m=zx L1):=O (by simp[fQ,M,hmg]);have e8:=O (aO0 u d8 x d9 c y h4 m L1 wr a7 W.nodes a1 C.o.1 L C.o.2 N f3.o a6 hmg);have n0:=O (bBo c y 1 m L1 C.o.1 L N f3.o hmg);clear hmg a7 a6 W h0 a1 L N J c6 E f M;go_wp2_with fail;go_quiet (fail);go_wp2_with fail;go_region_held3 (λw'=>cQ w' c8 1 (.slice u (V c) x)/\cQ w' f7 (h5+b*2+1) (.slice d8 (V y) d9)) (go_keep)
       ((go_at_call 112;refine(aD e8 _ (by first|exact⟨_,rfl⟩|exact dT _ _ _|exact draw3 _ _ _ _)).mono ?_;rintro e l0 ⟨k8,rfl,j5,t⟩;have l9:=O j5;clear j5;have q9:=aC t l3;have r0:=aC t l4;have r1:=aC t f8;have G:=O (F.o.trans (t.mono j3));clear t))
      have l7:=O (n1.o B (zx (aQ a3 b2)) i6 s (zx (aQ f7 h5)) dcap d k8 L1 k9 rest l0 (by omega) m7.o (m1.o.fr (Fr.of_below (H.o _ G.o))) (i2.o.fr (Fr.of_below (H.o _ G.o))) m3.o a2.o n0.o l9.o (m6.o.below G.o) (by omega));have o7:=G.o.size;go_wp2_with(go_at_call 74;refine(aD l7).mono ?_;rintro e t8 ⟨r,rfl,a0,j4⟩;have i3:=O a0;have i0:=O (G.o.trans (j4.mono o7));clear a0 j4)
      .have a0:r=true:=by first|assumption|(cases r<;>simp_all)
       subst a0;go_ret;refine⟨zt,rfl,⟨λ_=>?_,λ_=>rfl⟩,H.o _ i0.o⟩;exact(aE3 (λb1 a8=>(a2.o b1 a8).1) C.o.1 b6.o).2 ⟨(R,y),n6.o,L1,T.o,i3.o.1 rfl⟩
      have a0:r=false:=by first|assumption|(cases r<;>simp_all)
      subst a0;exact⟨⟨b+1,by omega,by go_num,i0.o,by
       intro l hy o p;rw[f6.o]at hy;rcases List.mem_append.1 hy with hy|hy
       .exact f5.o l hy o p
       simp at hy;subst hy;rw[T.o]at p;simp at p;subst p;exact λz=>absurd (i3.o.2 z) (by simp)⟩,by simp[intOf];omega⟩
    have o8:(!i==R)=true:=by simp[M]
    have T:aE (fQ (i,c) (R,y) m=zq):=O (by simp[fQ,M]);clear a7 a6 W h0 a1 L N J c6 E f M;go_wp2_with fail;go_quiet (fail);go_wp2;exact⟨⟨b+1,by omega,by go_num,bE F.o (aN (by first|exact⟨_,rfl⟩|exact dT _ _ _|exact draw3 _ _ _ _)),by
     intro l hy o p;rw[f6.o]at hy;rcases List.mem_append.1 hy with hy|hy
     .exact f5.o l hy o p
     simp at hy;subst hy;rw[T.o]at p;simp at p⟩,by simp[intOf];omega⟩
   have p6:decide ((0:Int)<(A:Int))=false:=by rw[decide_eq_false_iff_not];omega
   have s9:(A:Int)<=0:=by omega
   have f4:aE (¬fW d (sO s ks) m):=O (by
    intro g2;obtain⟨l,hy,o,D,_⟩:=(aE3 (λb1 a8=>(a2.o b1 a8).1) C.o.1 b6.o).1 g2;exact c4 (b4.o.2 ⟨l,hy,o,D⟩))
   have F:=O f;clear E f c4;go_wp2;go_ret;exact⟨zn,rfl,⟨λz=>by simp at z,λz=>absurd z f4.o⟩,H.o _ F.o⟩
  have J:d.take b=d:=zl (by omega);rw[J]at E;have p1:decide ((b:Int)<(V d:Int))=false:=by rw[decide_eq_false_iff_not];omega
  have s4:(V d:Int)<=(b:Int):=by omega
  have f4:aE (¬fW d (sO s ks) m):=O (by
   intro g2;obtain⟨l,hy,o,D,o5⟩:=(aE3 (λb1 a8=>(a2.o b1 a8).1) C.o.1 b6.o).1 g2;exact E l hy o D o5)
  have F:=O f;clear E f J g8;go_wp2;go_ret;exact⟨zn,rfl,⟨λz=>by simp at z,λz=>absurd z f4.o⟩,H.o _ F.o⟩
 have hk:ks=[]:=ze (by omega);subst hk;exact aO3 i5 i6 s o2 dcap d h4 m o4 w c1 c0
theorem aO4:∀n,aH7 n
 |0=>λB c f b g i d p a j ks w q _ _ _ _ _ m _ l _=>by
  have o:ks=[]:=ze (by omega);subst o;exact aO3 c f b g i d p a j w m l
 |n+1=>bAi n (aO4 n)
theorem bAj(a:List Lt):sO a (yo (V a))=a:=by
 unfold sO;refine List.ext_getElem (by simp) λk c b=>?_
 simp[b]
theorem bAk(ks:List Nat)(k:Nat):nP (ks++[k])=nP ks++[iQ (k:Int)]:=by simp[nP]
theorem bAl(B:Nat)(g:Option Addr)(s:Nat)(a:List Lt)(i:Option Addr)(t:Nat)(d:List Lt)(w:zv)(j:eC w B g a)(l:eC w B i d)(y:kP a)(z:kP d):Calls zg 44 #[.slice g (V a) s,.slice i (V d) t] w λe w'=>∃r:Bool,e=.returned (.bool r)/\(r=zt↔V a<=V d/\fW d a [])/\aB w w':=by
 have S:=j.few;have a2:=l.few;have I:=O j;have J:=O l;have L:=O y;have M:=O z;clear j l y z;go_enter Tryz.func44,Tryz.ntmps44;go_wp2;go_loopw[5,6] (λR o wr=>∃k:Nat,k<=V a/\o=iQ k/\zu wr w.heap.size 3 1 R k (nP (yo k))/\aB w wr) (λ_ o _=>V a-(intOf o).toNat);exact⟨0,z4 _,rfl,zk _ _ _ _,dP⟩;obtain⟨k,a3,rfl,f,m⟩:=hrel;have x:=m.size;have c:=O m;clear m;by_cases a4:k<V a
 .have a5:(k:Int)<(V a:Int):=by omega
  go_wp2_with(first
   |(at_builtin;refine eU mR yy (f.alloc _) ?_)
   |go_in)
  intro a0 a1 E A _;have N:aE (zu a1 w.heap.size 3 1 a0 (k+1) (nP (yo (k+1)))):=O (by rw[List.range_succ,bAk];exact E);have G:=O ((c.o.alloc x _).grown A (by simp;omega) λX e=>(bS f X e).1);clear E A f;go_wp2;exact⟨⟨k+1,by omega,by go_num,N.o,G.o⟩,by simp[intOf];omega⟩
 have T:k=V a:=by omega
 subst T;have C:sN wr u5 (yo (V a)):=by unfold sN;rw[List.length_range];exact fM f (z4 _)
 have p:=O (aO4 (V a) B g s a i t d (nQ) [] u5 (yo (V a)) wr (by simp) (by simp) (I.o.fr (Fr.of_below c.o)) (J.o.fr (Fr.of_below c.o)) L.o M.o gQ.nil (nH.nil _) C (by simpa using S));rw[bAj]at p;clear f C;by_cases D:V a<=V d
 .have W:(V a:Int)<=(V d:Int):=by omega
  go_wp2_with(go_at_call 74;refine(aD p).mono ?_;rintro e a6 ⟨r,rfl,F,u⟩;have q:=O F;have H:=O (c.o.trans (u.mono x));clear F u);go_ret;exact⟨r,rfl,⟨λb=>⟨D,q.o.1 b⟩,λb=>q.o.2 b.2⟩,H.o⟩
 have W:(V d:Int)<(V a:Int):=by omega
 go_wp2;go_ret;exact⟨zn,rfl,⟨λb=>by simp at b,λb=>absurd b.1 D⟩,c.o⟩
def eK(b c f a:Nat):Nat:=if a<b then a else if a<b+c then a+f else if a<b+c+f then a-c else a
section
variable {A X Y B:List Tg}
theorem bAm(a:Nat):(A++Y++X++B)[a]?=(A++X++Y++B)[eK (V A) (V Y) (V X) a]?:=by grind[eK,zd,List.getElem?_append_left,List.getElem?_append_right]
theorem bAn(a g f:Nat){b c:Nat}(i:eK a g f b=eK a g f c):b=c:=by grind[eK]
theorem bAo(b f c a:Nat):∃g,eK b f c g=a/\(a<b+c+f->g<b+f+c):=by
 by_cases j:a<b
 .exact⟨a,by unfold eK;rw[aT j],λ_=>by omega⟩
 by_cases m:a<b+c
 .refine⟨a+f,?_,λ_=>by omega⟩;grind[eK]
 by_cases l:a<b+c+f
 .refine⟨a-c,?_,λ_=>by omega⟩;grind[eK]
 exact⟨a,by unfold eK;rw[aS (by omega),aS (by omega),aS (by omega)],λi=>absurd i l⟩
end
theorem zX{b a R:List Nd}(g:dV a){c:Nat}(f:c<V a):(aF (b++a++R)).ch (V b+c)=((aF a).ch c).map (· + V b):=by grind[pY,aC1,zd]
section
variable {A X Y B:List Tg}{R:List Rw}{g:Nat->Nat}
theorem Rows.swap(o:Rows (A++X++Y++B) R g)(D:dV (A.map zp))(y:dV (X.map zp))(z:dV (Y.map zp))(J:dV (B.map zp)):Rows (A++Y++X++B) R λa=>g (eK (V A) (V Y) (V X) a):=by
 have C:=@bAm A X Y B;have I:V (A++Y++X++B)=V A+V Y+V X+V B:=by simp;omega
 have M:∀f,f<V A+V X+V Y+V B->∃a,eK (V A) (V Y) (V X) a=f/\a<V A+V Y+V X+V B:=by
  intro f b;obtain⟨a,c,p⟩:=bAo (V A) (V Y) (V X) f;refine⟨a,c,?_⟩;by_cases x:f<V A+V X+V Y
  .have:=p x;omega
  unfold eK at c;split at c
  .omega
  split at c
  .omega
  split at c<;>omega
 have L:∀(a:Nat),a<V A+V Y+V X+V B->(aF ((A++X++Y++B).map zp)).ch (eK (V A) (V Y) (V X) a)=((aF ((A++Y++X++B).map zp)).ch a).map (eK (V A) (V Y) (V X)):=by
  intro a i;have E:∀{j:List Nd} (H:dV j) {f m:Nat},f<V j->m∈(aF j).ch f->m<V j:=by intro j H f m b l;have c:j[f]?=zx j[f]:=z6 b;rw[jE c]at l;have a2:=(sY _ _ _ (H f _ c) m l).2;have G:aM (j.drop f) 1<=V (j.drop f):=oC _ _;rw[z5 b]at G;simp[aM]at G;omega
  simp only[zm];by_cases c:a<V A
  .have e:eK (V A) (V Y) (V X) a=a:=by unfold eK;rw[aT c]
   rw[e];have F:∀(j:List Nd),(aF (A.map zp++j)).ch a=(aF (A.map zp)).ch a:=λj=>pY D (by simpa using c)
   rw[zd,zd,zd,zd,F,F];refine(List.map_id _).symm.trans (z2 λm l=>?_);have:=E D (by simpa using c) l;simp at this;simp[eK,this]
  by_cases p:a<V A+V Y
  .have e:eK (V A) (V Y) (V X) a=a+V X:=by unfold eK;rw[aS c,aT p]
   rw[e];have s:a+V X=V (A.map zp++X.map zp)+(a-V A):=by simp;omega
   have t:a=V (A.map zp)+(a-V A):=by simp;omega
   have b:a-V A<V (Y.map zp):=by simp;omega
   rw[s,zX (R:=B.map zp) z b];conv=>rhs;rw[t,zd (A.map zp++Y.map zp),zX z b]
   rw[z8];refine z2 λm l=>?_
   have:=E z b l;simp at this;simp only[Function.comp,eK,zi,z3];rw[aS (by omega),aT (by omega)];omega
  by_cases x:a<V A+V Y+V X
  .have e:eK (V A) (V Y) (V X) a=a-V Y:=by unfold eK;rw[aS c,aS p,aT x]
   rw[e];have s:a-V Y=V (A.map zp)+(a-V Y-V A):=by simp;omega
   have t:a=V (A.map zp++Y.map zp)+(a-V Y-V A):=by simp;omega
   have b:a-V Y-V A<V (X.map zp):=by simp;omega
   rw[s,zd (A.map zp++X.map zp),zX y b];conv=>rhs;rw[t,zX (R:=B.map zp) y (by simpa using b)]
   have a1:V (A.map zp)+(a-V Y-V A)-V (A.map zp)=a-V Y-V A:=by omega
   rw[z8];refine z2 λm l=>?_
   have:=E y b l;simp at this;simp only[Function.comp,eK,zi,z3];rw[aS (by omega),aS (by omega),aT (by omega)];omega
  have e:eK (V A) (V Y) (V X) a=a:=by unfold eK;rw[aS c,aS p,aS x]
  rw[e];have s:a=V (A.map zp++X.map zp++Y.map zp)+(a-V A-V X-V Y):=by simp;omega
  have t:a=V (A.map zp++Y.map zp++X.map zp)+(a-V A-V X-V Y):=by simp;omega
  have b:a-V A-V X-V Y<V (B.map zp):=by simp;omega
  conv=>lhs;rw[s,aC1 b]
  conv=>rhs;rw[t,aC1 b]
  rw[z8];refine z2 λm l=>?_
  simp only[Function.comp,eK,zi,z3];rw[aS (by omega),aS (by omega),aS (by omega)];omega
 refine⟨?_,?_,?_,?_,?_,o.fresh,o.once,?_⟩
 .simp only[zm];exact((D.append z).append y).append J
 .intro a q i u;rw[C]at i;exact o.var _ q i u
 .intro a q i u;have N:a<V A+V Y+V X+V B:=by
   have:=(eE i);rwa[I]at this
  rw[C]at i;have:=o.name _ q i u;rw[L a N,z8]at this;exact this
 .intro a f a0 q i b T W e;rw[C]at i b;exact bAn _ _ _ (o.inj _ _ a0 q i b T W e)
 .intro r S;obtain⟨f,b,e⟩:=o.onto r S;obtain⟨a,c,p⟩:=M f (by simpa[yq]using b);exact⟨a,by rw[I];exact p,by rw[c];exact e⟩
 intro a q i u;rw[C]at i;exact o.num _ q i u
end
theorem sP(a b:List (Int×Lt)):aL (a++b)=aL a++aL b:=by simp[aL]
theorem tR(r:Int×Lt)(a:List (Int×Lt)):aL (r::a)=aW r.1 r.2.2++aL a:=by simp[aL,aW]
theorem wW:∀(a b:List (Int×Lt)) (n:Nat),bO n (a++b)=bO n a++bO (n+V (aL a)) b
 |[],b,n=>by simp[bO,aL]
 |r::a,b,n=>by
  simp only[List.cons_append,bO];rw[wW a b,tR];simp[aW,yq]
theorem wY:∀(a:List (Int×Lt)) (n:Nat),bO n a=(bO 0 a).map (n + ·)
 |[],n=>rfl
 |r::a,n=>by
  simp only[bO,yx,Nat.add_zero,Nat.zero_add];rw[wY a (n+V r.2.2),wY a (V r.2.2),z8];congr 1
  grind[z2,yq]
theorem tS{a:List (Int×Lt)}(c:∀r∈a,aP r.2.2 1=zt):dV ((aL a).map zp):=by
 induction a with
 |nil=>intro f n b;simp[aL]at b
 |cons r a ih=>
  rw[tR,zm,vU];grind[dV.append,tD]
section
variable {C1 C2 D1 D2:List (Int×Lt)}{rc rd:Int×Lt}{R:List Rw}{g:Nat->Nat}
def pF(a f b n:Nat)(c:Nat):Nat:=eK 0 a b (eK a f n c)
theorem bAp(b:Rows (aL (C1++rc::C2)++aL (D1++rd::D2)) R g)(f:∀r∈C1,aP r.2.2 1=zt)(i:∀r∈C2,aP r.2.2 1=zt)(j:∀r∈D1,aP r.2.2 1=zt)(l:∀r∈D2,aP r.2.2 1=zt)(u:aP rc.2.2 1=zt)(x:aP rd.2.2 1=zt):Rows (aW rc.1 rc.2.2++aW rd.1 rd.2.2++aL (C1++C2++(D1++D2))) R (λC=>g (pF (V rc.2.2) (V rd.2.2) (V (aL C1)) (V (aL C1)+V (aL C2)+V (aL D1)) C)):=by
 have m:dV ((aW rc.1 rc.2.2).map zp):=by rw[vU];exact tD u
 have o:dV ((aW rd.1 rd.2.2).map zp):=by rw[vU];exact tD x
 have p:aL (C1++rc::C2)++aL (D1++rd::D2)=[]++aL C1++aW rc.1 rc.2.2++(aL C2++(aL D1++(aW rd.1 rd.2.2++aL D2))):=by simp[sP,tR]
 rw[p]at b;have t:dV ((aL C2++(aL D1++(aW rd.1 rd.2.2++aL D2))).map zp):=by simp only[zm];exact(tS i).append ((tS j).append (o.append (tS l)))
 have c:=b.swap (by intro D n y;simp at y) (tS f) m t;have q:[]++aW rc.1 rc.2.2++aL C1++(aL C2++(aL D1++(aW rd.1 rd.2.2++aL D2)))=aW rc.1 rc.2.2++(aL C1++aL C2++aL D1)++aW rd.1 rd.2.2++aL D2:=by simp
 rw[q]at c;have a:=c.swap m (by simp only[zm];exact((tS f).append (tS i)).append (tS j)) o (tS l);have s:aW rc.1 rc.2.2++aW rd.1 rd.2.2++(aL C1++aL C2++aL D1)++aL D2=aW rc.1 rc.2.2++aW rd.1 rd.2.2++aL (C1++C2++(D1++D2)):=by simp[sP]
 rw[s]at a;have z:V (aW rc.1 rc.2.2)=V rc.2.2:=by simp[aW]
 have A:V (aW rd.1 rd.2.2)=V rd.2.2:=by simp[aW]
 simp only[zi,List.length_nil,z,A]at a;exact a
theorem bAq(j:∀r∈C1,0<V r.2.2)(l:∀r∈C2,0<V r.2.2)(m:∀r∈D1,0<V r.2.2)(o:∀r∈D2,0<V r.2.2):(bO (V rc.2.2+V rd.2.2) (C1++C2++(D1++D2))).map (pF (V rc.2.2) (V rd.2.2) (V (aL C1)) (V (aL C1)+V (aL C2)+V (aL D1))) =
   bO 0 C1++bO (V (aL C1)+V rc.2.2) C2++(bO (V (aL (C1++rc::C2))) D1++bO (V (aL (C1++rc::C2))+V (aL D1)+V rd.2.2) D2):=by
 have s:V (aL (C1++rc::C2))=V (aL C1)+(V rc.2.2+V (aL C2)):=by simp[sP,tR,aW]
 rw[s,wW,wW,wW];simp only[zm,zd];rw[sP,zi];have c:∀(a:List (Int×Lt)) (n f:Nat),(∀r∈a,0<V r.2.2)->(∀b,b<V (aL a)->pF (V rc.2.2) (V rd.2.2) (V (aL C1)) (V (aL C1)+V (aL C2)+V (aL D1)) (n+b)=f+b)->(bO n a).map (pF (V rc.2.2) (V rd.2.2) (V (aL C1)) (V (aL C1)+V (aL C2)+V (aL D1)))=bO f a:=by intro a n f p i;rw[wY a n,wY a f,z8];apply z2;intro b q;have:=xX a 0 p b q;exact i b (by omega)
 rw[c C1 _ 0 j ?_,c C2 _ (V (aL C1)+V rc.2.2) l ?_,c D1 _ (V (aL C1)+(V rc.2.2+V (aL C2))) m ?_,c D2 _ (V (aL C1)+(V rc.2.2+V (aL C2))+V (aL D1)+V rd.2.2) o ?_];all_goals
  intro b i;unfold pF eK;repeat' split
  all_goals omega
theorem bAr{b c a:Nat}(f:0<b):pF b c a n 0=a:=by
 unfold pF eK;repeat' split
 all_goals omega
theorem bAs{b i a c f:Nat}(j:0<i):pF b i a (a+c+f) b=a+(b+c)+f:=by
 unfold pF eK;repeat' split
 all_goals omega
end
theorem bAt:(Tryz.prog.info? 185).map (λa=>(a.zero,a.size,a.bytes))=zx (zx (.agg #[.string ⟨#[]⟩,iQ 0,nQ,iQ 0]),4,56):=by kernel_rfl
theorem bAu(P:Tb)(a:Rw×U):gY (P++[a])=gY P++[.string a.1.node.1,iQ a.1.node.2,a.2,iQ a.1.cls]:=by simp[gY]
structure gD(w w':zv)(tp:Nat)(v:U):Prop where
 os:w'.os=w.os
 tape:w'.tape=w.tape
 output:w'.output=w.output
 size:w.heap.size<=w'.heap.size
 block:∀k,k<w.heap.size->k≠tp->zy v≠zx k->w'.heap[k]?=w.heap[k]?
theorem gD.refl(w:zv)(tp:Nat)(v:U):gD w w tp v:=⟨rfl,rfl,rfl,zr _,λ_ _ _ _=>rfl⟩
theorem gD.trans{w w1 m:zv}{tp:Nat}{v l:U}(a:gD w w1 tp v)(b:dM w v l)(k:gD w1 m tp l):gD w m tp v:=
 ⟨k.os.trans a.os,k.tape.trans a.tape,k.output.trans a.output,zf a.size k.size,λj c f i=>by
  rw[k.block j (yv c a.size) f (λe=>by
   rcases b with b|⟨g,b,o⟩
   .exact i (b.symm.trans e)
   rw[b]at e;simp at e;omega),a.block j c f i]⟩
theorem gD.grown(a:zc w w' (zy v)):gD w w' tp v:=⟨a.os,a.tape,a.output,a.size,λk b _ c=>a.block k b (λe=>c e.symm)⟩
theorem gD.below(a:aB w w'):gD w w' tp v:=⟨a.os,a.tape,a.output,a.size,λk b _ _=>a.block k b⟩
theorem gD.set(a:gD w w' tp v)(j:Nat)(x:U):gD w (zh w' (aQ tp j) x) tp v:=by have b:=cD w' (aQ tp j) x;exact⟨b.os.trans a.os,b.tape.trans a.tape,b.output.trans a.output,zf a.size b.size,λk c f g=>by rw[b.block k (yv c a.size) (by simpa using f),a.block k c f g]⟩
theorem gD.own{x:U}{c:Nat}(j:gD w w' tp v)(o:zu w B e c x n xs)(l:zy x≠zx tp)(h2:zy x=zq\/zy x≠zy v):zu w' B e c x n xs:=by
 obtain⟨b,⟨rfl,q⟩|⟨g,f,i,rfl,m,a,p⟩⟩:=o
 .exact⟨b,z9 ⟨rfl,q⟩⟩
 refine⟨b,yz ⟨g,f,i,rfl,m,?_,p⟩⟩;rw[j.block g (bA a) ?_ ?_,a]
 .rintro rfl;exact l rfl
 intro e;rcases h2 with h2|h2
 .simp[zy]at h2
 exact h2 (by rw[e];rfl)
theorem gD.low(a:gD w w' tp v)(g:B<=tp)(b:∀k,zy v=zx k->B<=k)(c:B<=w.heap.size):Below B w w':=
 ⟨a.os,a.tape,a.output,a.size,λk f=>a.block k (by omega) (by omega) (λe=>by have:=b k e;omega)⟩
theorem dO.grow{c:zv}{b:U}(a:dO w B tp v P){n:Nd}{i:Nat}(g:zc w c (zy v))(m:zu c B 185 4 b (V P+1) (gY P++[.string n.1,iQ n.2,nQ,iQ i])):dO (zh c (aQ tp 0) b) B tp b (P++[(⟨n,i,[]⟩,nQ)])/\gD w (zh c (aQ tp 0) b) tp v:=by
 have f:c.heap[tp]?=zx (.cells #[v] 142):=by rw[g.block tp (bA a.box) (λe=>a.ne e.symm),a.box]
 have l:(zh c (aQ tp 0) b).heap[tp]?=zx (.cells #[b] 142):=by unfold zh;simp[Array.getElem?_modify,f]
 refine⟨⟨l,a.high,?_,?_⟩,(gD.grown g).set 0 b⟩
 .rw[zi,bAu];exact lZ m f (by decide)
 intro j hp;rcases List.mem_append.1 hp with hp|hp
 .exact lZ (eW (a.parts j hp) g (dC (a.parts j hp) a.row (by decide))) f (by decide)
 simp at hp;subst hp;exact zk _ _ _ _
theorem bAv(P:Tb):∀(k:Nat) (a:k<V P) (c:List Nat) (b:U),(gY P).set (k*4+2) b=gY (P.set k ({P[k].1 with parts:=c},b)):=by
 induction P with
 |nil=>intro k a;simp at a
 |cons x r ih=>
  intro k a c b;cases k with
  |zero=>rfl
  |succ k=>
   grind[aHy]
theorem dO.setParts{c i:Nat}(a:dO w B tp (sQ c (V P) i) P)(k:Nat)(q:k<V P)(f:List Nat)(b:U)(s:zu w B 3 1 b (V f) (lF f)):dO (zh w (aQ c (k*4+2)) b) B tp (sQ c (V P) i) (P.set k ({P[k].1 with parts:=f},b)):=by
 have j:=a.ne;simp[zy]at j;have m:∀{o:U}{n:Nat}{xs:List U},zu w B 3 1 o n xs->zu (zh w (aQ c (k*4+2)) b) B 3 1 o n xs:=λl=>
  uX l (by
   rcases dC l a.row (by decide)with e|e
   .rw[e];simp
   exact λp=>e (by rw[<-p];rfl)) _
 refine⟨?_,a.high,?_,?_⟩
 .rw[heap_setCell_other _ _ _ _ (by simpa using λe=>j e.symm),a.box]
 .have r:=(a.row.stored (k*4+2) b).1;rw[bAv P k q f b]at r;simpa using r
 intro t g;rcases yt g with g|rfl
 .exact m (a.parts t g)
 exact m s
theorem bAw(P:Tb)(k:Nat)(c:k<V P)(a:List Nat)(b:U):(P.set k ({P[k].1 with parts:=a},b)).map zo=Go.Proofs.YtenobhkjiebhaaaGreatDoor.setParts (P.map zo) k a:=by apply List.ext_getElem?;grind[aA7]
structure oR(w:zv)(B tp:Nat)(v:U)(P:Tb)(up:Int)(s:List Nd)(k:Nat)(s':List Nd)(w':zv)(v':U)(P':Tb):Prop where
 tab:dO w' B tp v' P'
 put:gI up (P.map zo) 1 s (P'.map zo) [k] s'
 far:gD w w' tp v
 moved:dM w v v'
 old:∀p∈P',(∃q∈P,p.2=q.2)\/zy p.2=zq\/∃g,zy p.2=zx g/\w.heap.size<=g
 len:V P'+V s'<=V P+V s
structure wZ(w:zv)(B tp:Nat)(v:U)(P0:Tb)(up:Int)(s:List Nd)(j:Nat)(s':List Nd)(pv:U)(ps:List Nat)(w':zv)(v':U)(P':Tb):Prop where
 tab:dO w' B tp v' P'
 put:gI up (P0.map zo) j s (P'.map zo) ps s'
 far:gD w w' tp v
 moved:dM w v v'
 old:∀p∈P',(∃q∈P0,p.2=q.2)\/zy p.2=zq\/∃g,zy p.2=zx g/\w.heap.size<=g
 len:V P'+V s'<=V P0+V s
 own:zu w' w.heap.size 3 1 pv (V ps) (lF ps)
 apart:∀p∈P',zy p.2=zq\/zy p.2≠zy pv
section
variable {w w':zv}{B tp:Nat}{v v' pv:U}{P0 P':Tb}{up:Int}{s s':List Nd}{j:Nat}{ps:List Nat}
theorem wZ.start(a:dO w B tp v P0):wZ w B tp v P0 up s 0 s (nQ) [] w v P0:=
 ⟨a,gI.nil _ _,gD.refl _ _ _,dM.refl _ _,λp b=>z9 ⟨p,b,rfl⟩,zr _,zk _ _ _ _,λp _=>by
  cases hb:zy p.2 with
  |none=>exact z9 rfl
  |some g=>exact yz (by simp[zy])⟩
theorem dO.grown(a:dO w B tp v P0){f:zv}{o:Option Nat}(b:zc w f o)(g:o≠zx tp)(i:zy v=zq\/zy v≠o)(l:∀p∈P0,zy p.2=zq\/zy p.2≠o):dO f B tp v P0:=
 ⟨by rw[b.block tp (bA a.box) (λe=>g e.symm),a.box],a.high,eW a.row b i,λp c=>eW (a.parts p c) b (l p c)⟩
theorem gI.len(a:gI up (P0.map zo) j s (P'.map zo) ps s'):V P0<=V P':=by obtain⟨c,b⟩:=a.inv;have:=b.more;simpa using this
theorem wZ.next(a:wZ w B tp v P0 up s j s' pv ps w' v' P'){k:Nat}{C:List Nd}{f w6:zv}{y pv6:U}{o:Tb}{X:Obj}(b:oR w' B tp v' P' up s' k C f y o):zu f w.heap.size 3 1 pv (V ps) (lF ps)/\(zc (f.alloc X) w6 (zy pv)->zu w6 w.heap.size 3 1 pv6 (V ps+1) (lF ps++[iQ k])->dM (f.alloc X) pv pv6->wZ w B tp v P0 up s (j+1) C pv6 (ps++[k]) w6 y o):=by
 have H:zy pv≠zx tp:=eX a.own a.tab.box (by decide);have I:zy pv=zq\/zy pv≠zy v':=dC a.own a.tab.row (by decide);have t:=b.far.own a.own H I;refine⟨t,λg G F=>?_⟩;have D:aB f (f.alloc X):=aI _ X;have S:(f.alloc X).heap.size=f.heap.size+1:=by simp
 have T:=b.far.size;have L:=a.far.size;have z:∀c∈o,zy c.2=zq\/zy c.2≠zy pv:=by
  intro c l;rcases b.old c l with⟨x,u,e⟩|e|⟨q,e,A⟩
  .rw[e];exact a.apart x u
  .exact z9 e
  right;intro p;rw[e]at p;have:=(bS a.own q p.symm).2;omega
 have J:dO w6 B tp y o:=(b.tab.below D).grown g (eX t b.tab.box (by decide)) (dC b.tab.row t (by decide)) z;have E:gD w w6 tp v:=by have m:=a.far.trans a.moved b.far;refine⟨g.os.trans m.os,g.tape.trans m.tape,g.output.trans m.output,by have:=g.size;have:=m.size;omega,λi M N R=>?_⟩;rw[g.block i (by omega) (λe=>by have:=(bS a.own i e.symm).1;omega),heap_alloc_old _ _ (by omega),m.block i M N R]
 refine⟨J,a.put.append b.put,E,a.moved.trans b.moved L,?_,by have:=a.len;have:=b.len;omega,by rw[zi,show lF (ps++[k])=lF ps++[iQ k] from zm ..];exact G,?_⟩
 .intro c l;rcases b.old c l with⟨x,u,e⟩|e|⟨q,e,A⟩
  .rw[e];exact a.old x u
  .exact yz (z9 e)
  exact yz (yz ⟨q,e,by omega⟩)
 intro c l;rcases F with e|⟨q,e,A⟩
 .rw[e];exact z c l
 rw[e];cases hb:zy c.2 with
 |none=>exact z9 rfl
 |some g'=>
  right;intro p;simp at p;have:=(bS (b.tab.parts c l) g' hb).2;omega
end
theorem gD.setV{wr:zv}{c g:Nat}{i j:U}(a:gD w wr tp v)(p:dM w v i)(o:zy i=zx c):gD w (zh wr (aQ c g) j) tp v:=by have b:=cD wr (aQ c g) j;refine⟨b.os.trans a.os,b.tape.trans a.tape,b.output.trans a.output,zf a.size b.size,λk f l m=>?_⟩;rw[b.block k (yv f a.size) (λe=>?_),a.block k f l m];grind[dM]
theorem dI.lowB{a:Option Addr}{j:List Nd}(c:dI w a j)(q:∀p,a=zx p->p.block<B)(g:Below B w w'):dI w' a j:=
 ⟨c.few,c.short,λk o=>by
  obtain⟨b,f,rfl,l,m⟩:=c.cell k o;have i:=q _ rfl;exact⟨b,f,rfl,(g.cell (p:=(aQ b (f+k*2))) i).trans l,(g.cell (p:=(aQ b (f+k*2+1))) i).trans m⟩⟩
def qV(Q:Tb)(a:Nat):Nat:=if h:a<V Q then Q[a].1.cls else V Q+a
theorem aH8(g:jY Q)(c f:Nat):qV Q c=qV Q f↔bQ Q c f:=by
 unfold qV;by_cases a:c<V Q<;>by_cases b:f<V Q
 .rw[dif_pos a,dif_pos b];exact(bQ.iff a b).symm
 .rw[dif_pos a,dif_neg b];constructor
  .intro e;have:=g.cls c a;omega
  rintro(e|⟨_,h,_⟩)
  .omega
  exact absurd h b
 .rw[dif_neg a,dif_pos b];constructor
  .intro e;have:=g.cls f b;omega
  rintro(e|⟨h,_,_⟩)
  .omega
  exact absurd h a
 rw[dif_neg a,dif_neg b];constructor
 .intro e;exact z9 (by omega)
 rintro(e|⟨h,_,_⟩)
 .omega
 exact absurd h a
theorem bAx(a e:List Nd):(a.take 501++e).take 501=(a++e).take 501:=by grind[zl]
theorem aO5(a:List Nd)(b:V a<=501):a.take 501=a:=zl b
theorem bAy{a:Nat}{c:List Nd}(g:a<V Q)(f:aX (bJ Q) (bQ Q) (qV Q) [a] c)(j:∀b (i:b<V Q),¬(Q[b].1.cls=Q[a].1.cls/\aK Q[b].1.node=zn)):c=[(⟨#[]⟩,(Q[a].1.cls:Int))]:=by
 cases f with
 |var h1 h2=>
  cases h2;unfold qV;rw[dif_pos g]
 |name h1 h2 h3=>
  grind[bQ,bQ.iff,vG]
theorem bAz(o:jY Q)(b:gL (bJ Q) (bQ Q))(l:fU (bJ Q) (bQ Q)){f a:Nat}{q:List Nd}(z:f<V Q)(g:a<V Q)(u:Q[a].1.cls=Q[f].1.cls)(A:aK Q[a].1.node=zn)(x:aX (bJ Q) (bQ Q) (qV Q) [f] q):∃j,q=Q[a].1.node::j/\aX (bJ Q) (bQ Q) (qV Q) Q[a].1.parts j:=by
 have i:(bJ Q).named a:=by show aK ((bJ Q).lab a)=zn;rw[sX Q a g];exact A
 have p:bQ Q f a:=(bQ.iff z g).2 u.symm;cases x with
 |var h1 h2=>exact absurd i (h1 a p)
 |@name _ c _ j h1 h2 h3=>
  have m:bQ Q c a:=b.trans _ _ _ (b.symm _ _ h1) p;have t:=aA8 b l o.arity m h2 i;rw[List.append_nil]at h3;have s:=h3.same b (λC c y=>(aH8 o C c).2 y) _ t;rw[vH Q a g]at s;have D:=l c a m h2 i;grind[sX]
theorem aO6{f:zv}{d b:Nat}{l:Nat}{c:Obj}(g:zu w b e l v n xs)(i:b<=w.heap.size)(a:zc ((w.drewN d).alloc c) f (zy v)):Below b w f:=by have j:Below b w ((w.drewN d).alloc c):=(((aN ⟨d,rfl⟩).alloc (zr _) c:aB w ((w.drewN d).alloc c))).mono i;refine j.trans ⟨a.os,a.tape,a.output,a.size,λk m=>a.block k (by simp;omega) (λe=>?_)⟩;have:=(bS g k e.symm).1;omega
theorem bB0(B tp:Nat)(v:U)(Q:Tb)(I:jY Q)(b3:gL (bJ Q) (bQ Q))(b4:fU (bJ Q) (bQ Q))(f0:V Q<=1000000)(f7:∀g0∈Q,V g0.1.parts<=1000000)(a2:zv)(D:dO a2 B tp v Q)(i:Nat)(l:a2.heap.size<=i):∀(n g:Nat) (o a:List Nd) (J:U) (w:zv),V o<n->aX (bJ Q) (bQ Q) (qV Q) [g] o->g<V Q->Below i a2 w->i<=w.heap.size->jB w i J a->V a<=501->
  Calls zg 115 #[pQ tp,J,iQ g] w λe w'=>∃c8,e=.returned c8/\jB w' i c8 ((a++o).take 501)/\Below i w w':=by
 obtain⟨g4,g5,rfl,G⟩:=D.shape;intro n;induction n with
 |zero=>intro g o a J w f5;omega
 |succ n ih=>
  intro g o a J w f5 b8 a1 E T b f6;have z:dO w B tp (.slice g4 (V Q) g5) Q:=D.below (E.mono l);obtain⟨h9,i0,rfl⟩:=aZ b;have e6:=O ih;clear ih;by_cases h2:500<V a
  .have e9:(500:Int)<(V a:Int):=by omega
   have x:=O b;clear z G b;go_enter Tryz.func115,Tryz.ntmps115;go_wp2;go_ret;have e:(a++o).take 501=a:=by rw[List.take_append_of_le_length (by omega),zl f6]
   exact⟨_,rfl,by rw[e];exact x.o,dP⟩
  have e9:¬(500:Int)<(V a:Int):=by omega
  have b7:=z.cell;obtain⟨h0,rfl,p,q,m,s⟩:=G g a1;have e7:=Below.at' E l s;clear p q m s;have h7:(g:Int)<(V Q:Int):=by omega
  have a4:=O (aPh B tp _ Q Q[g].1.cls w z f0);have a6:=O b8;have a5:=O G;have x:=O b;have C:=O E;have g6:=O z;have e2:=O (show Q[g].1.cls=Q[g].1.cls from rfl);clear z G b E b8;generalize hcls:Q[g].1.cls=cl at *;have M:=O hcls;clear hcls e2;go_enter Tryz.func115,Tryz.ntmps115;go_upto_region 5 with(first
   |(go_at_call 145;refine(aD a4).mono ?_;rintro e a3 ⟨r,rfl,f1,d,rfl⟩)
   |go_in)
  clear a4;rcases f1 with⟨rfl,c4⟩|⟨c,rfl,H,c0,c1⟩
  .have a8:=O (bAy a1 a6.o (by rw[M.o];exact c4));rw[M.o]at a8;clear c4;have b:=x.o;go_wp2_with(first
    |(at_builtin;refine eU kK yg ((aJs b d).alloc _) ?_)
    |go_in)
   intro g3 a3 y f _;clear b;have N:=O y;have d6:=O f;clear y f;go_wp2;go_ret;refine⟨_,rfl,?_,?_⟩
   .have:=N.o;unfold jB;rw[a8.o,aO5 _ (by simp;omega),zi,sA];exact this
   exact aO6 x.o T d6.o
  obtain⟨c7,c3,b9⟩:=bAz I b3 b4 a1 H (by rw[M.o];exact c0) c1 a6.o;obtain⟨j,c9,d0,d1⟩:=aQl b3 b4 I.arity (λA f8 f2=>(aH8 I A f8).2 f2) b9;obtain⟨e8,f,p,q,m,s⟩:=a5.o c H;simp at f;subst f;have b1:=Below.at' C.o l p;have b2:=Below.at' C.o l q;have S:=Below.at' C.o l m;clear p q m s;have h4:(c:Int)<(V Q:Int):=by omega
  have h3:¬(c:Int)<0:=by omega
  have e0:=O (D.parts Q[c] (zs _));have h6:=f7 Q[c] (zs _);have d9:=O (I.parts c H);clear c0 c1 b9;have a9:=O c3;have e3:=O c9;have e4:=O d0;have e5:=O d1;clear c3 c9 d0 d1;generalize Q[c].1.parts=pl at *;generalize hq2:Q[c].2=pv at *;generalize Q[c].1.node=nd at *;obtain⟨t,u⟩:=nd;simp only at b1 b2;obtain⟨g1,g2,rfl,c5⟩:=xQ e0.o;have d8:=O c5;have e1:=O hq2;clear c5 hq2;have b:=x.o;go_wp2_with(first
   |(at_builtin;refine eU kK yg ((aJs b d).alloc _) ?_)
   |go_in)
  intro g3 a3 y f _;have b5:Below i w a3:=aO6 b T f;clear b b1 b2 S e7 b7;have N:=O y;have d3:=O b5;clear y f b5;go_wp2;go_loopw[1,9] (λf9 A wr=>∃k:Nat,k<=V pl/\A=iQ k/\jB wr i f9 ((a++[(t,u)]++((pl.take k).map j).flatten).take 501)/\Below i w wr) (λ_ A _=>V pl-(intOf A).toNat);case atStart=>
   refine⟨0,z4 _,rfl,?_,d3.o⟩;unfold jB;rw[List.take_zero,yf,List.flatten_nil,List.append_nil,aO5 _ (by simp;omega),zi,sA];exact N.o
  case round=>
   obtain⟨k,h5,rfl,a0,W⟩:=hrel;have F:=C.o.trans W;have c6:dO wr B tp _ Q:=D.below (F.mono l);have b7:=c6.cell;obtain⟨e8,f,p,q,m,s⟩:=a5.o c H;simp at f;subst f;have S:=Below.at' F l m;rw[show (Q[c].2:U)=.slice g1 (V pl) g2 from e1.o]at S;clear p q m s c6;have R:=O a0;have L:=O W;obtain⟨i1,i3,i2,rfl⟩:=a0.shape;clear a0 W;by_cases c2:k<V pl
   .have f4:(k:Int)<(V pl:Int):=by omega
    obtain⟨h1,rfl,b0⟩:=d8.o k c2;have g9:=Below.at' F l b0;have d2:=O (e6.o pl[k] (j pl[k]) _ _ wr (by have:=e4.o pl[k] (zs _);have:=a9.o;have:=congrArg V this;simp at this;omega) (e3.o _ (zs _)) (d9.o _ (zs _)) F (zf T L.o.size) R.o (by simp;omega));have a7:aE ((pl.take (k+1)).map j=(pl.take k).map j++[j pl[k]]):=O (by rw[zb c2,zm];rfl);have d5:aE ((((a++[(t,u)]++((pl.take k).map j).flatten).take 501)++j pl[k]).take 501=(a++[(t,u)]++((pl.take (k+1)).map j).flatten).take 501):=O (by rw[bAx,a7.o,List.flatten_append];simp);clear b0 R a7;generalize ((a++[(t,u)]++((pl.take k).map j).flatten).take 501)=cur at *;generalize pl[k]=pk at *;go_wp2_with(first
     |(go_at_call 115;refine(aD d2).mono ?_;rintro e i5 ⟨i4,rfl,X,b6⟩;have d7:=O X;have d4:=O b6;obtain⟨g7,h8,g8,rfl⟩:=X.shape;clear X b6)
     |go_in)
    exact⟨⟨k+1,by omega,by go_num,by rw[<-d5.o];exact d7.o,L.o.trans d4.o⟩,by simp[intOf];omega⟩
   have f3:k=V pl:=by omega
   subst f3;have f4:¬((V pl:Int)<(V pl:Int)):=by omega
   go_wp2;go_ret;refine⟨_,rfl,?_,L.o⟩;have:=R.o;rw[List.take_length,e5.o]at this;rw[a9.o,show a++(t,u)::c7=a++[(t,u)]++c7 by simp];exact this
theorem bB1(w:zv)(m:TypeId)(f:Nat)(v:U)(P:Tb)(u:zu w f 185 4 v (V P) (gY P))(W:V P<=1000000)(E:f<=w.heap.size)(b g:Nat)(nd:Nd)(k:Nat)
  (J:cQ w b 0 (.string nd.1)) (L:cQ w b 1 (iQ nd.2)) (M:cQ w b 2 (nQ)) (N:cQ w b 3 (iQ k)):∃c w',(Builtin.append_ #[140,140] m #[v,sQ b 1 g]).run zg w=.ok c w'/\zu w' f 185 4 c (V P+1) (gY P++[.string nd.1,iQ nd.2,nQ,iQ k])/\zc w w' (zy v)/\dM w v c:=by
 obtain⟨C,q,A,x,z⟩:=info_parts bAt;have s:∀(l:Nat) (D:U),[Value.string nd.1,iQ nd.2,nQ,iQ k][l]?=zx D->zj w (((aQ b 0):Addr).add l)=zx D:=by
  intro l D a;have F:=(eE a);simp at F;match l,F,a with
  |0,_,a=>simp at a;subst a;exact J
  |1,_,a=>simp at a;subst a;exact L
  |2,_,a=>simp at a;subst a;exact M
  |3,_,a=>simp at a;subst a;exact N
 have o:∀H∈[Value.string nd.1,iQ nd.2,nQ,iQ k],H.oneCell'=true:=by intro H G;simp at G;rcases G with rfl|rfl|rfl|rfl<;>rfl
 by_cases y:zy v=zq
 .have t:v=nQ/\V P=0:=by
   obtain⟨_,I|⟨b,R,S,rfl,_⟩⟩:=u
   .exact I
   simp[zy]at y
  obtain⟨c,w',j,i,p,T⟩:=run_append_own (P:=zg) w w.heap.size 140 m 185 C _ 4 56 yu q A x z rfl (by decide) v (V P) (gY P) (by rw[t.1,t.2];have:gY P=[]:=(by rw[ze t.2];rfl);rw[this];exact zk _ _ _ _) (aQ b 0) 1 g [.string nd.1,iQ nd.2,nQ,iQ k] rfl s o (by unfold maxLen;omega) (by omega) (zr _);refine⟨c,w',j,fM i E,p,?_⟩;cases hb:zy c with
  |none=>exact z9 (by rw[hb,y])
  |some g'=>exact yz ⟨g',hb,(bS i g' hb).1⟩
 obtain⟨c,w',j,i,p,_⟩:=run_append_own (P:=zg) w f 140 m 185 C _ 4 56 yu q A x z rfl (by decide) v (V P) (gY P) u (aQ b 0) 1 g [.string nd.1,iQ nd.2,nQ,iQ k] rfl s o (by unfold maxLen;omega) (by omega) E;refine⟨c,w',j,i,p,?_⟩;rcases aB9 w f 140 m 185 C _ 4 56 yu q A x z (by decide) v (V P) (gY P) u y (aQ b 0) 1 g [.string nd.1,iQ nd.2,nQ,iQ k] rfl s o (by unfold maxLen;omega) (by omega) j with e|e;all_goals grind[dM,gY]
theorem aO7{j:Array Oper}{a:Oper}{b:Act}{w:zv}{K:Act->zv->Prop}{Q:Exit->Act->zv->Prop}{o:Prop}(x:a.guard=zq)(l m:Operand)
  (z:a.op=.call {callee:=.builtin .append,args:=#[l,m],argTypes:=#[140,140]}) (g:Nat) (v:U) (P:Tb) (D:b.eval l=v) (A:zu w g 185 4 v (V P) (gY P)) (y:V P<=1000000) (u:g<=w.heap.size)
  (c i:Nat) (nd:Nd) (k:Nat) (F:b.eval m=sQ c 1 i) (G:cQ w c 0 (.string nd.1)) (H:cQ w c 1 (iQ nd.2)) (I:cQ w c 2 (nQ)) (J:cQ w c 3 (iQ k))
  (p:∀f w',zu w' g 185 4 f (V P+1) (gY P++[.string nd.1,iQ nd.2,nQ,iQ k])->zc w w' (zy v)->dM w v f->K (b.put a.dst f) w'):if Region.wanted a (yielded j b.tmps)=zt then Oper.wp zg a b w K Q else o:=by
 have E:Region.wanted a (yielded j b.tmps)=true:=by simp[Region.wanted,x]
 rw[aT E];obtain⟨f,w',C,q,s,t⟩:=bB1 w a.type g v P A y u c i nd k G H I J;unfold Oper.wp execOp;simp only[z,resolve,invoke,builtin,Sem.run_bind,Sem.run_pure,Result.andThen_ok,yd,yx,yf,D,F,C];exact p f w' q s t
theorem bB2{a:zv}(b:aB w a)(i:dO w B tp v P)(c:k<V P)(f:P[k].1.node=oD up nd)(j:aK nd=zt):oR w B tp v P up (nd::r) k r a v P:=
 ⟨i.below b,gI.old j ⟨P[k].1,by rw[ye,z6 c];rfl,f⟩ (gI.nil _ _),gD.below b,dM.refl _ _,λl g=>z9 ⟨l,g,rfl⟩,by simp⟩
structure aH9(w:zv)(B tp bx:Nat)(v v3:U)(P:Tb)(nd:Nd)(w4:zv):Prop where
 tab:dO w4 B tp v3 (P++[(⟨nd,V P,[]⟩,nQ)])
 far:gD w w4 tp v
 moved:dM w v v3
 b0:zj w4 (aQ bx 0)=zx (.string nd.1)
 b1:zj w4 (aQ bx 1)=zx (iQ nd.2)
 blt:bx<w4.heap.size
 vne:zy v3≠zx bx
 tne:bx≠tp
theorem aO8{a i:zv}{b:Nat}{j:U}{c:Obj}(A:aB w a)(o:dO w B tp v P)(H:w.heap.size<=b)(u:cQ a b 0 (.string nd.1))(F:cQ a b 1 (iQ nd.2))
  (f:zc (a.drew.alloc c) i (zy v)) (C:zu i B 185 4 j (V P+1) (gY P++[.string nd.1,iQ nd.2,nQ,iQ (V P)])) (s:dM (a.drew.alloc c) v j):aH9 w B tp b v j P nd (zh i (aQ tp 0) j)/\cQ i tp 0 v/\World.frozen? i (aQ tp 0)=false:=by
 have l:aB a (a.drew.alloc c):=(aN (w1:=a.drew) ⟨1,rfl⟩).alloc (zr _) c;have m:aB w (a.drew.alloc c):=bE A l;have g:=o.below m;have L:tp<w.heap.size:=(bA o.box);obtain⟨y,z⟩:=g.grow f C;have t:zy v≠zx b:=λe=>by have:=(bS o.row b e).2;omega
 have D:=aC l u;have E:=aC l F;have G:b<a.heap.size:=z7 _ _ u;have J:=f.size;have I:(a.drew.alloc c).heap.size=a.heap.size+1:=by simp
 refine⟨⟨y,(gD.below m).trans (dM.refl _ _) z,?_,?_,?_,?_,?_,by omega⟩,?_,?_⟩
 .rcases s with e|⟨p,e,q⟩
  .exact z9 e
  exact yz ⟨p,e,zf m.size q⟩
 .exact jF (f.cell D (λe=>t e.symm)) (by simp;omega)
 .exact jF (f.cell E (λe=>t e.symm)) (by simp;omega)
 .simp[zh];omega
 .intro e;rcases s with x|⟨p,x,q⟩;all_goals grind
 .exact f.cell g.cell (λe=>g.ne e.symm)
 rw[World.frozen?_of_block (f.block tp (bA g.box) (λe=>g.ne e.symm))];exact g.soft
theorem bB3{i:zv}{j:Nat}{g:U}(b:aH9 w B tp j v g P (oD up nd) i)(o:aK nd=zt)(m:∀a (c:a<V P),P[a].1.node≠oD up nd):oR w B tp v P up (nd::r) (V P) r i g (P++[(⟨oD up nd,V P,[]⟩,nQ)]):=by
 have l:V (P.map zo)=V P:=by simp
 have hp:=gI.new (R:=P.map zo) (s:=r) (k:=0) o (λq p=>by
  obtain⟨f,hp,rfl⟩:=List.mem_map.1 p;obtain⟨a,c,rfl⟩:=yj hp;exact m a c) (gI.nil _ _)
 rw[l]at hp;refine⟨b.tab,by rw[zm];exact hp,b.far,b.moved,λf hp=>?_,by simp;omega⟩;rcases List.mem_append.1 hp with hp|hp
 .exact z9 ⟨f,hp,rfl⟩
 simp at hp;subst hp;exact yz (z9 rfl)
theorem bB4(w:zv)(o:TypeId)(f:Nat)(v:U)(n:Nat)(xs:List U)(l:zu w f 3 1 v n xs)(C:n<=1000000)(s:f<=w.heap.size)(b i:Nat)(c:Int)(u:cQ w b 0 (iQ c)):∃a w',(Builtin.append_ #[24,24] o #[v,sQ b 1 i]).run zg w=.ok a w'/\zu w' f 3 1 a (n+1) (xs++[iQ c])/\zc w w' (zy v)/\dM w v a:=by
 by_cases m:zy v=zq
 .obtain⟨L,z,J,G,I⟩:=info_parts mR;have E:v=nQ/\n=0:=by
   obtain⟨_,x|⟨b,M,N,rfl,_⟩⟩:=l
   .exact x
   simp[zy]at m
  obtain⟨rfl,rfl⟩:=E;have H:xs=[]:=ze (by have:=l.1;simpa using this);subst H;have D:∀(g:Nat) (p:U),[iQ c][g]?=zx p->zj w (((aQ b 0):Addr).add g)=zx p:=by
   intro g p t;have A:g=0:=by grind
   subst A;simp at t;subst t;exact u
  obtain⟨a,w',F,j,q,y⟩:=run_append_own (P:=zg) w w.heap.size 24 o 3 L (iQ 0) 1 8 yy z J G I rfl (by decide) (nQ) 0 [] (zk _ _ _ _) (aQ b 0) 1 i [iQ c] rfl D (aT3 c) (by unfold maxLen;omega) (by omega) (zr _);refine⟨a,w',F,fM j s,q,?_⟩;cases hb:zy a with
  |none=>exact z9 (by rw[hb,m])
  |some g'=>exact yz ⟨g',hb,(bS j g' hb).1⟩
 obtain⟨a,w',j,q,y,R⟩:=aQp w o f v n xs l m C s b i c u;grind[dM]
theorem aBe{l:Array Oper}{m:List Oper}{a:Oper}{c:Act}{Q:Exit->Act->zv->Prop}(z:a.guard=zq)(o p:Operand)(C:a.op=.call {callee:=.builtin .append,args:=#[o,p],argTypes:=#[24,24]})
  (f:Nat) (v:U) (n:Nat) (xs:List U) (F:c.eval o=v) (D:zu w f 3 1 v n xs) (A:n<=1000000) (y:f<=w.heap.size) (g j:Nat) (i:Int) (H:c.eval p=sQ g 1 j) (G:cQ w g 0 (iQ i))
  (q:∀b w',zu w' f 3 1 b (n+1) (xs++[iQ i])->zc w w' (zy v)->dM w v b->wpList zg l Q m (c.put a.dst b) w'):wpList zg l Q (a::m) c w:=by
 refine wpList_plain z λK x=>?_
 obtain⟨b,w',E,s,t,u⟩:=bB4 w a.type f v n xs D A y g j i G;unfold Oper.wp execOp;simp only[C,resolve,invoke,builtin,Sem.run_bind,Sem.run_pure,Result.andThen_ok,yd,yx,yf,F,H,E];exact x _ _ (q b w' s t u)
theorem bB5{z wr:zv}{A j o:Nat}{y f:U}{c:Tb}{m:List Nd}{g:List Nat}(b:aH9 w B tp A v y P nd z)(D:aK nd=zn)(a:wZ z B tp y (P++[(⟨nd,V P,[]⟩,nQ)]) up r (bI nd) m f g wr (sQ j (V c) o) c)(p:V P<V c):oR w B tp v P up (nd::r) (V P) m (zh wr (aQ j (V P*4+2)) f) (sQ j (V c) o) (c.set (V P) ({c[P.length].1 with parts:=g},f)):=by
 have q:V (P.map zo)=V P:=by simp
 have x:=b.far.size;have C:zu wr B 3 1 f (V g) (lF g):=fM a.own (zf (by have:=b.tab.high;have:=(bA b.tab.box);omega) (zr _));have u:=a.put;rw[zm]at u;have t:=gI.name (R:=P.map zo) (n:=nd) (k:=0) (s:=r) (s1:=m) D (by rw[q];exact u) (gI.nil _ _);rw[q]at t;refine⟨a.tab.setParts _ p g f C,by rw[bAw _ _ p];exact t,(b.far.trans b.moved a.far).setV (b.moved.trans a.moved x) rfl,b.moved.trans a.moved x,λE l=>?_,?_⟩
 .rcases yt l with l|rfl
  .rcases a.old E l with⟨F,hq,e⟩|e|⟨i,e,G⟩
   .rcases List.mem_append.1 hq with hq|hq
    .exact z9 ⟨F,hq,e⟩
    simp at hq;subst hq;rw[e];exact yz (z9 rfl)
   .exact yz (z9 e)
   exact yz (yz ⟨i,e,by omega⟩)
  right;cases hb:zy f with
  |none=>exact z9 rfl
  |some i=>exact yz ⟨i,rfl,by have:=(bS a.own i hb).1;omega⟩
 have:=a.len;simp at this ⊢;omega
theorem gD.cell{u:U}{p:Addr}(b:gD w w' tp v)(a:zj w p=zx u)(c:p.block≠tp)(f:zy v≠zx p.block):zj w' p=zx u:=by have g:=b.block p.block (z7 w p a) c f;rw[<-a];unfold zj;rw[g]
theorem gI.ps_len{b:List Rw}{i:List Nd}{c:List Rw}{a:List Nat}{j:List Nd}(f:gI up b k i c a j):V a=k:=by obtain⟨l,g⟩:=f.inv;rw[g.ps,z3,yG]
def aO9(w:zv)(B tp:Nat)(v:U)(P:Tb)(up:Int)(b:List Nd)(c g k a:Nat)(w':zv):Prop:=
 a<=V b/\c<=a/\aP (b.drop a) g=zt/\∃(i:U) (f:Tb),oR w B tp v P up (b.drop c) k (b.drop a) w' i f
theorem bB6(B tp:Nat)(up:Int)(i6:0<=up/\up<=1000)(b6:Option Addr)(h2:Nat)(g:List Nd)(l3:V g<=60)(i2:∀f5,b6=zx f5->f5.block<B):∀(n b m:Nat) (v:U) (P:Tb) (w:zv),V (g.drop b)<=n->aP (g.drop b) (m+1)=zt->dI w b6 g->dO w B tp v P->V P+V (g.drop b)<=100000->B<=w.heap.size->
  Calls zg 76 #[pQ tp,.slice b6 (V g) h2,iQ b,iQ up] w λe w'=>∃k f4:Nat,e=.returned (.tuple #[iQ k,iQ f4])/\aO9 w B tp v P up g b m k f4 w':=by
 intro n;induction n with
 |zero=>
  intro b m v P w c6 o;have:=ze (Nat.le_zero.1 c6);rw[this]at o;simp[aP]at o
 |succ n ih=>
  intro b m v P w c6 o a1 M k3 c2;have c4:b<V g:=by apply Nat.lt_of_not_le;intro h6;rw[List.drop_eq_nil_of_le h6]at o;simp[aP]at o
  obtain⟨j8,m6,rfl,b9,c0⟩:=a1.cell b c4;have a5:g.drop b=g[b]::g.drop (b+1):=z5 c4;rw[a5,mC,Bool.and_eq_true]at o;obtain⟨e8,o⟩:=o;have i4:=a1.short b c4;have k7:(b:Int)<(V g:Int):=by omega
  have h8:V (g.drop b)=V (g.drop (b+1))+1:=by rw[a5];rfl
  have b4:=O a5;have a0:=O o;have d4:=O e8;have g1:=O a1;have q:=O M;have g9:=O ih;obtain⟨R,E,rfl⟩:=aZ M.row;have a4:=M.cell;have l6:tp<w.heap.size:=(bA M.box);generalize g[b]=nd at *;obtain⟨c,i⟩:=nd;simp only at b9 c0 i4;clear a5 o e8 a1 M ih;by_cases a9:c.toList.isEmpty=zt
  .have t:aK (c,i)=true:=by simpa[aK]using a9
   have b0:0<=i/\i<60:=by have:=d4.o;unfold dQ at this;rw[aT t]at this;simpa using this
   obtain⟨m2,m3⟩:=b0;obtain⟨l7,f1⟩:=i6;have z:=O t;clear t;go_enter Tryz.func76,Tryz.ntmps76;go_wp2;obtain⟨F,W⟩:=zO w (.string c) (iQ (i+up)) 52;have s:aB w (w.alloc (.cells #[.string c,iQ (i+up)] 52)):=aI _ _;generalize w.alloc (.cells #[.string c,iQ (i+up)] 52)=W1 at *;have G:=O s;clear s b9 c0;have h7:=q.o.shape;obtain⟨m9,n0,f3,L⟩:=h7;simp at f3;obtain⟨rfl,rfl⟩:=f3;have g5:=O L;clear L;have d9:=aC G.o a4;clear a4;go_loopw[11] (λb wr=>∃k:Nat,k<=V P/\b=iQ k/\(∀a (C:a<k) (e1:a<V P),P[a].1.node≠(c,i+up))/\∃d,wr=W1.drewN d) (λb _=>V P-(intOf b).toNat);exact⟨0,z4 _,rfl,λa C=>by omega,0,rfl⟩;obtain⟨k,l1,rfl,e7,d,rfl⟩:=hrel;have d3:=O e7;clear e7;by_cases e3:k<V P
   .have e4:(k:Int)<(V P:Int):=by omega
    obtain⟨h4,rfl,b1,b2,f6,d0⟩:=g5.o k e3;have k0:=aC G.o b1;have k1:=aC G.o b2;have c7:=rY P[k].1.node (c,i+up);have k2:=tJ;have m8:=rZ P[k].1.node.1 c P[k].1.node.2 (i+up);clear b1 b2 f6 d0;simp only at c7;by_cases A:P[k].1.node=(c,i+up)
    .rw[fL A]at c7;have b5:=O A;clear A;go_wp2;go_quiet (fail);go_wp2;go_ret2;refine⟨k,b+1,zY rfl (by go_num),by omega,by omega,?_,sQ h4 (V P) E,P,?_⟩
     .have:=a0.o;rw[kE z.o]at this;exact this
     rw[b4.o];exact bB2 (bE G.o (aN (by first|exact dT _ _ _|exact⟨_,rfl⟩))) q.o e3 b5.o z.o
    rw[gG A]at c7;have b5:=O A;clear A;go_wp2;go_quiet (fail);go_wp2;go_roundw;case rel=>
     refine⟨k+1,by omega,by go_num,λa C e1=>?_,(by first|exact dT _ _ _|exact⟨_,rfl⟩)⟩;by_cases i0:a<k
     .exact d3.o a i0 e1
     have:a=k:=by omega
     subst this;exact b5.o
    case measure=>simp[intOf];omega
   have i1:k=V P:=by omega
   subst i1;have e4:¬((V P:Int)<(V P:Int)):=by omega
   have a2:aB w (W1.drewN d):=bE G.o (aN ⟨d,rfl⟩);have f8:zj (W1.drewN d) (aQ w.heap.size 0)=zx (.string c):=F;have j4:zj (W1.drewN d) (aQ w.heap.size 1)=zx (iQ (i+up)):=W;have a3:zj (W1.drewN d) (aQ tp 0)=zx (.slice R (V P) E):=d9;have d7:=a2.size;have d6:=z7 _ _ f8;clear F W d9;generalize W1.drewN d=W2 at *;have b3:=O a2;have a7:W2.drew.ownsRow B 185 4 (.slice R (V P) E) (V P) (gY P):=(q.o.below a2).row;clear a2;have c3:∀x,zj (W2.alloc x) (aQ tp 0)=zx (.slice R (V P) E):=λx=>aC (aI W2 x) a3
   go_wp2_with fail;go_region_law (refine aO7 (by rfl) _ _ (by rfl) B _ P (by rfl) (a7.alloc _) (by omega) (by simp;omega) W2.heap.size 1 (c,i+up) (V P) (by rfl) (by simp) (by simp) (by simp) (by simp) ?_;intro j2 d2 y I J;obtain⟨H,b8,c1⟩:=aO8 (nd:=(c,i+up)) b3.o q.o (zr _) f8 j4 I y J;obtain⟨S,N,T,rfl⟩:=aB8 y;have j:=O H;clear y I J H);all_goals
    have j5:=j.o.b0;have f9:=j.o.b1;clear b8 c1 c3;generalize zh d2 (aQ tp 0) (.slice S N T)=w4 at *;go_wp2;go_ret2;refine⟨V P,b+1,zY rfl (by go_num),by omega,by omega,?_,.slice S N T,P++[(⟨oD up (c,i),V P,[]⟩,nQ)],?_⟩
    .have:=a0.o;rw[kE z.o]at this;exact this
    rw[b4.o];exact bB3 (nd:=(c,i)) j.o z.o (λa C=>d3.o a C C)
  have l9:c.toList.isEmpty=false:=by simpa using a9
  have t:aK (c,i)=false:=by simpa[aK]using a9
  have b0:0<=i/\i<=5:=by have:=d4.o;unfold dQ at this;rw[aS (by rw[t];simp)]at this;simp at this;exact this.2
  obtain⟨f,rfl⟩:=Int.eq_ofNat_of_zero_le b0.1;have l4:f<=5:=by omega
  have c9:bI (c,(f:Int))=f:=by simp[bI,t]
  rw[c9]at a0;have g8:=O c9;have z:=O t;clear t b0 c9 a9;go_enter Tryz.func76,Tryz.ntmps76;go_wp2_with fail;obtain⟨F,W⟩:=zO w (.string c) (iQ f) 52;have s:aB w (w.alloc (.cells #[.string c,iQ f] 52)):=aI _ _;generalize w.alloc (.cells #[.string c,iQ f] 52)=W2 at *;have a3:=aC s a4;have d7:=s.size;have d6:=z7 _ _ F;have a7:W2.drew.ownsRow B 185 4 (.slice R (V P) E) (V P) (gY P):=(q.o.below s).row;have b3:=O s;clear s b9 c0 a4;have c3:∀x,zj (W2.alloc x) (aQ tp 0)=zx (.slice R (V P) E):=λx=>aC (aI W2 x) a3
  go_region_law (refine aO7 (by rfl) _ _ (by rfl) B _ P (by rfl) (a7.alloc _) (by omega) (by simp;omega) W2.heap.size 1 (c,(f:Int)) (V P) (by rfl) (by simp) (by simp) (by simp) (by simp) ?_;intro j2 d2 y I J;obtain⟨H,b8,c1⟩:=aO8 (nd:=(c,(f:Int))) b3.o q.o (zr _) F W I y J;obtain⟨S,N,T,rfl⟩:=aB8 y;have j:=O H;clear y I J H);all_goals
   have j5:=j.o.b0;clear b8 c1 F W a3 d6 a7 d7 c3;generalize zh d2 (aQ tp 0) (.slice S N T)=w4 at *;go_wp2;have f9:=j.o.b1;have k4:=j.o.blt;have d5:V (P++[((⟨(c,(f:Int)),V P,[]⟩:Rw),nQ)])=V P+1:=by simp
   go_loopw[2,13,14] (λh1 j0 b7 wr=>∃(a p:Nat) (D:List Nat) (d1:U) (u:Tb),a<=f/\b7=iQ a/\h1=iQ p/\b+1<=p/\p<=V g/\aP (g.drop p) (m+(f-a))=zt/\wZ w4 B tp (.slice S N T) (P++[(⟨(c,(f:Int)),V P,[]⟩,nQ)]) up (g.drop (b+1)) a (g.drop p) j0 D wr d1 u) (λ_ _ b7 _=>f-(intOf b7).toNat);exact⟨0,b+1,[],_,_,z4 _,rfl,by go_num,zr _,by omega,a0.o,wZ.start j.o.tab⟩;obtain⟨a,p,D,d1,u,C,rfl,rfl,k8,i5,a8,l⟩:=hrel;have d8:Below B w wr:=(j.o.far.low q.o.high (λk e=>(bS q.o.row k e).1) c2).trans (l.far.low j.o.tab.high (λk e=>(bS j.o.tab.row k e).1) (zf c2 j.o.far.size));have m4:cQ wr w.heap.size 1 (iQ f):=l.far.cell f9 j.o.tne j.o.vne;have c5:=l.len;rw[d5]at c5;have e9:=l.put.ps_len;have i3:V D<=1000000:=by omega
   have X:=O l;by_cases k9:a<f
   .have l0:(a:Int)<(f:Int):=by omega
    have f0:aP (g.drop p) ((m+(f-a-1))+1)=true:=by rw[show m+(f-a-1)+1=m+(f-a) by omega];exact a8
    have e5:V (g.drop p)<=n:=by simp at h8 c6 ⊢;omega
    have g0:=O (g9.o p (m+(f-a-1)) d1 u wr e5 f0 (g1.o.lowB i2 d8) l.tab (by omega) (zf c2 d8.size));obtain⟨i7,i9,i8,rfl⟩:=aB8 l.own;have m0:=X.o.far.size;clear l a8 f0 e9 c5 e5;go_wp2_with(first
     |(at_builtin;refine aBe rfl (.tmp 89) (.tmp 91) rfl w4.heap.size _ (V D) (lF D) rfl (g3.o.alloc _) i3 (by simp;omega) f7.heap.size 1 k rfl (by simp) ?_;intro m7 n1 c8 e0 e6;have g2:=O ((X.o.next g4.o).2 e0 c8 e6);obtain⟨j7,m5,j9,rfl⟩:=aB8 c8;clear c8 e0 e6)
     |(go_at_call 76;refine(aD g0).mono ?_;rintro e f7 ⟨k,j1,rfl,f1,l8,f2,j3,h0,a6⟩;have g4:=O a6;have g3:=O (X.o.next (X:=.map #[] 0) (w6:=f7) (pv6:=nQ) a6).1;have m1:=a6.far.size;have g7:=O f2;clear a6 f2)
     |go_in)
    exact⟨⟨a+1,j1,D++[k],j3,h0,by omega,by go_num,rfl,by omega,f1,by rw[show m+(f-(a+1))=m+(f-a-1) by omega];exact g7.o,g2.o⟩,by simp[intOf];omega⟩
   have h9:a=f:=by omega
   subst h9;have e4:¬((a:Int)<(a:Int)):=by omega
   have e2:V P<V u:=by have:=l.put.len;rw[d5]at this;omega
   have l2:(V P:Int)<(V u:Int):=by omega
   obtain⟨j6,h3,rfl,L⟩:=l.tab.shape;obtain⟨h5,rfl,b1,b2,f6,d0⟩:=L (V P) e2;have k5:=l.tab.cell;have k6:=l.tab.frozen (V P*4+2);obtain⟨i7,i9,i8,rfl⟩:=aB8 l.own;have g6:=O a8;have l5:V u<=1000000:=by omega
   clear b1 b2 d0 L l a8 c5 e9;go_wp2;go_ret2;refine⟨V P,p,zY rfl rfl,i5,by omega,?_,sQ h5 (V u) h3,_,by rw[b4.o];exact bB5 j.o z.o (by rw[g8.o];exact X.o) e2⟩;have:=g6.o;simpa using this
theorem dO.new(w:zv):dO (w.alloc (.cells #[nQ] 142)) w.heap.size w.heap.size (nQ) []:=
 ⟨heap_alloc_new _ _,zr _,zk _ _ _ _,λp a=>by simp at a⟩
theorem bB7{f:Nat->Nat->Prop}{i:Nat->Nat}{l:List Nat}{b:List Nd}(c:aX (bJ Q) f i l b):∀n∈b,n.1=⟨#[]⟩\/∃a,∃c:a<V Q,n=Q[a].1.node:=by
 induction c with
 |nil=>intro n g;simp at g
 |var _ _ ih=>
  grind
 |@name a j r b h1 h2 _ ih=>
  grind[sX,vG]
theorem Rows.node{c:List Tg}{R:List Rw}{g:Nat->Nat}{b:Tb}(i:Rows c R g)(m:b.map zo=R){a:Nat}(t:a<V b):∃f,f∈c/\b[a].1.node.1=f.2.1/\(aK f.2=zt->b[a].1.parts=[])/\(aK f.2=zn->b[a].1.parts.length=bI f.2):=by
 have x:V b=V R:=by rw[<-m];simp
 have o:R[a]?=zx b[a].1:=by rw[<-m,ye,z6 t];rfl
 obtain⟨p,u,s⟩:=i.onto a (by omega);have q:c[p]?=zx c[p]:=z6 u;refine⟨c[p],zs _,?_⟩;cases hv:aK c[p].2
 .have:=i.name p _ q hv;grind[jE,yG,z3]
 obtain⟨r,j,l⟩:=i.var p _ q hv;rw[s,o]at j;simp at j;subst j;refine⟨by rw[l],λ_=>(i.fresh a _ o).2 (by rw[l];exact hv),λe=>by cases e⟩
theorem bB8(f:Option Addr)(l:Nat)(a:List Lt)(w:zv)(b:bU w f a)(u:aY a<=1000000):Calls zg 73 #[.slice f (V a) l] w λe w'=>e=.returned (iQ (aY a))/\w'=w:=by
 have A:V a<=4398046511104:=b.few;go_enter Tryz.func73,Tryz.ntmps73;go_wp2;go_loop [3,4] (λo c=>∃k:Nat,k<=V a/\c=iQ k/\o=iQ (aY (a.take k))) (λ_ c=>V a-(intOf c).toNat);exact⟨0,z4 _,rfl,rfl⟩;obtain⟨k,z,rfl,rfl⟩:=hrel;have x:=yX a k;by_cases i:k<V a
 .obtain⟨D,C,p,q,rfl,s,t,g⟩:=b.cell k i;have y:=g.few;have j:aE (aY (a.take (k+1))=aY (a.take k)+a[k].2.length):=by
   rw[zb i,tK];exact rfl
  clear b g;go_wp2;go_round;·exact⟨k+1,by omega,by go_num,by rw[j.o];go_num⟩
  simp[intOf];omega
 go_wp2;go_ret;have m:a.take k=a:=zl (by omega);rw[m];exact⟨rfl,rfl⟩
theorem bB9{ns:List Bool}:∀{ms:List (List Nd)},(∀a∈ms,V a<=501)->za Prod.mk ns (ms.map λa=>a.take 501)=za Prod.mk ns ms:=by
 intro ms b;congr 1
 rw[z2 (g:=id)]
 .simp
 intro a c;exact zl (b a c)
theorem aHa:∀{ns:List Bool}{ms:List (List Nd)}{a:List Nd},V ns=V ms->a∈ms->∃n,(n,a)∈za Prod.mk ns ms
 |[],[],a,_,hm=>by simp at hm
 |[],_::_,_,h,_=>by simp at h
 |_::_,[],_,h,_=>by simp at h
 |n::ns,x::ms,a,h,hm=>by
  rcases List.mem_cons.1 hm with rfl|hm
  .exact⟨n,by simp⟩
  obtain⟨k,b⟩:=aHa (ns:=ns) (ms:=ms) (by simpa using h) hm;exact⟨k,by simp[b]⟩
theorem aOa:∀{ns:List Bool}{ms:List (List Nd)}{a:Lt},a∈za Prod.mk ns ms->∃m∈ms,a.2=m
 |[],_,a,h=>by simp at h
 |_::_,[],a,h=>by simp at h
 |n::ns,m::ms,a,h=>by
  simp only[List.zipWith_cons_cons,List.mem_cons]at h;rcases h with rfl|h
  .exact⟨m,by simp,rfl⟩
  obtain⟨f,b,c⟩:=aOa h;exact⟨f,by simp[b],c⟩
theorem aOb{ns:List Bool}{ms:List (List Nd)}(g:V ns=V ms):(500<aY (bB (za Prod.mk ns (ms.map λa=>a.take 501)))/\500<aY (bB (za Prod.mk ns ms)))\/za Prod.mk ns (ms.map λa=>a.take 501)=za Prod.mk ns ms:=by
 by_cases c:∀a∈ms,V a<=501
 .exact yz (bB9 c)
 obtain⟨a,b,f⟩:∃a,a∈ms/\¬V a<=501:=Classical.byContradiction λl=>c λa b=>Classical.byContradiction λf=>l ⟨a,b,f⟩
 obtain⟨n,i⟩:=aHa g b;obtain⟨m,j⟩:=aHa (ns:=ns) (ms:=ms.map λa=>a.take 501) (by simpa using g) (List.mem_map.2 ⟨a,b,rfl⟩);exact z9 ⟨aIu j (by simp;omega),aIu i (by simp;omega)⟩
theorem aOc{c:List TypeId}{b:Nat}{s:Nat}{q:List U}{a f:zv}(p:zu a b e s v k q)(m:zc a f (zy v))(l:e∈c):Mv c b a f:=Mv.of_grown m (λk g=>by
 obtain⟨_,⟨rfl,_⟩|⟨u,t,i,rfl,j,o,_⟩⟩:=p
 .cases g
 cases g;exact⟨j,i,_,o,l⟩)
structure MkI(B1:Nat)(w6:zv)(Z:List Lt)(k:Nat)(l:U)(wr:zv)(LQ:List (Lt×U)):Prop where
 made:LQ.map zo=Z.take k
 row:zu wr B1 55 2 l (V LQ) (bH LQ)
 atoms:∀q∈LQ,jB wr B1 q.2 q.1.2
 low:Below B1 w6 wr
def aDw(P:Tb)(g i:Nat)(m:List Nat)(j:List Bool)(B:Nat)(w:zv)(e:Ending)(w':zv):Prop:=
 ∃b l a f c,e=.returned (.tuple #[.slice b (V a) l,.bool f,iQ c])/\tM P g i m j a f c/\bU w' b a/\(V a<=16/\kQ w' b a)/\Below B w w'
theorem aHb(w:zv):bU w zq []:=zT (B:=0) (cap:=0) (P:=[]) (zk _ _ _ _) rfl (λb a=>by simp at a) (by simp)
theorem aHc(w:zv):V ([]:List Lt)<=16/\kQ w zq []:=⟨by simp,λk a=>by simp at a⟩
theorem MkI.next{b:Nat}{w6 wr a j:zv}{l:List Lt}{t u q:U}{c:List (Lt×U)}{x:Lt}{o:Obj}(f:MkI b w6 l k t wr c)(A:l[k]?=zx x)(g:aB wr a)(s:b<=wr.heap.size)(y:jB a b q x.2)(D:zu j b 55 2 u (V c+1) (bH c++[.bool x.1,q]))(z:zc (a.alloc o) j (zy t)):MkI b w6 l (k+1) u j (c++[(x,q)]):=by
 have i:aB a (a.alloc o):=aI a _;have C:=bF f.row g (zr _);have m:Mv [55] b (a.alloc o) j:=aOc (bF C i (zr _)) z (by simp);have F:b<=a.heap.size:=zf s g.size;refine⟨?_,?_,λp hqm=>?_,?_⟩
 .rw[zm,f.made,List.take_add_one,A];rfl
 .have:=D;simpa[bH]using this
 .rcases List.mem_append.1 hqm with hqm|hqm
  .have E:jB a b p.2 p.1.2:=bF (f.atoms p hqm) g (zr _);exact m.row (bF E i (zr _)) (by decide)
  simp at hqm;subst hqm;exact m.row (bF y i (zr _)) (by decide)
 exact(f.low.trans ((g.mono s).trans (i.mono F))).trans (m.below (by simp;omega))
theorem aU.at{α β:Type}{R:α->β->Prop}{l:List α}{m:List β}(b:aU R l m):∀{k:Nat} (a:k<V l) (c:k<V m),R l[k] m[k]:=by
 induction b with
 |nil=>intro k a;simp at a
 |cons x _ ih=>
  grind
theorem bBa{g:Nat}(f:zu w B e g v n xs)(l:0<n):∃a b,v=sQ a n b:=by
 obtain⟨_,⟨rfl,j⟩|⟨a,c,i,rfl,_⟩⟩:=f
 .omega
 exact⟨a,c,rfl⟩
theorem aOd(B tp:Nat)(v:U)(P:Tb)(p q:Nat)(b:List Nat)(f:List Bool)(j3 j0:U)(w:zv)(h:dO w B tp v P)(l4:jY P)(g8:V P<=1000000)(d2:∀a1∈P,V a1.1.parts<=1000000)(i4:∀m (h:m<V P),P[m].1.node.1.size<=1000000)(k9:p<V P)(l0:q<V P)(a0:eQ B w j3 b)(C:zu w B 4 1 j0 (V f) (f.map Value.bool))(i2:V f=V b)(n2:V b<=16)(i3:∀r∈b,r<V P)(c1:B<=w.heap.size):Calls zg 77 #[pQ tp,j3,j0,iQ p,iQ q] w λe w'=>aDw P p q b f B w e w':=by
 obtain⟨m3,m4,rfl⟩:=a0.shape;obtain⟨n4,n5,rfl⟩:=aZ C;have d6:=O (bFk B tp v P p q k9 l0 w h l4 g8 d2);have e2:=O h;have e9:=O a0;have e5:=O C;have f1:=O i3;have e8:=O d2;have f2:=O i4;have f0:=O i2;clear h a0 C i3 d2 i4 i2;go_enter Tryz.func77,Tryz.ntmps77;go_wp2_with(first
  |(go_at_call 114;refine(aD d6).mono ?_)
  |go_in)
 rintro e z ⟨r,rfl,⟨k5,rfl,b1,s⟩,c6⟩;clear d6;have G:Mv [185] B w z:=aOc e2.o.row c6 (by simp);have c2:Below B w z:=G.below c1;have i6:=G.size;have d9:=O c2;cases k5 with
 |false=>
  have F:aE (tM P p q b f [] zn 0):=O (z9 ⟨λt=>(by have:=b1.2 t;cases this),rfl,rfl,rfl⟩);clear b1 s c6 G c2;go_wp2;refine bodyPost_ret (v:=.tuple #[nQ,.bool zn,iQ 0]) (by simp[results,yk,go_sem]) rfl ?_;exact⟨zq,0,[],zn,0,rfl,F.o,aHb _,aHc _,d9.o⟩
 |true=>
  have b4:=b1.1 rfl;obtain⟨Q,g2,a9,N,c3,c5⟩:=s rfl;have M:bQ Q=Cl (bJ P) (kS P p q):=by funext m j;exact propext (c5 m j)
  have g0:gL (bJ Q) (bQ Q):=by rw[N,M];exact Cl.isDown _ _
  have g1:fU (bJ Q) (bQ Q):=by rw[N,M];exact b4.1
  have c8:V Q=V P:=a9.len;obtain⟨c,T⟩:∃c,aU (λr o=>aX (bJ Q) (bQ Q) (qV Q) [r] o) b c:=by
   have l8:∀b:List Nat,(∀r∈b,r<V P)->∃c,aU (λr o=>aX (bJ Q) (bQ Q) (qV Q) [r] o) b c:=by
    intro b;induction b with
    |nil=>intro _;exact⟨[],aU.nil⟩
    |cons r b ih=>
     intro t;obtain⟨c,l7⟩:=ih λg i=>t g (by simp[i])
     obtain⟨o,R⟩:=(b4.2 r (t r (by simp))).exp (rep:=qV Q);exact⟨o::c,aU.cons (by rw[N,M];exact R) l7⟩
   exact l8 b f1.o
  have d1:=T.length;have d7:aE (∀(I:List Lt) (a5:Bool) (e:Int),((500<aY (bB (za Prod.mk f c))/\I=[]/\a5=zn/\e=4)\/(aY (bB (za Prod.mk f c))<=500/\I=bB (za Prod.mk f c)/\a5=zt/\e=0))->tM P p q b f I a5 e):=O λI a5 e t=>yz ⟨b4,qV Q,c,λa1 u=>(aH8 c3 a1 u).trans (c5 a1 u),by have t:=T;rw[N,M]at t;exact t,t⟩
  have i5:∀o∈c,∀n∈o,n.1.size<=1000000:=by
   intro o R n C;obtain⟨r,_,a0⟩:=T.mem_right R;rcases bB7 a0 n C with e|⟨m,c7,rfl⟩
   .rw[e];exact z4 _
   rw[(a9.row m (by omega) c7).2.2];exact f2.o m (by omega)
  have i0:eQ B z (.slice m3 (V b) m4) b:=G.row e9.o (by decide);have H:=G.row e5.o (by decide);have h6:V f=V c:=f0.o.trans d1;obtain⟨a,b0⟩:∃a,za Prod.mk f (c.map λo=>o.take 501)=a:=⟨_,rfl⟩;have g4:V a=V b:=by rw[<-b0];simp;omega
  have g3:∀k (y:k<V f) (a8:k<V c),a[k]?=zx (f[k],(c[k]).take 501):=λk y a8=>by rw[<-b0,List.getElem?_zipWith];simp[y,a8]
  have f9:∀(k:Nat) (A:k<V b) (h0:k<V c) (wr:zv),aB z wr->Calls zg 115 #[pQ tp,nQ,iQ (b[k]:Nat)] wr λe w'=>∃a3 d3 a4,e=.returned (.slice a3 d3 a4)/\jB w' z.heap.size (.slice a3 d3 a4) ((c[k]).take 501)/\aB wr w':=λk A h0 wr g7=>by
   refine(bB0 B tp v Q c3 g0 g1 (by rw[c8];exact g8) (λa1 l6=>by
    obtain⟨m,c7,rfl⟩:=yj l6;rw[(a9.row m (by omega) c7).2.1];exact e8.o _ (zs _)) wr (g2.below g7) wr.heap.size (zr _) (c[k].length+1) b[k] c[k] [] (nQ) wr (by omega) (T.at A h0) (by rw[c8];exact f1.o _ (zs _)) (dP) (zr _) (zk _ _ _ _) (by simp)).mono ?_
   rintro e w' ⟨n9,rfl,y,a8⟩;rw[List.nil_append]at y;obtain⟨a3,a4,rfl⟩:=aZ y;exact⟨a3,_,a4,rfl,fM y g7.size,a8⟩
  have j6:=O f9;have k2:=O i0;have k0:=O H;have k4:=O g3;have e4:=O h6;have j9:=O d1;have k3:=O i5;have a6:=O b0;have b8:=O g4;clear b1 s b4 g2 a9 N c3 c5 M g0 g1 c8 T i5 i0 H f9 G c6 g3 h6 d1 c2 b0 g4 e2 e8 f2 e9 e5;go_wp2;go_loopw[14,15] (λI m wr=>∃(k:Nat) (x:List (Lt×U)),m=iQ k/\k<=V b/\MkI z.heap.size z a k I wr x) (λ_ m _=>V b-(intOf m).toNat);exact⟨0,[],rfl,z4 _,⟨rfl,zk _ _ _ _,λu D=>by simp at D,dP⟩⟩;obtain⟨k,x,rfl,A,l⟩:=hrel;obtain⟨i7,i8,rfl⟩:=aZ l.row;have m8:V x<=16:=by have:=congrArg V l.made;simp at this;omega
  by_cases h5:k<V b
  .obtain⟨m7,k7,f5⟩:=k2.o.cell h5;subst k7;have h2:k<V f:=by have:=f0.o;omega
   have h1:k<V c:=by have:=j9.o;omega
   have H:=k0.o;obtain⟨k8,n6,f7⟩:=bBa H (by omega);simp at f7;obtain⟨rfl,rfl⟩:=f7;have f6:zj z (aQ k8 k)=zx (.bool f[k]):=by rw[H.cellAt k (by omega)];simp[h2]
   have k6:=aC l.low f5;have d5:=O (j6.o k h5 h1 wr l.low);have n0:(k:Int)<(V b:Int):=by omega
   have n1:(k:Int)<(V f:Int):=by omega
   have e0:=O f6;have E:=O l;have f3:=O (k4.o k h2 h1);have f8:=l.low.size;have m0:∃i9,f[k]=i9:=⟨_,rfl⟩;obtain⟨i9,h7⟩:=m0;rw[h7]at e0 f3;obtain⟨j2,i1⟩:∃j2,b[k]=j2:=⟨_,rfl⟩;rw[i1]at k6 d5;clear l f5 f6 H h7 i1;go_wp2_with(first
    |(at_builtin;refine eU qJ Tryz.underlying36 (j8.o.alloc _) ?_;intro n7 o1 h9 g9 _;have j4:=O (E.o.next f3.o j5.o f8 k1.o h9 g9);clear h9 g9)
    |(go_at_call 115;refine(aD d5).mono ?_;rintro e o0 ⟨a3,d3,a4,rfl,h8,s⟩;have n3:=s.size;have m6:=aC (E.o.low.trans (s.mono f8)) e0.o;have j8:=O (bF E.o.row s (zr _));have k1:=O h8;have j5:=O s;clear h8 s)
    |go_in)
   exact⟨⟨k+1,_,by go_num,by omega,j4.o⟩,by simp[intOf];omega⟩
  have h3:a.take k=a:=zl (by have:=b8.o;omega);have S:x.map zo=a:=by rw[l.made,h3]
  have L:∀g∈a,eO g.2/\V g.2<=501:=by intro g i;rw[<-a6.o]at i;obtain⟨o,R,e⟩:=aOa i;obtain⟨l9,l2,rfl⟩:=List.mem_map.1 R;rw[e];refine⟨λn C=>k3.o l9 l2 n (yw C),?_⟩;simp;omega
  have m9:aY a<=100000:=by have y:=aAd (m:=501) (λg i=>(L g i).2);have:=b8.o;omega
  have h4:bU wr i7 a:=by
   have b2:V x=V a:=by rw[<-S];simp
   refine zT (P:=x) (cap:=i8) (by rw[<-b2];exact l.row) S (λu D=>?_) (by omega);have X:u.1∈a:=by rw[<-S];exact yi D
   obtain⟨b9,c0,e,i⟩:=wC (l.atoms u D) (by have:=(L _ X).2;omega) (λk A=>zf ((L _ X).1 _ (zs A)) (by decide));exact⟨b9,c0,e,i⟩
  have b2:V x=V a:=by rw[<-S];simp
  have b6:=O (aFl i7 i8 a wr h4 (by omega));rw[<-b2]at b6;have d8:=O (d9.o.trans (l.low.mono (zf c1 i6)));obtain⟨j1,m1,m2⟩:=aHp a (λg i=>(L g i).1);have l5:V (bB a)<=16:=by have:=b8.o;omega
  have l3:aY (bB a)<=1000000:=by omega
  have e6:=O j1;have e7:aE (∀g∈bB a,V g.2<=100000):=O λg i=>by
   have y:V g.2<=aY (bB a):=by
    have:∀(a7:List Lt),g∈a7->V g.2<=aY a7:=by
     intro a7;induction a7 with
     |nil=>intro h;simp at h
     |cons a5 r ih=>
      intro h;simp[aY]at ih ⊢;rcases List.mem_cons.1 h with rfl|h
      .omega
      have:=ih h;omega
    exact this _ i
   omega
  have E:=O l;clear l h3 S L h4 b2 j1 m1 m2;generalize V x=ln at *;go_wp2_with(first
   |(go_at_call 72;refine(aD b6).mono ?_)
   |go_in)
  rintro e b5 ⟨n8,f4,rfl,W,b3,c4,g5⟩;obtain⟨J,a2,rfl⟩:=aZ b3;have c9:V f4=V (bB a):=by rw[<-W];simp
  have d0:bU b5 J (bB a):=by
   refine zT (P:=f4) (cap:=a2) (by rw[<-c9];exact b3) W (λu D=>?_) (by omega);have X:u.1∈bB a:=by rw[<-W];exact yi D
   obtain⟨b9,c0,e,i⟩:=wC (c4 u D) (by have:=e7.o _ X;omega) (λk A=>zf (e6.o _ X _ (zs A)) (by decide));exact⟨b9,c0,e,i⟩
  have d4:=O (bB8 J a2 (bB a) b5 d0 l3);have e3:=O d0;have e1:aE (kQ b5 J (bB a)):=O (by rw[<-W];exact aHf b3 c4 rfl);have b7:=O (d8.o.trans (g5.mono (zf c1 (zf i6 E.o.low.size))));rw[c9];clear b6 b3 c4 g5 d0 c9 W E d8 e6 e7;by_cases g6:500<aY (bB a)
  .have F:aE (tM P p q b f [] zn 4):=O (d7.o [] zn 4 (z9 ⟨by
    rcases aOb (ns:=f) (ms:=c) e4.o with⟨_,h⟩|h
    .exact h
    rw[<-h,a6.o];exact g6,rfl,rfl,rfl⟩))
   generalize aY (bB a)=cn at *;generalize V (bB a)=on at *;have l1:(500:Int)<(cn:Int):=by omega
   go_wp2_with(first
    |(go_at_call 73;refine(aD d4).mono ?_;rintro e m5 ⟨rfl,rfl⟩)
    |go_in)
   refine bodyPost_ret (v:=.tuple #[nQ,.bool zn,iQ 4]) (by simp[results,yk,go_sem]) rfl ?_;exact⟨zq,0,[],zn,4,rfl,F.o,aHb _,aHc _,b7.o⟩
  have F:aE (tM P p q b f (bB a) zt 0):=O (d7.o (bB a) zt 0 (yz (by
   rcases aOb (ns:=f) (ms:=c) e4.o with⟨h,_⟩|h
   .rw[a6.o]at h;exact absurd h g6
   rw[<-h,a6.o];exact⟨by omega,rfl,rfl,rfl⟩)))
  have j7:aE (aDw P p q b f B w (.returned (.tuple #[.slice J (V (bB a)) a2,.bool zt,iQ 0])) b5):=O ⟨J,a2,bB a,zt,0,rfl,F.o,e3.o,⟨l5,e1.o⟩,b7.o⟩;generalize aY (bB a)=cn at *;have l1:¬(500:Int)<(cn:Int):=by omega
  clear F e3 b7 e1;go_wp2_with(first
   |(go_at_call 73;refine(aD d4).mono ?_;rintro e m5 ⟨rfl,rfl⟩)
   |go_in)
  refine bodyPost_ret (v:=.tuple #[.slice J (V (bB a)) a2,.bool zt,iQ 0]) (by simp[results,yk,go_sem]) rfl ?_;exact j7.o
theorem aDx{j:Type}{b:List j}{a:Nat}(f:a<V b):∃c i g,b=c++i::g/\V c=a:=
 ⟨b.take a,b[a],b.drop (a+1),by rw[<-z5 f,yn],by simp;omega⟩
theorem xA{c:Type}(a b:List c)(f:c):(a++f::b).eraseIdx (V a)=a++b:=by grind
theorem aHd(a b:List (Int×Lt))(r:Int×Lt)(n:Nat):bO n (a++r::b)=bO n a++(n+V (aL a))::bO (n+V (aL a)+V r.2.2) b:=by rw[wW];rfl
theorem lP{a:List Nd}(b:aP a 1=zt):0<V a:=by
 cases a with
 |nil=>simp[aP]at b
 |cons=>simp
theorem bBb{m:List Lt}{q s:Nat}(a8:q<V m)(a9:s<V d)(E:∀l∈m,aP l.2 1=zt)(F:∀l∈d,aP l.2 1=zt){P:Tb}{i:Nat->Nat}(D:Rows (aL (m.map (λa=>((0:Int),a))++d.map (λa=>((1:Int),a)))) (P.map zo) i)(b0:jY P){t u:List Nat}
  (x:(bO 0 (m.map λa=>((0:Int),a))).map i=t) (y:(bO (V (aL (m.map λa=>((0:Int),a)))) (d.map λa=>((1:Int),a))).map i=u) (c2:q<V t) (c3:s<V u)
  {G:List Lt}{M:Bool}{e:Int} (A:tM P t[q] u[s] (t.eraseIdx q++u.eraseIdx s) ((m.map zo).eraseIdx q++(d.map zo).eraseIdx s) G M e):fD (aW 0 m[q].2++aW 1 d[s].2) 0 m[q].2.length (bY 0 [(m,q),(d,s)]) G M e:=by
 obtain⟨b,c,g,rfl,rfl⟩:=aDx a8;obtain⟨f,j,p,rfl,rfl⟩:=aDx a9;have a1:(b++c::g)[b.length]=c:=by simp
 have a2:(f++j::p)[f.length]=j:=by simp
 rw[a1,a2];have b2:bY 0 [(b++c::g,V b),(f++j::p,V f)]=b.map (λa=>((0:Int),a))++g.map (λa=>((0:Int),a))++(f.map (λa=>((1:Int),a))++p.map (λa=>((1:Int),a))):=by simp[bY,xA]
 rw[b2];have z:∀(W:Int) (C:List Lt),(∀l∈C,aP l.2 1=zt)->∀r∈C.map (λa=>(W,a)),aP r.2.2 1=true:=λW C a5 r hr=>by
  obtain⟨l,o,rfl⟩:=List.mem_map.1 hr;exact a5 l o
 have H:=z 0 b (λl o=>E l (by simp[o]));have I:=z 0 g (λl o=>E l (by simp[o]));have J:=z 1 f (λl o=>F l (by simp[o]));have L:=z 1 p (λl o=>F l (by simp[o]));have X:=E c (by simp);have a0:=F j (by simp);have b8:=lP X;have b9:=lP a0;simp only[zm,yx]at D x y A;rw[sP]at D;have a7:=bAp (rc:=((0:Int),c)) (rd:=((1:Int),j)) D H I J L X a0;have b1:=bAq (rc:=((0:Int),c)) (rd:=((1:Int),j)) (λr hr=>lP (H r hr)) (λr hr=>lP (I r hr)) (λr hr=>lP (J r hr)) (λr hr=>lP (L r hr));have b3:V (b.map λa=>((0:Int),a))=V b:=by simp
 have b4:V (f.map λa=>((1:Int),a))=V f:=by simp
 rw[aHd,zm,yx]at x y;have R:V (yp i (bO 0 (b.map λa=>((0:Int),a))))=V b:=by rw[z3,yN,b3]
 have S:V (yp i (bO (V (aL ((b.map λa=>((0:Int),a))++((0:Int),c)::g.map λa=>((0:Int),a)))) (f.map λa=>((1:Int),a))))=V f:=by rw[z3,yN,b4]
 have c0:t[b.length]=i (0+V (aL (b.map λa=>((0:Int),a)))):=by subst x;rw[yr (by omega)];simp[R]
 have c1:u[f.length]=i (V (aL ((b.map λa=>((0:Int),a))++((0:Int),c)::g.map λa=>((0:Int),a)))+V (aL (f.map λa=>((1:Int),a)))):=by subst y;rw[yr (by omega)];simp[S]
 have a3:t.eraseIdx (V b)=yp i (bO 0 (b.map λa=>((0:Int),a)))++yp i (bO (0+V (aL (b.map λa=>((0:Int),a)))+V c.2) (g.map λa=>((0:Int),a))):=by rw[<-x,<-R];exact xA _ _ _
 have a4:u.eraseIdx (V f)=yp i (bO (V (aL ((b.map λa=>((0:Int),a))++((0:Int),c)::g.map λa=>((0:Int),a)))) (f.map λa=>((1:Int),a)))++yp i (bO (V (aL ((b.map λa=>((0:Int),a))++((0:Int),c)::g.map λa=>((0:Int),a)))+V (aL (f.map λa=>((1:Int),a)))+V j.2) (p.map λa=>((1:Int),a))):=by rw[<-y,<-S];exact xA _ _ _
 have b5:(b.map zo++c.1::g.map zo).eraseIdx (V b)=b.map zo++g.map zo:=by have:=xA (b.map zo) (g.map zo) c.1;rwa[z3]at this
 have b6:(f.map zo++j.1::p.map zo).eraseIdx (V f)=f.map zo++p.map zo:=by have:=xA (f.map zo) (p.map zo) j.1;rwa[z3]at this
 rw[c0,c1,a3,a4,b5,b6]at A;have T:V (aL ((b.map λa=>((0:Int),a))++((0:Int),c)::g.map λa=>((0:Int),a)))=V (aL (b.map λa=>((0:Int),a)))+(V c.2+V (aL (g.map λa=>((0:Int),a)))):=by simp[sP,tR,aW]
 have a6:V (aW 0 c.2++aW 1 j.2)=V c.2+V j.2:=by simp[aW]
 refine aK5 a7 rfl b0 (by simp[aW];omega) (by simp[aW];omega) ?_ ?_
 .intro r hr;simp only[List.mem_append]at hr;rcases hr with(hr|hr)|hr|hr
  .exact lP (H r hr)
  .exact lP (I r hr)
  .exact lP (J r hr)
  exact lP (L r hr)
 show tM P (i (pF (V c.2) (V j.2) _ _ 0)) (i (pF (V c.2) (V j.2) _ _ (V c.2))) _ _ G M e;rw[bAr b8,bAs b9,a6];have N:=congrArg (yp i) b1;rw[z8]at N;rw[show (λb7=>i (pF (V c.2) (V j.2) (V (aL (b.map λa=>((0:Int),a)))) (V (aL (b.map λa=>((0:Int),a)))+V (aL (g.map λa=>((0:Int),a)))+V (aL (f.map λa=>((1:Int),a)))) b7))=i∘pF (V c.2) (V j.2) (V (aL (b.map λa=>((0:Int),a)))) (V (aL (b.map λa=>((0:Int),a)))+V (aL (g.map λa=>((0:Int),a)))+V (aL (f.map λa=>((1:Int),a)))) from rfl,N];rw[T]at A;simpa[z8,Function.comp_def,T,yq]using A
