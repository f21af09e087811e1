import Derived.Test.YtenobhkjiebhaaaGreatDoorGSpecS18
import Derived.Test.YtenobhkjiebhaaaGreatDoorRNamedS18
import Derived.Test.YtenobhkjiebhaaaGreatDoorLMemS18
import Derived.Deep.RegionHeld3
open Bool renaming true->Y,false->zq,and_eq_true->zh,eq_iff_iff->za
open List renaming length->Z,eq_nil_of_length_eq_zero->zr,getElem_cons_zero->zp,length_append->zl,getElem_mem->zg,drop_eq_nil_of_le->zd
open Nat renaming le_refl->zn,zero_le->zm,add_zero->zc,zero_mul->z3
open Option renaming some->V,none->zk
namespace Go.Proofs.YtenobhkjiebhaaaGreatDoor
open Go renaming World->U,Value->zs
open _root_.Go.Proofs.Tryz renaming prog->zv,ntmps151->zj,ntmps127->zi,func151->zf,func127->ze,ntmps174->z2,func174->z4
open World renaming cell?->zu,cell?_setCell_other->zt,frozen?->zo,frozen?_of_block->zb,setCell->z0,ownsRow->z1
set_option maxHeartbeats 2000000
set_option maxRecDepth 100000
open Go.RowKit Go.Shelf
variable{B:Nat}{w:U}
def pE(w:U):Prop:=Lib.Utf8Tabs (ren.g 3) (ren.g 4) w
theorem pE.below{w1:U}(a:pE w){B:Nat}(k:Below B w w1)(b:w.heap.size<=B):pE w1:=
 ⟨λe f=>Below.at' k b (a.1 e f),λd c=>⟨Below.at' k b (a.2 d c).1,Below.at' k b (a.2 d c).2⟩⟩
theorem bA3(a:ByteArray)(w:U)(x:a.size<=140737488355328)(j:pE w):Calls zv 151 #[.string a] w λc g=>c=.returned (.bool (fS a))/\aB w g:=by
 by_cases t:a.size<=80
 .have o:Calls zv 166 #[.string a] w _:=Any.utf8_ValidString aLr a w (by omega) j;have l:=λf=>(Any.strings_Contains_one aW3 a 10 f:Calls zv 167 #[.string a,.string ⟨#[10]⟩] f _)
  have m:=λf=>(Any.utf8_RuneCountInString aW4 a f (by omega):Calls zv 168 #[.string a] f _)
  have p:=bDl a;have u:=Lib.runeCount_le a;generalize Lib.validD a.data.toList=v at *;generalize decide (0<=Lib.indexByte a.data.toList 10)=n at *;generalize Lib.runeCount a=r at *;have e:=O p;have i:=O o;have k:=O l;have q:=O m;clear p o l m j;cases v
  .go_enter zf,zj;go_wp2_with(go_at_call 166;refine(aD i).mono ?_;rintro c g ⟨rfl,b⟩;have d:=O b;clear b);go_ret;exact⟨eB (by rw[e.o];rfl),d.o⟩
  cases n
  .go_enter zf,zj;go_wp2_with(first
    |(go_at_call 166;refine(aD i).mono ?_;rintro c g ⟨rfl,b⟩;have d:=O b;clear b)
    |(go_at_call 167;refine(aD k _).mono ?_;rintro c s ⟨rfl,rfl⟩)
    |(go_at_call 168;refine(aD q _).mono ?_;rintro c z ⟨rfl,y,rfl⟩))
   all_goals
    go_ret;refine⟨eB ?_,d.o.alloc d.o.size _⟩;rw[e.o,za];simp;omega
  go_enter zf,zj;go_wp2_with(first
   |(go_at_call 166;refine(aD i).mono ?_;rintro c g ⟨rfl,b⟩;have d:=O b;clear b)
   |(go_at_call 167;refine(aD k _).mono ?_;rintro c s ⟨rfl,rfl⟩))
  go_ret;exact⟨eB (by rw[e.o];rfl),d.o⟩
 have e:aE (fS a=zq):=by
  cases h:fS a
  .exact rfl
  have:=(aPs a h).2;omega
 clear j;go_enter zf,zj;go_wp2;go_ret;exact⟨eB e.o.symm,dP⟩
theorem aH4(a:ByteArray)(b:Int)(w:U):Calls zv 97 #[.agg #[.string a,iQ b]] w λd i=>d=.returned (iQ (if a.toList.isEmpty then 0 else b))/\aB w i:=by
 have c:=O (λj=>sJ a b j);cases hv:a.toList.isEmpty;all_goals
  rw[hv]at c;clear hv;go_enter Tryz.func97,Tryz.ntmps97;go_wp2_with(go_at_call 89;refine(aD c _).mono ?_;rintro d m ⟨rfl,e⟩;obtain⟨k,l,f⟩:=lN e;have g:=O f;clear e f);go_ret;exact⟨rfl,g.o⟩
theorem bA4(d:ByteArray)(a:Int)(w:U)(x:d.size<=140737488355328)(p:pE w):Calls zv 127 #[.agg #[.string d,iQ a]] w λg z=>g=.returned (.bool (dQ (d,a)))/\aB w z:=by
 have f:=O (λj=>sJ d a j);have q:aB w (w.alloc (.cells #[.string d,iQ a] 52)):=aI _ _;have A:=O q;have v:=O p;clear q p;cases hv:d.toList.isEmpty
 .have i:aE (dQ (d,a)=(fS d && (decide (0<=a) && decide (a<=5)))):=O (by simp[dQ,aK,hv]);rw[hv]at f;by_cases k:0<=a
  .by_cases o:a<=5
   .have s:=O (λj (y:pE j)=>bA3 d j x y);clear hv;go_enter ze,zi;go_wp2_with(first
     |(go_at_call 89;refine(aD f _).mono ?_;rintro g n ⟨rfl,b⟩;obtain⟨l,m,c⟩:=lN b;have e:=O c;clear b c)
     |(go_at_call 151;refine(aD s _ (v.o.below e.o (zn _))).mono ?_;rintro g C ⟨rfl,r⟩;have t:=O (bE e.o r);clear r))
    go_ret;refine⟨eB ?_,t.o⟩;rw[i.o];simp[k,o]
   clear hv;go_enter ze,zi;go_wp2_with(first
    |(go_at_call 89;refine(aD f _).mono ?_;rintro g n ⟨rfl,b⟩;obtain⟨l,m,c⟩:=lN b;have e:=O c;clear b c))
   go_ret;refine⟨eB ?_,e.o⟩;rw[i.o];simp[o]
  have u:=O (show decide (0<=a)=zq by simpa using k);clear hv;go_enter ze,zi;go_wp2_with(first
   |(go_at_call 89;refine(aD f _).mono ?_;rintro g n ⟨rfl,b⟩;obtain⟨l,m,c⟩:=lN b;have e:=O c;clear b c))
  go_ret;refine⟨eB ?_,e.o⟩;rw[i.o,u.o];simp
 have i:aE (dQ (d,a)=(decide (0<=a) && decide (a<60))):=O (by simp[dQ,aK,hv]);rw[hv]at f;clear hv;by_cases k:0<=a;all_goals
  go_enter ze,zi;go_wp2_with(first
   |(go_at_call 89;refine(aD f _).mono ?_;rintro g n ⟨rfl,b⟩;obtain⟨l,m,c⟩:=lN b;have e:=O c;clear b c))
  go_ret;refine⟨eB ?_,e.o⟩;rw[i.o,za];simp;try omega
theorem bA5(a:List Nd)(b:¬Z a<=60):lL a=false:=by simp[lL,b]
theorem bA6(a:List Nd)(b:Z a<=60):lL a=aP a 1:=by simp[lL,b]
theorem bA7(P:Option Addr)(a2:Nat)(a:List Nd)(w:U)(t:dI w P a)(F:pE w):Calls zv 92 #[.slice P (Z a) a2] w λp b0=>p=.returned (.bool (lL a))/\aB w b0:=by
 have b3:=t.few;by_cases S:Z a<=60
 .have r:=O (bA6 a S);have a1:=O F;clear F;go_enter Tryz.func92,Tryz.ntmps92;go_wp2;go_loopw[3,11] (λa7 M wr=>∃b e:Nat,b<=Z a/\e<=1+5*b/\M=iQ b/\a7=iQ e/\aB w wr/\aP a 1=aP (a.drop b) e) (λ_ M _=>Z a-(intOf M).toNat);exact⟨0,1,by omega,by omega,rfl,rfl,dP,rfl⟩;obtain⟨b,e,b4,b5,rfl,rfl,c,d⟩:=hrel;by_cases u:b<Z a
  .obtain⟨b2,b8,rfl,Q,R⟩:=t.cell b u;have a3:=aC c Q;have a4:=aC c R;have X:=t.short b u;have x:=c.size;clear Q R t;by_cases W:e=0
   .subst W;rw[aAq a b u]at d;have s:aE (lL a=zq):=r.o.trans d;have l:=O c;clear d c;go_wp2;go_ret;exact⟨eB s.o.symm,l.o.alloc l.o.size _⟩
   have j:((e:Int)==0)=false:=by rw[beq_eq_false_iff_ne];omega
   have J:=aJp a b e u W;have H:=aJo a b e u;generalize a[b]=nd at *;obtain⟨i,f⟩:=nd;simp only at a3 a4 X;have q:=O (λA (L:pE A)=>bA4 i f A X L);have v:=O (λA=>aH4 i f A);have l:=O c;have G:=O (a1.o.below (c.alloc x (.cells #[.string i,iQ f] 52)) (zn _));by_cases o:dQ (i,f)=Y
   .have N:=O (d.trans (J o));simp only[o]at q;clear d J H c;by_cases m:i.toList.isEmpty=Y
    .have D:aE (bI (i,f)=0):=by unfold bI aK;rw[aT m];exact rfl
     rw[aT m]at v;clear o m;go_wp2_with(first
      |(go_at_call 127;refine(aD q _ G.out).mono ?_;rintro p a0 ⟨rfl,j⟩;obtain⟨y,z,g⟩:=lN j;have n:=O (l.o.trans (g.mono x));have E:=n.o.size;have a5:=g.size;clear j g)
      |(go_at_call 97;refine(aD v _).mono ?_;rintro p b1 ⟨rfl,k⟩;have a8:=aC k y;have a9:=aC k z;have C:=O (n.o.trans (k.mono E));clear k))
     exact⟨⟨b+1,e-1,by omega,by omega,by go_num,by go_num,C.o,by rw[N.o,D.o];rfl⟩,by simp[intOf];omega⟩
    have D:aE (bI (i,f)=f.toNat):=by unfold bI aK;rw[aS m];exact rfl
    have a6:i.toList.isEmpty=false:=by simpa using m
    have L:fS i=Y/\0<=f/\f<=5:=by simpa[dQ,aK,m]using o
    obtain⟨_,b6,b7⟩:=L;rw[aS m]at v;clear o m a6;go_wp2_with(first
     |(go_at_call 127;refine(aD q _ G.out).mono ?_;rintro p a0 ⟨rfl,j⟩;obtain⟨y,z,g⟩:=lN j;have n:=O (l.o.trans (g.mono x));have E:=n.o.size;have a5:=g.size;clear j g)
     |(go_at_call 97;refine(aD v _).mono ?_;rintro p b1 ⟨rfl,k⟩;have a8:=aC k y;have a9:=aC k z;have C:=O (n.o.trans (k.mono E));clear k))
    exact⟨⟨b+1,e-1+f.toNat,by omega,by omega,by go_num,by go_num,C.o,by rw[N.o,D.o]⟩,by simp[intOf];omega⟩
   have I:dQ (i,f)=false:=by simpa using o
   rw[H I]at d;have s:aE (lL a=zq):=r.o.trans d;simp only[I]at q;clear d J H c o I;go_wp2_with(first
    |(go_at_call 127;refine(aD q _ G.out).mono ?_;rintro p a0 ⟨rfl,j⟩;obtain⟨y,z,g⟩:=lN j;have n:=O (l.o.trans (g.mono x));clear j g))
   go_ret;exact⟨eB s.o.symm,n.o⟩
  have T:a.drop b=[]:=zd (by omega);rw[T]at d;have s:aE (lL a=decide (e=0)):=r.o.trans d;have l:=O c;clear d T c;go_wp2;go_ret;refine⟨eB ?_,l.o⟩;rw[s.o,za];simp
 have r:=O (bA5 a S);clear t F;go_enter Tryz.func92,Tryz.ntmps92;go_wp2;go_ret;exact⟨eB r.o.symm,dP⟩
theorem bA8(k:Option Addr)(q:Nat)(b:List Nd)(w:U)(e:dI w k b)(n:pE w):Calls zv 54 #[.slice k (Z b) q] w λf z=>f=.returned (.bool (iP b))/\aB w z:=by
 have d:=bA7 k q b w e n;by_cases c:lL b=Y
 .cases b with
  |nil=>rw[aOf]at c;exact absurd c (by simp)
  |cons n0 r=>
   rw[c]at d;obtain⟨D,E,rfl,l,m⟩:=e.cell 0 (by simp);simp only[zp,z3,zc]at l m;obtain⟨p,t⟩:=n0;simp only at l m;have j:=O (show iP ((p,t)::r) = !p.toList.isEmpty by simp[iP,c,aK]);have g:=O d;have u:=O (λC=>sJ p t C);have y:=e.few;simp only[List.length_cons]at y;clear d c e n;go_enter Tryz.func54,Tryz.ntmps54;go_wp2_with(first
    |(go_at_call 92;refine(aD g).mono ?_;rintro f A ⟨rfl,a⟩;have F:=aC a l;have G:=aC a m;have i:=O a;have x:=a.size;clear a)
    |(go_at_call 89;refine(aD u _).mono ?_;rintro f H ⟨rfl,s⟩;have v:=O (i.o.trans (s.mono x));clear s))
   go_ret;exact⟨eB j.o.symm,v.o⟩
 have o:lL b=false:=by simpa using c
 rw[o]at d;have j:=O (show iP b=zq by simp[iP,o]);have g:=O d;clear d c o e n;go_enter Tryz.func54,Tryz.ntmps54;go_wp2_with(go_at_call 92;refine(aD g).mono ?_;rintro f A ⟨rfl,a⟩;have i:=O a;clear a);go_ret;exact⟨eB j.o.symm,i.o⟩
theorem bA9(B e k:Nat)(a:Int)(d:Addr)(b i:List Nd)(l:zs)(c:bK)(w:U)(f:dN w B e l c)(y:0<=a)(z:a<60)(n:iR w B (V d) b)(r:look c a=V i):Calls zv 184 #[pQ e,iQ a,.slice (V d) (Z b) k] w λm s=>m=.returned (.bool (decide (i=b)))/\dN s B e l c/\Fr B w s:=by
 obtain⟨g,rfl⟩:∃g:Nat,a=g:=⟨a.toNat,by omega⟩;obtain⟨C,A,p⟩:=f.term g (by omega);rw[r]at p;obtain⟨v,x,rfl,o⟩:=p;have t:=O (aN2 (V v) (V d) x k i b w o.nodes n.nodes);have u:=O f;clear f n o r;go_enter Tryz.func184,Tryz.ntmps184;go_wp2_with(go_at_call 149;refine(aD t).mono ?_;rintro m D ⟨rfl,q⟩;have j:=O q;clear q);go_ret;exact⟨rfl,u.o.drawn j.o,(Fr.refl _ _).drawn j.o⟩
theorem bAa(B b o:Nat)(c:Int)(j:Addr)(d:List Nd)(q:zs)(i:bK)(w:U)(a:dN w B b q i)(M:0<=c)(N:c<60)(r:iR w B (V j) d)(l:look i c=zk)(t:aP d 1=Y)(H:Z d<=60):Calls zv 184 #[pQ b,iQ c,.slice (V j) (Z d) o] w λG v=>G=.returned (.bool Y)/\dN v B b q (i++[(c,d)])/\Fr B w v:=by
 obtain⟨e,rfl⟩:∃e:Nat,c=e:=⟨c.toNat,by omega⟩;obtain⟨L,X,s⟩:=a.term e (by omega);rw[l]at s;obtain rfl:L=nQ:=s;obtain⟨F,I,g⟩:=a.bound;have Q:=a.frozen (1+e);have J:=a.frozen 61;have k:=a.apart g;have T:=a.ok.few;have W:=a.low;have S:=a.lt;have z:=O a;have u:=aE6 g (p:=(aQ b (1+e))) k (.slice (V j) (Z d) o);have C:=O g;have A:=O r;have y:=O l;have D:=O t;have n:=O k;clear a g r l t k;go_enter Tryz.func184,Tryz.ntmps184;go_wp2_with(first
  |(at_builtin;refine eU mR Tryz.underlying24 (u.alloc _) ?_)
  |go_in)
 intro a0 x m f _;obtain⟨a1,a2,rfl⟩:=aZ m;have E:=O (z.o.more (by omega) y.o A.o D.o H C.o f m);have P:zu x (aQ b 61)=V F:=f.cell (aC (aI _ _) (by rw[zt w _ _ _ (by first|(simp;done)|(simp;omega))];exact I)) n.o;have R:zo x (aQ b 61)=false:=by rw[zb (f.block b (by simp[z0];omega) n.o),zb (a:=(aQ b 61)) (heap_alloc_old _ _ (show b<_ by simp[z0];omega)),World.frozen?_setCell];exact J
 clear m f u;go_wp2;go_ret;exact⟨rfl,E.o⟩
theorem bAb(y:Option Addr)(F:Nat)(a:List Nd)(d q:Nat)(w:U)(C:dI w y a)(R:Z a<=60)(J:aP (a.drop d) (1+q)=Y)(I:d<=Z a):Calls zv 183 #[.slice y (Z a) F,iQ d] w λp M=>p=.returned (iQ ((d+aM (a.drop d) 1:Nat)))/\aB w M:=by
 go_enter Tryz.func183,Tryz.ntmps183;go_wp2;go_loopw[1,5] (λt L wr=>∃b c:Nat,b<=Z a/\c<=1+5*b/\t=iQ b/\L=iQ c/\aB w wr/\d+aM (a.drop d) 1=b+aM (a.drop b) c/\aP (a.drop b) (c+q)=Y) (λt _ _=>Z a-(intOf t).toNat);exact⟨d,1,I,by omega,rfl,rfl,dP,rfl,J⟩;obtain⟨b,c,S,T,rfl,rfl,e,k,f⟩:=hrel;cases c with
 |zero=>
  have n:=O k;have m:=O e;clear k e f;go_wp2;go_ret;exact⟨lK (by rw[n.o];simp),m.o⟩
 |succ c=>
  have r:b<Z a:=aE5 (q:=c+q) (by rw[<-f];congr 1;omega);obtain⟨Q,a0,rfl,z,A⟩:=C.cell b r;have G:=aC e z;have H:=aC e A;rw[aOo a b c r]at k;rw[show c+1+q=(c+q)+1 by omega,aA2 a b (c+q) r,zh]at f;obtain⟨s,f⟩:=f;generalize a[b]=nd at *;obtain⟨u,v⟩:=nd;simp only at G H;clear z A C;have D:=e.size;have m:=O e;have n:=O k;have x:=O f;have l:=O (λP=>aH4 u v P);clear e k f;by_cases g:u.toList.isEmpty=Y
  .have i:aE (bI (u,v)=0):=O (kE g);rw[aT g]at l;clear s g;go_wp2_with(go_at_call 97;refine(aD l _).mono ?_;rintro p N ⟨rfl,j⟩;have o:=O (m.o.trans (j.mono D));clear j);exact⟨⟨b+1,c,by omega,by omega,by go_num,by go_num,o.o,by rw[n.o,i.o];simp;omega,by have:=x.o;rw[i.o]at this;rw[<-this];congr 1⟩,by simp[intOf];omega⟩
  obtain⟨W,X,E⟩:=aOu s g;have i:=O E;rw[aS g]at l;clear s E g;go_wp2_with(go_at_call 97;refine(aD l _).mono ?_;rintro p N ⟨rfl,j⟩;have o:=O (m.o.trans (j.mono D));clear j);exact⟨⟨b+1,c+v.toNat,by omega,by omega,by go_num,by go_num,o.o,by rw[n.o,i.o];omega,by have:=x.o;rw[i.o]at this;rw[<-this];congr 1;omega⟩,by simp[intOf];omega⟩
theorem dI.sub{f g:Nat}{b:List Nd}(d:dI w (V (aQ f g)) b)(a n:Nat):dI w (V (aQ f (g+a*2))) ((b.drop a).take n):=by
 have o:Z ((b.drop a).take n)<=Z b-a:=by simp;omega
 refine⟨by have:=d.few;omega,λc i=>?_,λc i=>?_⟩
 .have e:a+c<Z b:=by omega
  have:=d.short (a+c) e;simpa using this
 have e:a+c<Z b:=by omega
 obtain⟨j,p,k,l,m⟩:=d.cell (a+c) e;grind
theorem iR.sub{a c:Nat}{f:List Nd}(d:iR w B (V (aQ a c)) f)(b n:Nat):iR w B (V (aQ a (c+b*2))) ((f.drop b).take n):=
 ⟨d.nodes.sub b n,λg e=>by simp at e;subst e;exact d.low (aQ a c) rfl⟩
theorem aDu(c:Array zs)(a:TypeId)(d:a≠206)(e:a≠3):mH (w.alloc (.cells c a)) B w.heap.size:=
 Or.inr λg f i b=>by
  rw[heap_alloc_new]at b;simp at b;rw[<-b.2.1];exact⟨d,e⟩
theorem aNw{k:Program}{m e f g:Nat}{d p q:zs}{o:zs}{r j:bK}{l:Array zs}(_:dN w B e d r)(z:mH w B f)(A:mH w B g)(u:cQ w f 1 p)(v:cQ w g 1 q)
  (s:∀b,(∃i,b=w.drewN i)->Calls k m l b λc a=>c=.returned o/\dN a B e d j/\Fr B b a):∀b,(∃i,b=w.drewN i)->Calls k m l b λc a=>c=.returned o/\dN a B e d j/\Fr B w a/\cQ a f 1 p/\cQ a g 1 q:=by
 intro b n;refine(s b n).mono ?_;rintro c a ⟨rfl,y,t⟩;have x:Fr B w a:=((Fr.refl _ _).drawn n).trans t;grind[Fr.cell]
theorem aH5(B I:Nat)(a9:zs)(i:bK)(w:U)(l n:Bool)(v r:Option Addr)(H g:Nat)(c a:List Nd)(s:dN w B I a9 i)(f4:iR w B v c)(f7:iR w B r a)(k8:Z a<=g)(k3:aP c 1=Y)(k4:aP a 1=Y)(k6:Z c<=60)(j0:Z a<=60):Calls zv 173 #[pQ I,.agg #[.bool l,.slice v (Z c) H],.agg #[.bool n,.slice r (Z a) g]] w λy q=>∃(e3:Bool) (c6:bK),y=.returned (.bool e3)/\dN q B I a9 c6/\Fr B w q/\(∃a8,c6=i++a8)/\(e3=Y->fQ (l,c) (n,a) i=V c6)/\(e3=zq->fQ (l,c) (n,a) i=zk):=by
 have b0:aB w ((w.alloc (.cells #[.bool l,.slice v (Z c) H] 55)).alloc (.cells #[.bool n,.slice r (Z a) g] 55)):=(aI _ _).alloc (by simp) _;have f9:=s.below b0;have f5:=f4.fr (Fr.of_below b0);have f8:=f7.fr (Fr.of_below b0);have g0:mH ((w.alloc (.cells #[.bool l,.slice v (Z c) H] 55)).alloc (.cells #[.bool n,.slice r (Z a) g] 55)) B (w.heap.size+1):=by have:=aDu (w:=w.alloc (.cells #[.bool l,.slice v (Z c) H] 55)) (B:=B) #[.bool n,.slice r (Z a) g] 55 (by decide) (by decide);simpa using this
 have g2:zu ((w.alloc (.cells #[.bool l,.slice v (Z c) H] 55)).alloc (.cells #[.bool n,.slice r (Z a) g] 55)) (aQ (w.heap.size+1) 1)=V (.slice r (Z a) g):=by simp
 have b4:aE (Fr B w ((w.alloc (.cells #[.bool l,.slice v (Z c) H] 55)).alloc (.cells #[.bool n,.slice r (Z a) g] 55))):=O (Fr.of_below b0);have e7:=O f9;have i0:=O f5;have i1:=O f8;have e9:=O g0;have i2:=O g2;clear s f4 f7 b0 f9 f5 f8 g0 g2;by_cases d9:l=n
 .subst d9;have a7:aE (fQ (l,c) (l,a) i=dD c a i):=O (by simp[fQ]);go_enter Tryz.func173,Tryz.ntmps173;go_wp2;generalize hW:((w.alloc (.cells #[.bool l,.slice v (Z c) H] 55)).alloc (.cells #[.bool l,.slice r (Z a) g] 55))=W at *;have f0:=O hW;clear hW;go_loopw[7,19] (λE e0 wr=>∃(e b j:Nat) (d:bK),e<=Z c/\b<=Z a/\e0=iQ e/\E=iQ b/\dN wr B I a9 d/\Fr B W wr/\(∃a8,d=i++a8)/\aP (c.drop e) j=Y/\aP (a.drop b) j=Y/\dD c a i=dD (c.drop e) (a.drop b) d)
   (λ_ e0 _=>Z c-(intOf e0).toNat)
  exact⟨0,0,1,i,zm _,zm _,rfl,rfl,e7.o,Fr.refl _ _,⟨[],by simp⟩,k3,k4,rfl⟩;obtain⟨e,b,j,d,l3,g7,rfl,rfl,s,z,b8,L,a0,b2⟩:=hrel;by_cases X:e<Z c
  .obtain⟨j,rfl⟩:∃k2,j=k2+1:=by
    cases j with
    |zero=>rw[aAq c e X]at L;simp at L
    |succ j=>exact⟨j,rfl⟩
   have c8:b<Z a:=aE5 a0;have f6:=i0.o.fr z;have c7:=i1.o.fr z;obtain⟨k7,l6,rfl,j1,j3⟩:=f6.nodes.cell e X;obtain⟨x,D,rfl,f2,f3⟩:=c7.nodes.cell b c8;have d2:cQ wr (w.heap.size+1) 1 (.slice (V (aQ x D)) (Z a) g):=z.cell i2.o e9.o;have c9:=λE=>aOq c a e b d E X
   have d1:=aOr c a e b d X;have h1:=aOs c a e b d X c8;have b3:=L;rw[aA2 c e j X,zh]at b3;obtain⟨h2,b3⟩:=b3;have d4:aP (a.drop b) (1+j)=true:=by rw[<-a0];congr 1;omega
   have h4:=aBg (a.drop b) 1 j d4;have d5:=a0;rw[aA2 a b j c8,zh]at d5;generalize hnd:c[e]=nd at *;obtain⟨m,f⟩:=nd;simp only at j1 j3 c9 d1;have a6:=O b2;have e6:=O c9;have i4:=O d1;have e8:=O h1;have c5:=O b3;have i8:=O d5;have c4:=O h4;have i5:=O h2;have G:=O b8;have a4:=O s;have P:=O z;have e5:=O c7;have i9:=O d4;have h5:=z.size;have l5:w.heap.size+2<=wr.heap.size:=by rw[<-f0.o]at h5;simpa using h5
   clear L b3 a0 d4 d5 h4 b2 c9 d1 h1 h2 b8 s z c7 f6 hnd;have a2:=O (λF=>sJ m f F);have g1:aB wr (wr.alloc (.cells #[.string m,iQ f] 52)):=aI _ _;have k5:=O g1;clear g1;by_cases M:m.toList.isEmpty=Y
   .rw[M]at a2;have k1:=aE4 i5.o M;obtain⟨d7,d8⟩:=k1;simp only at d7 d8;have f1:aE (bI (m,f)=0):=O (kE M);have Q:aE (aK (m,f)=Y):=O M;clear M;obtain⟨p,T⟩:∃p,p=b+aM (a.drop b) 1:=⟨_,rfl⟩;have g5:=oC (a.drop b) 1;have g6:=aOi (a.drop b) 0 (by intro j5;have:=congrArg Z j5;simp at this;omega);simp at g5 g6;have l0:b<p:=by omega
    have g8:p<=Z a:=by omega
    have h0:Z ((a.drop b).take (aM (a.drop b) 1))=p-b:=by simp;omega
    have j7:(b:Int)<=(p:Int):=by omega
    have l1:(p:Int)<=(g:Int):=by omega
    have l2:¬g=b:=by omega
    have c3:=O h0;have b5:=O T;have h9:=O (λF (k0:dI F (V (aQ x D)) a)=>by have:=bAb (V (aQ x D)) g a b j F k0 j0 i9.o g7;rw[<-T]at this;exact this);clear T g5 g6 h0;go_wp2_with(first
     |(go_at_call 89;refine(aD a2 _).mono ?_;rintro y e4 ⟨rfl,t⟩;obtain⟨e1,e2,k⟩:=lN t;have u:=O k;have i7:aE (Fr B _ e4):=O (Fr.of_below t);have j9:=k.size;have d3:=aC k d2;clear t k)
     |(go_at_call 183;refine(aD h9 _ ((e5.o.fr (Fr.of_below u.o)).nodes)).mono ?_;rintro y h7 ⟨rfl,S⟩;have l7:=aC S e1;have h6:=aC S e2;have h3:=aC S d3;have b7:=O (u.o.trans (S.mono j9));have i6:=O ((i7.o).trans (Fr.of_below S));clear S))
    have c0:mH h7 B wr.heap.size:=by have j6:=aDu (w:=wr) (B:=B) #[.string m,iQ f] 52 (by decide) (by decide);exact j6.fr (by simp) (i6.o)
    have c1:mH h7 B (w.heap.size+1):=(e9.o.fr (by rw[<-f0.o];simp) P.o).fr (by omega) (Fr.of_below b7.o);have R:=a4.o.below b7.o;have b9:=(e5.o.fr (Fr.of_below b7.o)).sub b (aM (a.drop b) 1);have c2:=O (P.o.trans (Fr.of_below b7.o));cases hl:look d f with
    |none=>
     have N:=O (aNw R c0 c1 h6 h3 (λF b1=>by have:=bAa B I (g-b) f (aQ x (D+b*2)) ((a.drop b).take (aM (a.drop b) 1)) a9 d F (R.drawn b1) d7 d8 (b9.fr ((Fr.refl _ _).drawn b1)) hl c4.o.1 (by rw[c3.o];omega);rw[c3.o]at this;exact this));have b6:=O hl;clear c0 c1 R b9 hl;go_region_held3 (λq=>cQ q wr.heap.size 1 (iQ f)/\cQ q (w.heap.size+1) 1 (.slice (V (aQ x D)) (Z a) g)) (go_keep) ((go_at_call 184;refine(aD N _ (by first|exact⟨0,rfl⟩|exact⟨_,rfl⟩|exact dT _ _ _)).mono ?_;rintro y h8 ⟨rfl,C,A,g3,g4⟩;have a5:=O C;have a3:=O A;clear C A));have o:aE (dD c a i=dD (c.drop (e+1)) (a.drop p) (d++[(f,(a.drop b).take (aM (a.drop b) 1))])):=O (by rw[a6.o,i4.o Q.o b6.o,b5.o]);go_wp2;exact⟨⟨e+1,p,j,d++[(f,(a.drop b).take (aM (a.drop b) 1))],by omega,g8,by go_num,rfl,a5.o,c2.o.trans a3.o,(by obtain⟨a8,s⟩:=G.o;exact⟨a8++[(f,(a.drop b).take (aM (a.drop b) 1))],by rw[s];simp⟩),(by have:=c5.o;rw[f1.o]at this;exact this),(by have:=c4.o.2;rw[List.drop_drop,<-b5.o]at this;exact this),o.o⟩,by simp[intOf];omega⟩
    |some E=>
     have N:=O (aNw R c0 c1 h6 h3 (λF b1=>by have:=bA9 B I (g-b) f (aQ x (D+b*2)) ((a.drop b).take (aM (a.drop b) 1)) E a9 d F (R.drawn b1) d7 d8 (b9.fr ((Fr.refl _ _).drawn b1)) hl;rw[c3.o]at this;exact this));have b6:=O hl;clear c0 c1 R b9 hl;by_cases a1:E=(a.drop b).take (aM (a.drop b) 1)
     .rw[fL a1]at N;have o:aE (dD c a i=dD (c.drop (e+1)) (a.drop p) d):=O (by rw[a6.o,e6.o E Q.o b6.o,aT a1,b5.o]);clear a1;go_region_held3 (λq=>cQ q wr.heap.size 1 (iQ f)/\cQ q (w.heap.size+1) 1 (.slice (V (aQ x D)) (Z a) g)) (go_keep) ((go_at_call 184;refine(aD N _ (by first|exact⟨0,rfl⟩|exact⟨_,rfl⟩|exact dT _ _ _)).mono ?_;rintro y h8 ⟨rfl,C,A,g3,g4⟩;have a5:=O C;have a3:=O A;clear C A));go_wp2;exact⟨⟨e+1,p,j,d,by omega,g8,by go_num,rfl,a5.o,c2.o.trans a3.o,G.o,(by have:=c5.o;rw[f1.o]at this;exact this),(by have:=c4.o.2;rw[List.drop_drop,<-b5.o]at this;exact this),o.o⟩,by simp[intOf];omega⟩
     rw[gG a1]at N;have o:aE (dD c a i=zk):=O (by rw[a6.o,e6.o E Q.o b6.o,aS a1]);clear a1;go_region_held3 (λq=>cQ q wr.heap.size 1 (iQ f)/\cQ q (w.heap.size+1) 1 (.slice (V (aQ x D)) (Z a) g)) (go_keep) ((go_at_call 184;refine(aD N _ (by first|exact⟨0,rfl⟩|exact⟨_,rfl⟩|exact dT _ _ _)).mono ?_;rintro y h8 ⟨rfl,C,A,g3,g4⟩;have a5:=O C;have a3:=O A;clear C A));go_wp2;go_ret;exact⟨zq,d,rfl,a5.o,b4.o.trans (c2.o.trans a3.o),G.o,by simp,λ_=>a7.o.trans o.o⟩
   have d6:m.toList.isEmpty=false:=by simpa using M
   rw[d6]at a2;have Q:aE (aK (m,f)=zq):=O d6;clear M d6;have I:=tJ;have l4:=rZ m a[b].1 f a[b].2;have d0:=rY (m,f) a[b];simp only at d0;have j7:(b:Int)<(Z a:Int):=by omega
   by_cases J:(m,f)=a[b]
   .rw[fL J]at d0;have o:aE (dD c a i=dD (c.drop (e+1)) (a.drop (b+1)) d):=O (by rw[a6.o,e8.o Q.o,aT J]);have i3:=O J;clear J;go_wp2_with(first
     |(go_at_call 89;refine(aD a2 _).mono ?_;rintro y e4 ⟨rfl,t⟩;obtain⟨e1,e2,k⟩:=lN t;have u:=O k;have d3:=aC k d2;have j2:=aC k f2;have j4:=aC k f3;clear t k))
    go_quiet (fail);go_wp2;exact⟨⟨e+1,b+1,j+bI (m,f),d,by omega,by omega,by go_num,by go_num,(a4.o.below u.o).drawn (by first|exact dT _ _ _|exact⟨_,rfl⟩),(P.o.trans (Fr.of_below u.o)).drawn (by first|exact dT _ _ _|exact⟨_,rfl⟩),G.o,c5.o,(by have:=i8.o.2;rw[<-i3.o]at this;exact this),o.o⟩,by simp[intOf];omega⟩
   rw[gG J]at d0;have o:aE (dD c a i=zk):=O (by rw[a6.o,e8.o Q.o,aS J]);clear J;go_wp2_with(first
    |(go_at_call 89;refine(aD a2 _).mono ?_;rintro y e4 ⟨rfl,t⟩;obtain⟨e1,e2,k⟩:=lN t;have u:=O k;have d3:=aC k d2;have j2:=aC k f2;have j4:=aC k f3;clear t k))
   go_quiet (fail);go_wp2;go_ret;exact⟨zq,d,rfl,(a4.o.below u.o).drawn (by first|exact dT _ _ _|exact⟨_,rfl⟩),b4.o.trans ((P.o.trans (Fr.of_below u.o)).drawn (by first|exact dT _ _ _|exact⟨_,rfl⟩)),G.o,by simp,λ_=>a7.o.trans o.o⟩
  have g9:c.drop e=[]:=zd (by omega);rw[g9]at L b2;have j8:j=0:=by simpa[aP]using L
  subst j8;have T:=aOt g7 a0;have o:aE (dD c a i=V d):=O (by rw[b2,aOp a b d T]);have a4:=O s;have P:=O z;have G:=O b8;clear s z b8 g9 L b2 a0 T;go_wp2;go_ret;exact⟨Y,d,rfl,a4.o,b4.o.trans P.o,G.o,λ_=>a7.o.trans o.o,by simp⟩
 have k9:(!l==n)=true:=by cases l<;>cases n<;>simp_all
 have a7:aE (fQ (l,c) (n,a) i=zk):=O (by simp[fQ,d9]);clear d9;go_enter Tryz.func173,Tryz.ntmps173;go_wp2;go_ret;exact⟨zq,i,rfl,e7.o,b4.o,⟨[],by simp⟩,by simp,λ_=>a7.o⟩
theorem aNx{e:TypeId}{b a d m:Nat}{f:List zs}(c:z1 w B e 1 (sQ b d a) d f)(t:m<=d):z1 w B e 1 (sQ b m a) m (f.take m):=by
 obtain⟨r,⟨c,_⟩|⟨j,g,i,o,k,l,s,p,q,n⟩⟩:=c
 .simp at c
 obtain⟨rfl,rfl⟩:b=j/\a=g:=by simpa using o
 refine⟨by simp;omega,Or.inr ⟨b,a,i,rfl,k,l,by omega,p,q,?_⟩⟩;rw[<-n,List.take_take];congr 1
 omega
structure yD(w wr:U)(B g:Nat)(dv bv:zs)(M:bK):Prop where
 blk:pH wr g
 fr:Fr B w wr
 rest:∀k,k≠g->wr.heap[k]?=w.heap[k]?
 among:zu wr (aQ g 0)=V dv
 term:∀x:Nat,x<60->zu wr (aQ g (1+x))=if (x:Int)∈M.map Prod.fst then V (nQ) else zu w (aQ g (1+x))
 bound:zu wr (aQ g 61)=V bv
theorem yD.start{a:Nat}{c b:zs}{e:bK}(d:dN w B a c e)(f:cQ w a 61 b):yD w w B a c b []:=
 ⟨d.blk,Fr.refl _ _,λ_ _=>rfl,d.among,λg _=>by simp,f⟩
theorem yD.step{w wr:U}{B b m:Nat}{d c:zs}{M:bK}{p:Int×List Nd}(a:yD w wr B b d c M)(i:B<=b)(r:m<60)(k:p.1=(m:Int))(j:∃f,zu wr (aQ b (1+m))=V f):yD w (z0 wr (aQ b (1+m)) (nQ)) B b d c (M++[p]):=by
 obtain⟨f,l⟩:=j;refine⟨a.blk.set _ _,a.fr.trans (Fr.setB i a.blk _ _),λq e=>by rw[heap_setCell_other _ _ _ _ (by simpa using e)];exact a.rest q e,?_,λg n=>?_,?_⟩
 .rw[zt wr _ _ _ (by first|(simp;done)|(simp;omega))];exact a.among
 .by_cases o:g=m
  .subst o;rw[World.cell?_setCell_same wr _ _ l,aT (by simp[k])]
  rw[zt wr _ _ _ (by first|(simp;done)|(simp;omega)),a.term g n];grind
 rw[zt wr _ _ _ (by first|(simp;done)|(simp;omega))];exact a.bound
theorem aH6(B g:Nat)(p:zs)(a M:bK)(w:U)(d:dN w B g p (a++M)):Calls zv 174 #[pQ g,iQ (Z a:Nat)] w λq S=>q=.returned (.tuple #[])/\dN S B g p a/\Fr B w S:=by
 obtain⟨c3,n,j⟩:=d.bound;have J:=d.ok.few;simp only[zl]at J;have G:=λc0=>d.frozen c0
 have b7:=d.low;have o:=d.apart j;have i:=O d;have b8:=j;obtain⟨_,⟨rfl,a4⟩|⟨e,l,c4,rfl,c5,b3,C,d1,Q,P⟩⟩:=b8
 .have a6:a=[]/\M=[]:=by
   simp only[zl]at a4;exact⟨zr (by omega),zr (by omega)⟩
  obtain⟨rfl,rfl⟩:=a6;have b1:=G 61;have m:=O (dN.less (M:=[]) d d.blk (Fr.refl _ _) d.among (λx _=>by simp) (by rw[n];rfl) (bv':=nQ) (World.ownsRow_nil _ _ _ _));clear d j o;go_enter z4,z2;go_wp2;go_loopw[13] (λk wr=>k=iQ 0/\wr=w) (λ_ _=>0);exact⟨rfl,rfl⟩;obtain⟨rfl,rfl⟩:=hrel;go_wp2;go_end0;exact⟨rfl,m.o⟩
 simp only[zl]at C P n j o Q;have D:∀b,b<Z M->∃f:Nat,f<60/\(M[b]?).map Prod.fst=V (f:Int)/\zu w (aQ e (Z a+b))=V (iQ (f:Int)):=by
  intro b t;have c9:=i.o.ok.keys M[b] (List.mem_append_right _ (zg _));refine⟨M[b].1.toNat,by omega,by simp[t];omega,?_⟩;have:=World.ownsRow.cellAt j (Z a+b) (by omega);rw[this];rw[List.map_append,List.getElem?_append_right (by simp)];simp[t];omega
 have H:e≠g:=by intro q;exact o (by simp[Value.ownBlock,q])
 have s:=aNx j (m:=Z a) (by omega);rw[List.map_append,List.take_left' (by simp)]at s;have A:=O s;have z:=O D;have c7:(0:Int)<=(Z a:Int):=by omega
 have b5:(Z a:Int)<=((Z a+Z M:Nat):Int):=by omega
 have c8:(Z a:Int)<=(l:Int):=by omega
 have b6:(Z a:Int)<=(Z a:Int)+(Z M:Int):=by omega
 clear d j s b3 Q P o D;by_cases b0:l=Z a
 .have a7:M=[]:=zr (by omega);subst a7;subst b0;have b1:=G 61;have m:=O (dN.less (M:=[]) i.o i.o.blk (Fr.refl _ _) i.o.among (λx _=>by simp) (by rw[n];rfl) A.o);simp only[List.length_nil,zc]at n;clear C z b5 b6 J;go_enter z4,z2;go_wp2;go_loopw[13] (λk wr=>k=iQ 0/\wr=w) (λ_ _=>0);exact⟨rfl,rfl⟩;obtain⟨rfl,rfl⟩:=hrel;go_wp2;go_end0;exact⟨rfl,m.o⟩
 go_enter z4,z2;go_wp2;have T:=O (yD.start i.o n);go_loopw[13] (λk wr=>∃b:Nat,b<=Z M/\k=iQ b/\yD w wr B g p (sQ e (Z a+Z M) l) (M.take b)) (λk _=>Z M-(intOf k).toNat);exact⟨0,zm _,rfl,T.o⟩;obtain⟨b,t,rfl,c⟩:=hrel;by_cases u:b<Z M
 .obtain⟨f,v,L,E⟩:=z.o b u;have c6:zu wr (aQ e (Z a+b))=V (iQ (f:Int)):=by rw[World.cell?_of_block (c.rest e H)];exact E
  have F:∃R,zu wr (aQ g (1+f))=V R:=by
   rw[c.term f v];obtain⟨c2,y,_⟩:=i.o.term f v;split
   .exact⟨_,rfl⟩
   exact⟨c2,y⟩
  have b2:zo wr (aQ g (1+f))=false:=by obtain⟨a0,r⟩:=c.blk;simp[zo,r]
  have W:=O (c.step b7 v (p:=M[b]) (by simpa[u]using L) F);obtain⟨R,d0⟩:=F;clear E c L;go_wp2;exact⟨⟨b+1,by omega,by go_num,by rw[List.take_succ_eq_append_getElem u];exact W.o⟩,by simp[intOf];omega⟩
 have I:M.take b=M:=List.take_of_length_le (by omega);rw[I]at c;have a9:=c.bound;have b2:zo wr (aQ g 61)=false:=by
  obtain⟨a0,r⟩:=c.blk;simp[zo,r]
 have N:z1 wr B 3 1 (sQ e (Z a) l) (Z a) (a.map λc1=>iQ c1.1):=by
  obtain⟨a5,⟨a3,_⟩|⟨a2,X,a1,y,a8,b4,b9⟩⟩:=A.o
  .simp at a3
  obtain⟨rfl,rfl⟩:e=a2/\l=X:=by simpa using y
  exact⟨a5,Or.inr ⟨e,l,a1,rfl,a8,by rw[c.rest e H];exact b4,b9⟩⟩
 have m:=O (dN.less i.o c.blk c.fr c.among c.term (by rw[a9];rfl) N);clear c I N;go_wp2;go_end0;exact⟨rfl,m.o⟩
def kP(b:List Lt):Prop:=∀a∈b,aP a.2 1=Y/\Z a.2<=60
theorem dN.len{b:Nat}{e:zs}{a:bK}(f:dN w B b e a):∃c d,cQ w b 61 (.slice c (Z a) d):=by obtain⟨g,i,j⟩:=f.bound;grind[aZ]
theorem vA(w:U)(a b:zs)(c:TypeId):zu (w.alloc (.cells #[a,b] c)) (aQ w.heap.size 0)=V a/\zu (w.alloc (.cells #[a,b] c)) (aQ w.heap.size 1)=V b:=by simp
theorem bAc(B l:Nat)(o:Option Addr)(p:Nat)(a:List Lt)(k:bK)(w:U)(i:Bool)(g:Option Addr)(j:Nat)(c:List Nd)(d:dN w B l (.slice o (Z a) p) k)(r:eC w B o a)(N:iR w B g c)(c2:aP c 1=Y)(c4:Z c<=60)(R:kP a):Calls zv 181 #[pQ l,.agg #[.bool i,.slice g (Z c) j]] w λq a1=>∃A:Nat,q=.returned (iQ A)/\A<=8/\dN a1 B l (.slice o (Z a) p) k/\Fr B w a1:=by
 have n:aB w (w.alloc (.cells #[.bool i,.slice g (Z c) j] 55)):=aI _ _;have s:=d.below n;have L:=r.fr (Fr.of_below n);have P:=N.fr (Fr.of_below n);have M:=aDu (w:=w) (B:=B) #[.bool i,.slice g (Z c) j] 55 (by decide) (by decide);have Q:=vA w (.bool i) (.slice g (Z c) j) 55;have d1:=r.few;have a7:aE (Fr B w (w.alloc (.cells #[.bool i,.slice g (Z c) j] 55))):=O (Fr.of_below n);have c9:=s.among;have b1:=O s;have a5:=O L;have b2:=O P;have J:=O M;have G:=O Q;have a4:=O R;clear d r N n s L P M Q R;go_enter Tryz.func181,Tryz.ntmps181;go_wp2;generalize hW:w.alloc (.cells #[.bool i,.slice g (Z c) j] 55)=W at *;clear hW;go_loopw[5,14] (λb4 z wr=>∃b m:Nat,b<=Z a/\m<=b/\z=iQ b/\b4=iQ m/\dN wr B l (.slice o (Z a) p) k/\Fr B W wr) (λ_ z _=>Z a-(intOf z).toNat);exact⟨0,0,zm _,zm _,rfl,rfl,b1.o,Fr.refl _ _⟩;obtain⟨b,m,d2,d4,rfl,rfl,d,e⟩:=hrel;by_cases b8:b<Z a
 .obtain⟨c6,d7,C,E,rfl,b9,b5,b6,x,t⟩:=(a5.o.fr e).cell b b8;obtain⟨u,v⟩:=a4.o a[b] (zg _);obtain⟨c7,c8,b7⟩:=d.len;have d3:(Z k:Int)<=60:=by have:=d.ok.few;omega
  have c0:=e.cell G.o.1 J.o;have c1:=e.cell G.o.2 J.o;generalize a[b]=y at *;obtain⟨D,F⟩:=y;simp only at b5 b6 u v t x;have f:aB wr (wr.alloc (.cells #[.bool D,.slice C (Z F) E] 55)):=aI _ _;have a3:=O (aH5 B l _ k (wr.alloc (.cells #[.bool D,.slice C (Z F) E] 55)) i D g C j E c F (d.below f) (b2.o.fr (e.trans (Fr.of_below f))) (t.fr (Fr.of_below f)) x c2 u c4 v);have a8:=O (e.trans (Fr.of_below f));have d0:=aC f b7;have d5:=aC f c0;have d6:=aC f c1;clear f d e t b9 x u v;go_wp2_with(first
   |(go_at_call 173;refine(aD a3).mono ?_;rintro q c3 ⟨A,c5,rfl,X,S,⟨b3,rfl⟩,-,-⟩;have a2:=O (aH6 B l _ k b3 c3 X);have a9:=O (a8.o.trans S);clear X S)
   |(go_at_call 174;refine(aD a2).mono ?_;rintro q d8 ⟨rfl,a0,T⟩;have I:=O a0;have H:=O (a9.o.trans T);clear a0 T))
  .go_roundw;·exact⟨b+1,m+1,by omega,by omega,by go_num,by go_num,I.o,H.o⟩
   .simp[intOf];omega
  go_roundw;·exact⟨b+1,m,by omega,by omega,by go_num,rfl,I.o,H.o⟩
  simp[intOf];omega
 have b0:=O d;have a6:=O e;clear d e;go_wp2;go_ret;exact⟨m,rfl,by omega,b0.o,a7.o.trans a6.o⟩
theorem bAd(v:Option Addr)(S:Nat)(R:Bool)(f:List Nd)(w:U)(F:bU w v [(R,f)])(H:∀x∈f,x.1.toList.isEmpty=Y->x.2=0):Calls zv 93 #[.slice v 1 S] w λn a1=>n=.returned (.bool Y)/\aB w a1:=by
 obtain⟨a7,b3,a4,a5,rfl,y,C,p⟩:=F.cell 0 (by simp);simp only[zp,z3,zc]at y C p;have Q:=O H;have a9:=p.few;clear F H;go_enter Tryz.func93,Tryz.ntmps93;go_wp2;go_loopw[3,10] (λu s wr=>∃(g:Nat) (i:Int),g<=1/\s=iQ g/\u=iQ i/\(i=0\/i=1)/\(g=0->i=0)/\aB w wr) (λ_ s _=>1-(intOf s).toNat);exact⟨0,0,by omega,rfl,rfl,Or.inl rfl,λ_=>rfl,dP⟩;obtain⟨g,i,a8,rfl,rfl,W,-,b⟩:=hrel;by_cases b0:g<1
 .obtain rfl:g=0:=by omega
  rw[show ((0:Nat):Int)=0 from rfl];have z:=aC b y;have D:=aC b C;have T:=b.size;go_wp2;go_loopw[3,17] (λu t a2=>∃(a:Nat) (j:Int),a<=Z f/\t=iQ a/\u=iQ j/\(j=0\/j=1)/\aB w a2) (λ_ t _=>Z f-(intOf t).toNat);exact⟨0,i,zm _,rfl,rfl,W,b.alloc T _⟩;obtain⟨a,j,b1,rfl,rfl,r,e⟩:=hrel;by_cases G:a<Z f
  .obtain⟨a6,b2,rfl,A,E⟩:=p.cell a G;have X:=aC e A;have a0:=aC e E;have o:=Q.o f[a] (zg G);generalize f[a]=nd at *;obtain⟨L,M⟩:=nd;simp only at X a0 o;have k:=O (λa3=>sJ L M a3);have l:=O e;have q:=e.size;clear A E e b z D;cases hv:L.toList.isEmpty
   .rw[hv]at k;clear o hv;go_wp2_with(go_at_call 89;refine(aD k _).mono ?_;rintro n N ⟨rfl,c⟩;obtain⟨I,J,d⟩:=lN c;have m:=O (l.o.trans (d.mono q));clear c d);exact⟨⟨a+1,j,by omega,by go_num,rfl,r,m.o⟩,by simp[intOf];omega⟩
   rw[hv]at k;obtain rfl:M=0:=o hv;clear o hv;rcases r with rfl|rfl
   .go_wp2_with(go_at_call 89;refine(aD k _).mono ?_;rintro n N ⟨rfl,c⟩;obtain⟨I,J,d⟩:=lN c;have m:=O (l.o.trans (d.mono q));clear c d);exact⟨⟨a+1,1,by omega,by go_num,rfl,Or.inr rfl,m.o⟩,by simp[intOf];omega⟩
   go_wp2_with(go_at_call 89;refine(aD k _).mono ?_;rintro n N ⟨rfl,c⟩;obtain⟨I,J,d⟩:=lN c;have m:=O (l.o.trans (d.mono q));clear c d);exact⟨⟨a+1,1,by omega,by go_num,rfl,Or.inr rfl,m.o⟩,by simp[intOf];omega⟩
  have l:=O e;clear e b z D;go_wp2;exact⟨⟨1,j,by omega,rfl,rfl,r,by omega,l.o⟩,by simp[intOf]⟩
 have P:=O b;clear b;go_wp2;go_ret;exact⟨rfl,P.o⟩
theorem aNy(g:Option Addr)(k:Nat)(e:Bool)(b:List Nd)(w:U)(i:bU w g [(e,b)])(j:bD [(e,b)]=Y)(z:∀H∈b,H.1.toList.isEmpty=Y->H.2=0)(x:pE w):Calls zv 31 #[.slice g 1 k] w λf C=>f=.returned (.bool Y)/\aB w C:=by
 have o:bN [(e,b)]=Y/\iP b=true:=by unfold bD at j;simp at j;exact⟨j.1.1,j.1.2⟩
 have q:=O (aBa g k [(e,b)] w i);have p:=O (λ(a:U) (d:aB w a)=>aN6 g k [(e,b)] a (i.below d (zn _)));have r:=O (λ(a:U) (d:aB w a)=>bAd g k e b a (i.below d (zn _)) z);have T:aE (∀a,aB w a->Calls zv 55 #[.slice g 1 k] a λf C=>f=.returned (.bool Y)/\aB a C):=O λa d=>by
  have E:=O (aD p a d);have S:=O (λ(Q:U) (a4:aB a Q)=>aD r Q (d.trans (a4.mono d.size)));have a3:eG [(e,b)]=[(e,b)]:=by simp[eG,jH,fE]
  rw[a3]at E;clear p r q i d j z x o;go_enter Tryz.func55,Tryz.ntmps55;go_wp2_with(first
   |(go_at_call 91;refine(aD E).mono ?_;rintro f P ⟨b1,a1,rfl,I,a2,N,c⟩;obtain⟨b2,b3,rfl⟩:=aZ N;have J:Z a1=1:=(by have:=congrArg Z I;simpa using this);rw[J];have n:=O c;clear I a2 N c J)
   |(go_at_call 93;refine(aD S _ n.o).mono ?_;rintro f b5 ⟨rfl,M⟩;have X:=O (bE n.o M);clear M))
  go_ret;exact⟨rfl,X.o⟩
 obtain⟨a7,b0,F,G,rfl,t,u,v⟩:=i.cell 0 (by simp);simp only[zp,z3,zc]at t u v;have D:=O (λ(a:U) (d:aB w a)=>bA8 F G b a (v.below d (zn _)) (x.below d (zn _)));rw[o.1]at q;rw[o.2]at D;clear i j z x o v p r;go_enter Tryz.func31,Tryz.ntmps31;go_wp2_with(go_at_call 53;refine(aD q).mono ?_;rintro f b4 ⟨rfl,L⟩);go_loopw[10] (λA wr=>∃m:Nat,m<=1/\A=iQ m/\aB w wr) (λA _=>1-(intOf A).toNat);exact⟨0,by omega,rfl,L⟩;clear L;obtain⟨m,a8,rfl,c⟩:=hrel;by_cases a9:m<1
 .obtain rfl:m=0:=by omega
  rw[show ((0:Nat):Int)=0 from rfl];have a5:=aC c t;have a6:=aC c u;have y:aB w (wr.alloc (.cells #[.bool e,.slice F (Z b) G] 55)):=c.alloc c.size _;have R:=O (aD D _ y);have a0:=O y;clear c y t u;go_wp2_with(go_at_call 54;refine(aD R).mono ?_;rintro f P ⟨rfl,l⟩;have s:=O (bE a0.o l);clear l);exact⟨⟨1,by omega,rfl,s.o⟩,by simp[intOf]⟩
 have W:=O (aD T wr c);have n:=O c;clear c;go_wp2_with(go_at_call 55;refine(aD W).mono ?_;rintro f P ⟨rfl,l⟩;have s:=O (bE n.o l);clear l);go_ret;exact⟨rfl,s.o⟩
