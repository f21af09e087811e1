import Derived.Test.YthjhkgohninpcaaGreatDoorGOrdM
import Derived.Test.YthjhkgohninpcaaGreatDoorXSr4M
import Derived.Test.YthjhkgohninpcaaGreatDoorXIResM
import Derived.Deep.Slices
import Derived.ChangeArms
open Array renaming getElem?_eq_some_iff→zy
open List renaming mem_append→zw,foldl_cons→zt,mem_map→zs,getElem?_append_left→zr,getElem?_eq_some_iff→zq,mem_cons→zo,getElem?_eq_getElem→zn,getElem_mem→zm,getElem_map→zl,range→zi,getElem_range→zh,nodup_append→zg,all_eq_true→zd
open Nat renaming add_assoc→zv,le_refl→zu
namespace Go.Proofs.YthjhkgohninpcaaGreatDoor
open _root_.Go.Proofs.Tryz renaming prog→zz,underlying3→zx,underlying22→zp,ntmps38→zk,func38→zj,underlying45→zf
set_option maxHeartbeats 4000000
set_option maxRecDepth 100000
variable{yes:Bool}{e:Int}{V:Int->Int->Prop}{rest:List (Int×Lt)}{out:List Lt}{l:List Nd}{M0:List Tg}{B:Nat}{v:Value}{w w' w1:World}
section
open Go.RowKit
theorem aGf:∀(l:List Nd) (a:List Nd×List Int),∃b,(l.foldl cZ a).2=a.2++b
 |[],a=>⟨[],by simp⟩
 |n::l,a=>by
  obtain ⟨b,c⟩:=aGf l (cZ a n);rw [zt,c];unfold cZ;split
  ·split
   ·exact ⟨[n.2]++b,by simp⟩
   ·exact ⟨b,rfl⟩
  ·exact ⟨b,rfl⟩
theorem kN.more{s i:List Int}{a b:Int}(d:kN s a b):kN (s++i) a b:=by obtain ⟨f,c,g⟩:=d;exact ⟨f,by rw [zr (zq.1 c).1];exact c,g⟩
theorem aNv:∀(b c:List Lt) (a:List Lt×List Int),a.2.Nodup->aO (kO (kN a.2)) c a.1->(b.foldl eG a).2.Nodup/\aO (kO (kN (b.foldl eG a).2)) (c++b) (b.foldl eG a).1:=by
 intro b;induction b with
 |nil=>intro c a d f;simpa using ⟨d,f⟩
 |cons x b ih=>
  intro c a d f;rw [zt];have k:=aXg x.2 [] ([],a.2) d aO.nil;obtain ⟨t,m⟩:=aGf x.2 ([],a.2);simp only at m;have o:(eG a x).2.Nodup/\aO (kO (kN (eG a x).2)) (c++[x]) (eG a x).1:=by
   refine ⟨k.1,aO.snoc (f.mono λg i n=>⟨n.1,n.2.mono λs r q=>aKi (λg i p=>?_) q⟩) ⟨rfl,?_⟩⟩
   ·show kN (dF x.2 a.2).2 g i;unfold dF;rw [m];exact p.more
   ·have j:=k.2;rw [List.nil_append] at j;exact j
  have:=ih (c++[x]) (eG a x) o.1 o.2;rwa [List.append_assoc,List.singleton_append] at this
theorem aCu(a:List Lt):(dG (bY a)).2.Nodup/\aO (kO (kN (dG (bY a)).2)) (bY a) (aU a):=aNv (bY a) [] ([],[]) (by simp) aO.nil
theorem aNw:∀(b a:List Lt),a.Nodup->(b.foldl eO a).Nodup:=by
 intro b;induction b with
 |nil=>intro a c;exact c
 |cons x b ih=>
  intro a c;rw [zt];refine ih _ ?_;unfold eO;split
  ·exact c
  ·rename_i g;rw [zg];refine ⟨c,by simp,λi f j d=>?_⟩;simp at d;subst d;rintro rfl;exact g ((aAv _ _).2 f)
theorem aNx:∀(b a:List Lt),(a++b).Nodup->b.foldl eO a=a++b:=by
 intro b;induction b with
 |nil=>intro a _;simp
 |cons x b ih=>
  intro a c;rw [zt];have g:eO a x=a++[x]:=by unfold eO;rw [aI];intro f;have d:=(aAv _ _).1 f;rw [zg] at c;exact c.2.2 x d x (by simp) rfl
  rw [g,ih (a++[x]) (by simpa using c)];simp
theorem aNy(a:List Lt):bY (bY a)=bY a:=by have:=aNx (bY a) [] (by simpa [bY] using aNw a [] (by simp));simpa [bY] using this
theorem aNz(a:List Lt):aU (aU a)=aU a:=by obtain ⟨b,c⟩:=aCu a;have d:=aBs (kN.pairs b) c;rw [<-d];show (dG (bY (bY a))).1=(dG (bY a)).1;rw [aNy]
theorem aGg{b a:Nd}(f:gZ V b a):bP b=bP a/\aM b=aM a:=by
 rcases f with ⟨c,d,_,_⟩|⟨_,rfl⟩
 ·exact ⟨by rw [mO c,mO d],by rw [c,d]⟩
 ·exact ⟨rfl,rfl⟩
theorem aO0{f:List Nd}(b:aO (gZ V) l f):∀a,zH l a->zH f a:=by
 induction b with
 |nil=>intro a b;exact b
 |@cons n n' l f h1 h2 ih=>
  intro a c;cases a with
  |zero=>have:=c.2;simp at this
  |succ a=>
   have d:=ih (a+bP n) ⟨by have:=c.1;simpa [eR] using this,by have:=c.2;simp [aN] at this;omega⟩;rw [(aGg h1).1] at d;refine ⟨by simpa [eR] using d.1,?_⟩;have:=d.2;simp only [aN,List.length_cons];omega
theorem wF{f g:Type}{c:f->g->Prop}{l:List f}{d:List g}(i:aO c l d):∀a∈d,∃b∈l,c b a:=by
 induction i with
 |nil=>intro a hb;simp at hb
 |cons h1 _ ih=>
  intro a hb;rcases zo.1 hb with rfl|hb
  ·exact ⟨_,by simp,h1⟩
  ·obtain ⟨b,j,k⟩:=ih a hb;exact ⟨b,by simp [j],k⟩
theorem aO1{a b:List Lt}(c:aO (kO V) a b):aR a=aR b:=by
 induction c with
 |nil=>rfl
 |cons h1 _ ih=>
  have:=h1.2.length;simp [aR] at ih ⊢;omega
theorem aO2{b:List Nd}(c:aO (gZ V) l b)(a:Nd):aM (l.headD a)=aM (b.headD a):=by
 cases c with
 |nil=>rfl
 |cons q _=>exact (aGg q).2
theorem aGh{a:List (List Nd)}:∀b∈dC rest a,b.2∈a:=by
 intro b hx;unfold dC at hx;induction rest generalizing a with
 |nil=>simp at hx
 |cons r rest ih=>
  cases a with
  |nil=>simp at hx
  |cons l a=>
   simp only [List.zipWith_cons_cons,zo] at hx;rcases hx with rfl|hx
   ·simp
   ·exact List.mem_cons_of_mem _ (ih hx)
theorem aO3{ls:List (List Nd)}:(dC rest ls).length<=rest.length:=by unfold dC;rw [List.length_zipWith];omega
theorem aO4(a:List Lt):(aU a).length<=a.length:=by have b:=(oZ (bY a)).1;have c:=(oY a).1;show (dG (bY a)).1.length<=a.length;omega
theorem aO5{i j:Nat}(k:fL M0 i j rest out yes e)(t:∀c∈M0++aK rest,c.2.1.size<=80)(C:rest.length<=100):pR out:=by
 have g:pR []:=⟨by simp,λd a=>by simp at a⟩;rcases k with ⟨_,rfl,_⟩|⟨_,F,ls,_,r,⟨_,rfl,_⟩|⟨A,rfl,_,_⟩⟩
 ·exact g
 ·exact g
 ·refine ⟨by have:=aO4 (dC rest ls);have:=aO3 (rest:=rest) (ls:=ls);omega,λd a=>⟨by have:=wZ _ d a;omega,λD o=>?_⟩⟩;obtain ⟨f,y,_,p⟩:=wF (aCu (dC rest ls)).2 d a;obtain ⟨n,u,q⟩:=wF p _ (zm o);have z:=aGh f ((oY _).2.2 f y);obtain ⟨E,_,m⟩:=wF r f.2 z;rcases q with ⟨_,b,_⟩|⟨b,e⟩
  ·rw [zJ b];decide
  ·rw [<-e];have s:=(aKg m).2 n u b;obtain ⟨c,x,rfl⟩:=zs.1 s;exact t c x
theorem aO6{a:List Lt}(o:∀b∈a,zH b.2 1/\(∀d∈b.2,aM d=false->dU d=true)/\aM (b.2.headD (⟨#[]⟩,0))=false)(c:cD (aU a)=true):cG (aU a)=true:=by
 obtain ⟨D,j⟩:=aCu a;have E:aR (aU a)<=60:=by unfold cD at c;simp at c;exact c.2
 have G:(dG (bY a)).2.length<=60:=by have:=(oZ (bY a)).2;rw [aO1 j] at this;omega
 unfold cG;rw [c,aNz,Bool.true_and,Bool.and_eq_true,zd];refine ⟨λf k=>?_,by simp⟩;obtain ⟨b,A,_,g⟩:=wF j f k;obtain ⟨y,u,p⟩:=o b ((oY a).2.2 b A);have x:∀i∈f.2,dU i=true:=by
  intro i s;obtain ⟨d,t,r⟩:=wF g i s;rcases r with ⟨_,n,_,H,C,I⟩|⟨m,rfl⟩
  ·unfold dU;rw [aJ n];have:=(zq.1 C).1;simp;omega
  ·exact u d t m
 have z:=aXf _ 1 (aO0 g 1 y) x;have F:=wZ (aU a) f k;unfold eT fQ;have q:aM (f.2.headD (⟨#[]⟩,0))=false:=by rw [<-aO2 g];exact p
 rw [z,q];simp;omega
theorem aO7{g i:Nat}(j:fL M0 g i rest out yes e)(o:∀c∈M0++aK rest,dU c.2=true)(s:∀a∈bE M0.length rest,(aF ((M0++aK rest).map Prod.snd)).named a)(k:cD out=true):cG out=true:=by
 have f:cG []=true:=by kernel_rfl
 rcases j with ⟨_,rfl,_⟩|⟨C,E,D,_,m,⟨_,rfl,_⟩|⟨A,rfl,_,_⟩⟩
 ·exact f
 ·exact f
 ·refine aO6 (λd x=>?_) k;obtain ⟨a,r,b⟩:=wF m d.2 (aGh d x);obtain ⟨y,z⟩:=aKg b;refine ⟨y,λn p u=>?_,?_⟩
  ·obtain ⟨c,t,rfl⟩:=zs.1 (z n p u);exact o c t
  ·have q:=s a r;generalize d.2=l at b;cases b with
   |var h1 _=>exact absurd q (h1 a (Cl.refl a))
   |name h1 h2 _=>exact h2
theorem aGi:∀(rest:List (Int×Lt)) (a:List Tg),(∀r∈rest,r.2.2≠[])->∀b∈bE a.length rest,∃r∈rest,((a++aK rest).map Prod.snd)[b]?=r.2.2[0]?
 |[],a,_,b,hp=>by simp [bE] at hp
 |r::rest,a,h,b,hp=>by
  have e:a++aK (r::rest)=(a++r.2.2.map λn=>(r.1,n))++aK rest:=by simp [aK]
  simp only [bE,zo] at hp;rcases hp with rfl|hp
  ·refine ⟨r,by simp,?_⟩;have c:=h r (by simp);cases hr:r.2.2 with
   |nil=>exact absurd hr c
   |cons n l=>
    simp [aK,hr]
  ·have g:a.length+r.2.2.length=(a++r.2.2.map λn=>(r.1,n)).length:=by simp
   rw [g] at hp;obtain ⟨j,d,f⟩:=aGi rest _ (λk i=>h k (by simp [i])) b hp;exact ⟨j,by simp [d],by rw [e];exact f⟩
theorem aGj{n o:Nat}(g:fL M0 n o rest out yes e)(p:∀c∈M0,dU c.2=true)(u:∀a∈rest,eT a.2.2=true)(q:rest.length<=100):pR out/\(cD out=true->cG out=true):=by
 have d:∀a∈rest,bA a.2.2 1=true/\aM (a.2.2.headD (⟨#[]⟩,0))=false:=by intro a b;have:=u a b;unfold eT fQ at this;simp at this;exact ⟨this.1.1,by simpa using this.2⟩
 have m:∀c∈M0++aK rest,dU c.2=true:=by
  intro c ht;rcases zw.1 ht with ht|ht
  ·exact p c ht
  ·obtain ⟨a,b,r⟩:=List.mem_flatMap.1 ht;obtain ⟨f,s,rfl⟩:=zs.1 r;exact aBh (d a b).1 f s
 have k:∀a∈rest,a.2.2≠[]:=by intro a b e;have:=(d a b).1;rw [e] at this;simp [bA] at this
 refine ⟨aO5 g (λc ht=>aDg (m c ht)) q,aO7 g m λx t=>?_⟩;obtain ⟨a,b,j⟩:=aGi rest M0 k x t;have i:=(d a b).2;cases hr2:a.2.2 with
 |nil=>exact absurd hr2 (k a b)
 |cons f l=>
  rw [hr2] at j i;exact (fW (n:=f) (by simpa using j)).2 (by simpa using i)
end
section
open Go.RowKit Go.Shelf Go.WideMaps
theorem aCv{b:List Lt}(a:cG b=true):b.length<=8/\∀l∈b,eT l.2=true:=by unfold cG cD at a;simp only [Bool.and_eq_true,zd,decide_eq_true_eq] at a;exact ⟨a.1.1.1,λl c=>a.1.2 l c⟩
theorem aO8(a:eT l=true):∀b∈l,dU b=true:=by unfold eT fQ at a;simp at a;exact aBh a.1.1
theorem aA3{g:Int}(c:eT l=true):∀b∈aQ g l,dU b.2=true:=by intro b a;unfold aQ at a;obtain ⟨f,d,rfl⟩:=zs.1 a;exact aO8 c f d
theorem aA4{a:List Lt}{b:Nat}(c:b<a.length):a.getD b default∈a:=by rw [List.getD_eq_getElem?_getD,zn c];exact zm c
theorem gQ.good{c d:List Lt}{u x:Int}(b:gQ c d u x out yes e):pR out/\(cD out=true->cG out=true):=by
 have g:pR []/\(cD []=true->cG []=true):=⟨⟨by simp,λD t=>by simp at t⟩,λ_=>by kernel_rfl⟩;rcases b with ⟨_,rfl,_⟩|⟨o,p,⟨_,rfl,_⟩|⟨m,n,⟨q,r,_⟩,b⟩⟩
 ·exact g
 ·exact g
 ·obtain ⟨A,i⟩:=aCv o;obtain ⟨C,j⟩:=aCv p;refine aGj b (λk ht=>?_) (λz s=>?_) ?_
  ·rcases zw.1 ht with ht|ht
   ·exact aA3 (i _ (aA4 q)) k ht
   ·exact aA3 (j _ (aA4 r)) k ht
  ·obtain ⟨y,a,f⟩:=vG _ _ z s;simp at a;rcases a with rfl|rfl
   ·exact i _ f
   ·exact j _ f
  ·have:=aBr [(c,m),(d,n)] 0 (λy a=>by simp at a;rcases a with rfl|rfl<;>assumption);simp at this;omega
theorem jF.good{d:List Lt}{q r:Int}(b:jF d q r out yes e):pR out/\(cD out=true->cG out=true):=by
 have f:pR []/\(cD []=true->cG []=true):=⟨⟨by simp,λy p=>by simp at p⟩,λ_=>by kernel_rfl⟩;rcases b with ⟨_,rfl,_⟩|⟨j,⟨_,rfl,_⟩|⟨u,i,⟨k,m,_⟩,b⟩⟩
 ·exact f
 ·exact f
 ·obtain ⟨x,c⟩:=aCv j;refine aGj b (λg ht=>?_) (λt o=>?_) ?_
  ·rcases zw.1 ht with ht|ht
   ·exact aA3 (c _ (aA4 k)) g ht
   ·exact aA3 (c _ (aA4 m)) g ht
  ·obtain ⟨s,a,n⟩:=vG _ _ t o;simp at a;subst a;exact c _ n
  ·have:=aBr [(d,i)] 0 (λs a=>by simp at a;subst a;assumption);simp at this;omega
structure Rs where
 r:Int
 a:Int
 b:Int
 i:Int
 j:Int
 c:List Lt
def yC(a:List Rs)(b:Int):List Lt:=((a[b.toNat]?).map Rs.c).getD []
theorem wG{a:List Rs}{b:Nat}(c:b<a.length):yC a (b:Int)=a[b].c:=by unfold yC;rw [Int.toNat_natCast,zn c];rfl
def aA5(b:List (List Lt))(a:Rs):Prop:=(0<=a.a/\a.a<b.length)/\a.b=0/\a.i=0/\a.j=0
def tC(d:List (List Lt))(c:List Rs)(b:Nat)(a:Rs)(out:List Lt)(ok:Bool):Prop:=
 (a.r=1/\((aA5 d a/\d[a.a.toNat]?=some out/\ok=true)\/(¬aA5 d a/\out=[]/\ok=false)))\/
 (a.r=2/\(((0<=a.a/\a.a<b)/\(0<=a.b/\a.b<b)/\∃e,gQ (yC c a.a) (yC c a.b) a.i a.j out ok e)\/(¬((0<=a.a/\a.a<b)/\(0<=a.b/\a.b<b))/\out=[]/\ok=false)))\/
 (a.r=3/\(((0<=a.a/\a.a<b)/\a.b=0/\∃e,jF (yC c a.a) a.i a.j out ok e)\/(¬((0<=a.a/\a.a<b)/\a.b=0)/\out=[]/\ok=false)))\/
 ((a.r≠1/\a.r≠2/\a.r≠3)/\out=[]/\ok=false)
theorem tC.one{o:List (List Lt)}{L:List Rs}{r:Nat}{u:Rs}{s t:List Lt}{p q:Bool}(b:tC o L r u s p)(d:tC o L r u t q):s=t/\p=q:=by
 rcases b with ⟨m,b⟩|⟨m,b⟩|⟨m,b⟩|⟨m,rfl,rfl⟩<;>rcases d with ⟨n,d⟩|⟨n,d⟩|⟨n,d⟩|⟨n,rfl,rfl⟩<;>try (exfalso;omega)
 ·rcases b with ⟨c,g,rfl⟩|⟨c,rfl,rfl⟩<;>rcases d with ⟨a,f,rfl⟩|⟨a,rfl,rfl⟩
  ·rw [g] at f;exact ⟨Option.some.inj f,rfl⟩
  ·exact absurd c a
  ·exact absurd a c
  ·exact ⟨rfl,rfl⟩
 ·rcases b with ⟨c,g,e,b⟩|⟨c,rfl,rfl⟩<;>rcases d with ⟨a,f,x,k⟩|⟨a,rfl,rfl⟩
  ·obtain ⟨i,j,_⟩:=b.one k;exact ⟨i,j⟩
  ·exact absurd ⟨c,g⟩ a
  ·exact absurd ⟨a,f⟩ c
  ·exact ⟨rfl,rfl⟩
 ·rcases b with ⟨c,g,e,b⟩|⟨c,rfl,rfl⟩<;>rcases d with ⟨a,f,x,k⟩|⟨a,rfl,rfl⟩
  ·obtain ⟨i,j,_⟩:=b.one k;exact ⟨i,j⟩
  ·exact absurd ⟨c,g⟩ a
  ·exact absurd ⟨a,f⟩ c
  ·exact ⟨rfl,rfl⟩
 ·exact ⟨rfl,rfl⟩
def lU(c:List (List Lt))(b:List Rs)(d:Nat)(a:Rs):Prop:=tC c b d a a.c true/\cD a.c=true
def lG(g:ByteArray)(a:List Rs):Prop:=∃c d,gI g c d 0/\a≠[]/\(∀b (f:b<a.length),lU c a b a[b])/\∀f:0<a.length,a[a.length-1].c=[]
structure lH(w:World)(ad:Option Addr)(L:List Rs):Prop where
 few:L.length<=2199023255552
 cell:∀k (h:k<L.length),∃b o ca cc,ad=some ⟨b,o,none⟩/\w.cell? ⟨b,o+k*6,none⟩=some (.int .i64 L[k].r)/\w.cell? ⟨b,o+k*6+1,none⟩=some (.int .i64 L[k].a)/\w.cell? ⟨b,o+k*6+2,none⟩=some (.int .i64 L[k].b)/\w.cell? ⟨b,o+k*6+3,none⟩=some (.int .i64 L[k].i)/\w.cell? ⟨b,o+k*6+4,none⟩=some (.int .i64 L[k].j)/\w.cell? ⟨b,o+k*6+5,none⟩=some (.slice ca L[k].c.length cc)/\bD w ca L[k].c
theorem lH.below{a:Option Addr}{l:List Rs}(c:lH w a l){B:Nat}(k:Below B w w1)(b:w.heap.size<=B):lH w1 a l:=
 ⟨c.few,λj t=>by
  obtain ⟨d,u,p,q,r,f,g,i,m,n,o,s⟩:=c.cell j t;exact ⟨d,u,p,q,r,Below.at' k b f,Below.at' k b g,Below.at' k b i,Below.at' k b m,Below.at' k b n,Below.at' k b o,s.below k b⟩⟩
structure pV(w:World)(ad:Option Addr)(P:List (List Lt)):Prop where
 few:P.length<=1000000
 cell:∀k (h:k<P.length),∃b ca cc,ad=some ⟨b,0,none⟩/\w.cell? ⟨b,k,none⟩=some (.slice ca P[k].length cc)/\bD w ca P[k]
theorem pV.below{a:Option Addr}{l:List (List Lt)}(b:pV w a l){B:Nat}(k:Below B w w1)(c:w.heap.size<=B):pV w1 a l:=
 ⟨b.few,λj o=>by
  obtain ⟨d,f,g,i,m,n⟩:=b.cell j o;exact ⟨d,f,g,i,Below.at' k c m,n.below k c⟩⟩
end
section
open Go.RowKit Go.ChangeShapes Go.WideShapes
structure wH(w:World)(ad:Option Addr)(L:List Rs):Prop where
 sts:lH w ad L
 nils:∀k (h:k<L.length) b o ca n cc,ad=some ⟨b,o,none⟩->w.cell? ⟨b,o+k*6+5,none⟩=some (.slice ca n cc)->tP w ca L[k].c
theorem wH.below{a:Option Addr}{l:List Rs}(b:wH w a l)(k:aC w w1):wH w1 a l:=
 ⟨b.sts.below k (zu _),λj g i m p n r e f=>by
  obtain ⟨o,t,q,s,d,-,-,-,-,-,c,hl⟩:=b.sts.cell j g;rw [e] at d;cases d;have:=aD k c;rw [this] at f;cases f;exact (b.nils j g i m _ _ _ e c).below hl k⟩
theorem aO9:zz.bytesOf 45=64:=by kernel_rfl
theorem aOa{a:Addr}(c:w.cell? (a.add (0*6))=some v):∃b d,a=⟨b,d,none⟩:=by
 obtain ⟨b,d,f⟩:=a;cases f with
 |none=>exact ⟨b,d,rfl⟩
 |some s=>
  simp only [Addr.add,World.cell?] at c;split at c<;>simp at c
theorem aOb{b:Type}{i:Nat}{g:Nat->DataW b}{f p:List (DataW b)}{d:DataW b}{c a:Nat}(m:c<i)(k:g c=.agg f)(o:f[5]?=some d)(n:a∈d.weights zz 41):a∈(DataW.slice ((zi i).map g) p).weights zz 22:=by simp only [DataW.weights,zp,zo,zw];right;left;refine aAt (d:=.agg f) (zs.2 ⟨c,List.mem_range.2 m,k⟩) a ?_;simp only [DataW.weights,zf];exact DataW.weights_mem_each (j:=5) rfl o a n
instance:Inhabited Rs:=⟨⟨0,0,0,0,0,[]⟩⟩
theorem aOc{G:Type}{a9:TypeId×Value->G}{b0:Nat}{I:List Value}{a0:DataW G×List MemPlace}(y:DataW.trod a9 zz w 0 (λ_=>true) true b0 22 I=some a0)(S:∀z∈a0.1.weights zz 22,z<=reachBytes):∃f E A,I=[.slice f (List.length E) A]/\wH w f E/\E.length<=A:=by
 rcases Deep.open_slice zp y with ⟨rfl,rfl⟩|⟨f,m,A,D,z,F,d1,rfl,d4,b4,d5,b8,rfl,c1⟩
 ·exact ⟨none,[],0,rfl,⟨⟨by simp,λa y=>absurd y (by simp)⟩,λa y=>absurd y (by simp)⟩,by simp⟩
 ·have b7:D=A:=by simpa using b8
  subst b7;have a4:zz.cellsOf 45=6:=by kernel_rfl
  have a8:∀k,k<m->∃d:Rs×Option Addr×Nat,(w.cell? (f.add (k*6))=some (.int .i64 d.1.r)/\w.cell? (f.add (k*6+1))=some (.int .i64 d.1.a)/\w.cell? (f.add (k*6+2))=some (.int .i64 d.1.b)/\w.cell? (f.add (k*6+3))=some (.int .i64 d.1.i)/\w.cell? (f.add (k*6+4))=some (.int .i64 d.1.j)/\w.cell? (f.add (k*6+5))=some (.slice d.2.1 d.1.c.length d.2.2))/\bD w d.2.1 d.1.c/\tP w d.2.1 d.1.c:=by
   intro k b3;obtain ⟨a7,Q,b1⟩:=c1 k (by omega);rw [a4] at Q;obtain ⟨d7,b5,p⟩:=World.cells?_some Q;obtain ⟨c5,a,C,c3,_,c2,i⟩:=DataW.trod_struct zf b1;match c5,c2,a7,b5 with
   |[y0,y1,y2,y3,y4,y5],_,[v0,v1,v2,v3,v4,v5],_=>
    have q:=i 0 _ rfl;have r:=i 1 _ rfl;have s:=i 2 _ rfl;have t:=i 3 _ rfl;have u:=i 4 _ rfl;have x:=i 5 _ rfl;have a5:zz.cellsOf 3=1:=by kernel_rfl
    have a6:zz.cellsOf 41=1:=by kernel_rfl
    simp [a5,a6] at q r s t u x;obtain ⟨c6,J,_,_⟩:=DataW.trod_int zx q;obtain ⟨c7,L,_,_⟩:=DataW.trod_int zx r;obtain ⟨c8,M,_,_⟩:=DataW.trod_int zx s;obtain ⟨c9,N,_,_⟩:=DataW.trod_int zx t;obtain ⟨d0,O,_,_⟩:=DataW.trod_int zx u;obtain ⟨a1,l,a2,P,b6,c0⟩:=aU5 x (λz b9=>S z (aOb b3 (congrArg Prod.fst c3) rfl b9));simp at J L M N O P;subst J L M N O P;have T:=p 0 (by omega);have U:=p 1 (by omega);have W:=p 2 (by omega);have X:=p 3 (by omega);have Y:=p 4 (by omega);have Z:=p 5 (by omega);rw [Deep.add_add] at T U W X Y Z;exact ⟨(⟨c6,c7,c8,c9,d0,l⟩,a1,a2),⟨by simpa using T,by simpa using U,by simpa using W,by simpa using X,by simpa using Y,by simpa using Z⟩,b6,c0⟩
  obtain ⟨g,i⟩:=Deep.choose_lt a8;have d8:(m+(D-m))*64<=reachBytes:=by have:=S ((((zi m).map F).length+((zi (D-m)).map λj=>F (m+j)).length)*zz.bytesOf 45) (by simp only [DataW.weights,zp];exact List.mem_cons_self);rw [aO9] at this;simpa using this
  have d6:=reachBytes_lt;have H:∀a,a<m->∃b c,f=⟨b,c,none⟩/\w.cell? ⟨b,c+a*6,none⟩=some (.int .i64 (g a).1.r)/\w.cell? ⟨b,c+a*6+1,none⟩=some (.int .i64 (g a).1.a)/\w.cell? ⟨b,c+a*6+2,none⟩=some (.int .i64 (g a).1.b)/\w.cell? ⟨b,c+a*6+3,none⟩=some (.int .i64 (g a).1.i)/\w.cell? ⟨b,c+a*6+4,none⟩=some (.int .i64 (g a).1.j)/\w.cell? ⟨b,c+a*6+5,none⟩=some (.slice (g a).2.1 (g a).1.c.length (g a).2.2):=by intro a o;obtain ⟨b,c,rfl⟩:=aOa (i 0 (by omega)).1.1;obtain ⟨⟨q,r,s,t,u,x⟩,_⟩:=i a o;rw [yO] at q r s t u x;exact ⟨b,c,rfl,q,by simpa [zv] using r,by simpa [zv] using s,by simpa [zv] using t,by simpa [zv] using u,by simpa [zv] using x⟩
  refine ⟨some f,(zi m).map λk=>(g k).1,D,by simp,⟨⟨by simp;omega,λa C=>?_⟩,λa C b c d2 z d3 b2 R=>?_⟩,by simpa using b4⟩
  ·have o:a<m:=by simpa using C
   obtain ⟨b,c,rfl,n⟩:=H a o;refine ⟨b,c,(g a).2.1,(g a).2.2,rfl,?_⟩;simp only [zl,zh];exact ⟨n.1,n.2.1,n.2.2.1,n.2.2.2.1,n.2.2.2.2.1,n.2.2.2.2.2,(i a o).2.1⟩
  ·have o:a<m:=by simpa using C
   obtain ⟨a3,c4,rfl,n⟩:=H a o;obtain ⟨rfl,rfl⟩ : a3=b/\c4=c:=by simpa using b2
   rw [n.2.2.2.2.2] at R;cases R;simp only [zl,zh];exact (i a o).2.2
end
section
open Go.RowKit Go.Shelf Go.WideMaps
def oO(a:Rs×Value):List Value:=[.int .i64 a.1.r,.int .i64 a.1.a,.int .i64 a.1.b,.int .i64 a.1.i,.int .i64 a.1.j,a.2]
def oP(a:List (Rs×Value)):List Value:=a.flatMap oO
theorem aOd(a:List (Rs×Value)):(oP a).length=a.length*6:=by
 induction a with
 |nil=>rfl
 |cons x r ih=>simp [oP,oO] at ih ⊢;omega
theorem aOe(a:List (Rs×Value))(b:Rs×Value):oP (a++[b])=oP a++oO b:=by simp [oP]
theorem aGk:∀(a:List (Rs×Value)) (b c:Nat) (d:b<a.length),c<6->(oP a)[b*6+c]?=(oO a[b])[c]?
 |[],b,_,d,_=>by simp at d
 |x::a,0,c,_,hm=>by
  rw [show oP (x::a)=oO x++oP a from rfl,zr (by simp [oO];omega)];simp
 |x::a,b+1,c,d,hm=>by
  have:=aGk a b c (by simpa using d) hm;rw [show oP (x::a)=oO x++oP a from rfl,List.getElem?_append_right (by simp [oO];omega),show (b+1)*6+c-(oO x).length=b*6+c by simp [oO];omega,this];simp
def kV(B:Nat)(w:World)(v:Value)(c:List Lt):Prop:=∃a:List (Lt×Value),a.map Prod.fst=c/\w.ownsRow B 55 2 v a.length (bS a)/\∀b∈a,w.ownsRow B 106 2 b.2 b.1.2.length (aP b.1.2)
theorem kV.below{a:List Lt}(d:kV B w v a)(b:aC w w'):kV B w' v a:=by obtain ⟨c,f,g,i⟩:=d;exact ⟨c,f,bB g b (zu _),λk j=>bB (i k j) b (zu _)⟩
theorem kV.mono{a:Nat}{c:List Lt}(f:kV B w v c)(b:a<=B):kV a w v c:=by obtain ⟨d,g,i,j⟩:=f;exact ⟨d,g,eJ i b,λm k=>eJ (j m k) b⟩
theorem kV.shape{c:List Lt}(b:kV B w v c):∃a cap,v=.slice a c.length cap:=by obtain ⟨f,rfl,d,_⟩:=b;obtain ⟨a,cap,e⟩:=aW d;exact ⟨a,cap,by simpa using e⟩
theorem kV.lits{o:Nat}{c:World}{m d:Option Addr}{a:List Lt}(r:kV B c (.slice d a.length o) a)(g:bD w m a):bD c d a:=by
 obtain ⟨k,f,x,s⟩:=r;refine uO (P:=k) x f (λj i=>?_) g.few;have u:j.1∈a:=by rw [<-f];exact List.mem_map_of_mem i
 obtain ⟨z,t,e⟩:=List.getElem_of_mem u;obtain ⟨_,_,_,_,_,_,_,b⟩:=g.cell z t;rw [e] at b;obtain ⟨n,p,q,y⟩:=tA (s j i) b.few b.short;exact ⟨n,p,q,y⟩
structure rS(B:Nat)(w:World)(v:Value)(T:List (Rs×Value)):Prop where
 row:w.ownsRow B 45 6 v T.length (oP T)
 cl:∀q∈T,kV B w q.2 q.1.c
theorem rS.below{a:List (Rs×Value)}(b:rS B w v a)(c:aC w w'):rS B w' v a:=⟨bB b.row c (zu _),λf d=>(b.cl f d).below c⟩
theorem rS.more{m a:Value}{b:List (Rs×Value)}{s:Rs}(d:rS B w v b)(q:kV B w a s.c)(p:w'.ownsRow B 45 6 m (b.length+1) (oP b++oO (s,a)))(j:w.grownBy w' v.ownBlock):rS B w' m (b++[(s,a)]):=by
 have k:∀{a:Value} {f:List Lt},kV B w a f->kV B w' a f:=λ⟨n,o,g,i⟩=>⟨n,o,g.kept j (bW g d.row (by decide)),λc hq=>(i c hq).kept j (bW (i c hq) d.row (by decide))⟩
 refine ⟨?_,λc hq=>?_⟩
 ·rw [aOe,List.length_append];exact p
 ·rcases zw.1 hq with hq|hq
  ·exact k (d.cl c hq)
  ·simp at hq;subst hq;exact k q
theorem rS.sts{o i:Nat}{H:World}{m x:Option Addr}{a:List (Rs×Value)}{g:List Rs}(k:rS B w (.slice m o i) a)(C:a.map Prod.fst=g)(r:lH H x g):o=g.length/\g.length<=i/\lH w m g:=by
 subst C;have G:o=a.length/\a.length<=i:=by
  obtain ⟨_,⟨e,A⟩|⟨b,j,z,e,_,_,E,_⟩⟩:=k.row
  ·cases e;omega
  ·cases e;exact ⟨rfl,E⟩
 obtain ⟨rfl,D⟩:=G;refine ⟨by simp,by simpa using D,⟨r.few,λc s=>?_⟩⟩;have t:c<a.length:=by simpa using s
 obtain ⟨_,_,_,_,_,-,-,-,-,-,-,u⟩:=r.cell c s;obtain ⟨b,p,e⟩ : ∃b p,Value.slice m a.length i=.slice (some ⟨b,0,none⟩) a.length p:=by
  obtain ⟨_,⟨e,A⟩|⟨b,j,z,e,_⟩⟩:=k.row
  ·omega
  ·exact ⟨b,j,e⟩
 cases e;have I:=aOd a;have d:∀f,f<6->w.cell? ⟨b,c*6+f,none⟩=(oO a[c])[f]?:=λf F=>by
  rw [k.row.cellAt (c*6+f) (by omega),aGk a c f t F]
 have n:=k.cl a[c] (zm t);obtain ⟨y,j,q⟩:=n.shape;simp only [zl] at u ⊢;rw [q] at n;refine ⟨b,0,y,j,rfl,?_⟩;simp only [Nat.zero_add];refine ⟨d 0 (by omega),d 1 (by omega),d 2 (by omega),d 3 (by omega),d 4 (by omega),?_,n.lits u⟩;rw [d 5 (by omega),<-q];rfl
theorem aGl{wr b a:World}{k f g i j:Int}{m:Value}(z:aC wr b)(r:b.heap[wr.heap.size]?=some (.cells #[.int .i64 k,.int .i64 f,.int .i64 g,.int .i64 i,.int .i64 j,m] 45 (0,0)))(o:aC b a):a.cell? ⟨wr.heap.size,5,none⟩=some m/\a.frozen? ⟨wr.heap.size,5,none⟩=false/\(a.setCell ⟨wr.heap.size,5,none⟩ v).heap[wr.heap.size]?=some (.cells #[.int .i64 k,.int .i64 f,.int .i64 g,.int .i64 i,.int .i64 j,v] 45 (0,0))/\aC wr (a.setCell ⟨wr.heap.size,5,none⟩ v)/\∀{c:Value} {n:List Lt},kV b.heap.size a c n->kV wr.heap.size (a.setCell ⟨wr.heap.size,5,none⟩ v) c n:=by
 have p:wr.heap.size<b.heap.size:=(zy.1 r).1;have d:a.heap[wr.heap.size]?=some (.cells #[.int .i64 k,.int .i64 f,.int .i64 g,.int .i64 i,.int .i64 j,m] 45 (0,0)):=(o.block _ p).trans r;have A:=(zy.1 d).1;refine ⟨by simp [World.cell?,d],by simp [World.frozen?,d],?_,(aV z o).setCell (zu _) _,λ⟨y,E,F,G⟩=>?_⟩
 ·show (a.heap.modify wr.heap.size _)[wr.heap.size]?=_;rw [Array.getElem?_eq_getElem (by rw [Array.size_modify];exact A),Array.getElem_modify_self,(zy.1 d).2];rfl
 ·have s:∀{e:TypeId} {u t:Nat} {c:Value} {x:List Value},a.ownsRow b.heap.size e u c t x->(a.setCell ⟨wr.heap.size,5,none⟩ v).ownsRow wr.heap.size e u c t x:=λq=>by
   refine eJ (q.kept (bX a _ _) (Or.inr λe=>?_)) (Nat.le_of_lt p);have:=(bL q _ e).1;simp at this;omega
  exact ⟨y,E,s F,λD C=>s (G D C)⟩
theorem oQ(w:World)(f a b c d:Int)(v:Value):∃w1,w.alloc (.cells #[.int .i64 f,.int .i64 a,.int .i64 b,.int .i64 c,.int .i64 d,v] 45)=w1/\aC w w1/\w1.heap.size=w.heap.size+1/\w1.cell? ⟨w.heap.size,0,none⟩=some (.int .i64 f)/\w1.cell? ⟨w.heap.size,1,none⟩=some (.int .i64 a)/\w1.cell? ⟨w.heap.size,2,none⟩=some (.int .i64 b)/\w1.cell? ⟨w.heap.size,3,none⟩=some (.int .i64 c)/\w1.cell? ⟨w.heap.size,4,none⟩=some (.int .i64 d)/\w1.cell? ⟨w.heap.size,5,none⟩=some v:=by have g:=World.alloc_heap_new w (.cells #[.int .i64 f,.int .i64 a,.int .i64 b,.int .i64 c,.int .i64 d,v] 45);refine ⟨_,rfl,(Below.refl _ w).alloc (zu _) _,by simp,?_⟩;generalize w.alloc (.cells #[.int .i64 f,.int .i64 a,.int .i64 b,.int .i64 c,.int .i64 d,v] 45)=w1 at g;refine ⟨?_,?_,?_,?_,?_,?_⟩<;>simp [World.cell?,g]
theorem aOf(s x:Option Addr)(u t r o:Nat)(a c d g i:Int)(j:Option Addr)(m k:Nat)(w:World)(b:a≠1/\a≠2/\a≠3):Calls zz 38 #[.slice s u t,.slice x r o,.agg #[.int .i64 a,.int .i64 c,.int .i64 d,.int .i64 g,.int .i64 i,.slice j m k]] w λe w'=>e=.returned (.tuple #[.slice none 0 0,.bool false])/\aC w w':=by
 obtain ⟨w1,q,f,p,C,D,E,F,G,H⟩:=oQ w a c d g i (.slice j m k);have y:(a==1)=false:=kT b.1;have z:(a==2)=false:=kT b.2.1;have A:(a==3)=false:=kT b.2.2;have n:=aA f;clear b f p;go_enter zj,zk;go_upto_region 1 with (fail);clear q;go_wp2;go_returns;exact ⟨rfl,n.o⟩
theorem aOg(D F:Option Addr)(m E C y:Nat)(c g i k:Int)(s:Option Addr)(u t:Nat)(w:World)(p:¬((0<=c/\c<m)/\g=0/\i=0/\k=0)):Calls zz 38 #[.slice D m E,.slice F C y,.agg #[.int .i64 1,.int .i64 c,.int .i64 g,.int .i64 i,.int .i64 k,.slice s u t]] w λe w'=>e=.returned (.tuple #[.slice none 0 0,.bool false])/\aC w w':=by
 obtain ⟨w1,A,q,z,G,H,I,J,L,M⟩:=oQ w 1 c g i k (.slice s u t);have j:=aA q;have f:=aA (λb=>vX c (m:Int) b);have x:=aA p;clear p q z;go_enter zj,zk;go_upto_region 1 with (fail);clear A;by_cases d:0<=c/\c<m
 ·rw [eI d] at f;by_cases n:g=0
  ·subst n;by_cases o:i=0
   ·subst o;have r:(k != 0)=true:=bne_iff_ne.2 (λe=>x.o ⟨d,rfl,rfl,e⟩);clear d;go_wp2_with (first
     |(go_at_call 69;refine (aB f _).mono ?_;rintro e b ⟨rfl,a⟩;rw [a];clear a b)
     |go_in)
    go_returns;exact ⟨rfl,j.o⟩
   ·have r:(i != 0)=true:=bne_iff_ne.2 o;clear d o;go_wp2_with (first
     |(go_at_call 69;refine (aB f _).mono ?_;rintro e b ⟨rfl,a⟩;rw [a];clear a b)
     |go_in)
    go_returns;exact ⟨rfl,j.o⟩
  ·have r:(g != 0)=true:=bne_iff_ne.2 n;clear d n;go_wp2_with (first
    |(go_at_call 69;refine (aB f _).mono ?_;rintro e b ⟨rfl,a⟩;rw [a];clear a b)
    |go_in)
   go_returns;exact ⟨rfl,j.o⟩
 ·rw [dE d] at f;clear d;go_wp2_with (first
   |(go_at_call 69;refine (aB f _).mono ?_;rintro e b ⟨rfl,a⟩;rw [a];clear a b)
   |go_in)
  go_returns;exact ⟨rfl,j.o⟩
theorem aOh(C F:Option Addr)(E D j x:Nat)(a d p q:Int)(r:Option Addr)(t s:Nat)(w:World)(n:¬((0<=a/\a<j)/\(0<=d/\d<j))):Calls zz 38 #[.slice C E D,.slice F j x,.agg #[.int .i64 2,.int .i64 a,.int .i64 d,.int .i64 p,.int .i64 q,.slice r t s]] w λe w'=>e=.returned (.tuple #[.slice none 0 0,.bool false])/\aC w w':=by
 obtain ⟨w1,A,o,z,H,I,J,L,M,N⟩:=oQ w 2 a d p q (.slice r t s);have m:=aA o;have f:=aA (λG c=>vX G (j:Int) c);have u:=aA n;clear n o z;go_enter zj,zk;go_upto_region 1 with (fail);clear A;by_cases i:0<=a/\a<j
 ·have g:=aA (aB f a);rw [eI i] at g;have k:=aA (aB f d);rw [dE (λy=>u.o ⟨i,y⟩)] at k;clear i f;go_wp2_with (first
   |(go_at_call_of 69 (Value.int IntKind.i64 a);refine (aB g _).mono ?_;rintro e c ⟨rfl,b⟩;rw [b];clear b c)
   |(go_at_call_of 69 (Value.int IntKind.i64 d);refine (aB k _).mono ?_;rintro e c ⟨rfl,b⟩;rw [b];clear b c)
   |go_in)
  go_returns;exact ⟨rfl,m.o⟩
 ·have g:=aA (aB f a);rw [dE i] at g;clear i f;go_wp2_with (first
   |(go_at_call 69;refine (aB g _).mono ?_;rintro e c ⟨rfl,b⟩;rw [b];clear b c)
   |go_in)
  go_returns;exact ⟨rfl,m.o⟩
theorem aOi(y C:Option Addr)(A z i t:Nat)(a g n o:Int)(p:Option Addr)(r q:Nat)(w:World)(k:¬((0<=a/\a<i)/\g=0)):Calls zz 38 #[.slice y A z,.slice C i t,.agg #[.int .i64 3,.int .i64 a,.int .i64 g,.int .i64 n,.int .i64 o,.slice p r q]] w λe w'=>e=.returned (.tuple #[.slice none 0 0,.bool false])/\aC w w':=by
 obtain ⟨w1,x,m,u,E,F,G,H,I,J⟩:=oQ w 3 a g n o (.slice p r q);have j:=aA m;have f:=aA (λd=>vX a (i:Int) d);have s:=aA k;clear k m u;go_enter zj,zk;go_upto_region 1 with (fail);clear x;by_cases b:0<=a/\a<i
 ·rw [eI b] at f;have D:(g != 0)=true:=bne_iff_ne.2 (λe=>s.o ⟨b,e⟩);clear b;go_wp2_with (first
   |(go_at_call 69;refine (aB f _).mono ?_;rintro e d ⟨rfl,c⟩;rw [c];clear c d)
   |go_in)
  go_returns;exact ⟨rfl,j.o⟩
 ·rw [dE b] at f;clear b;go_wp2_with (first
   |(go_at_call 69;refine (aB f _).mono ?_;rintro e d ⟨rfl,c⟩;rw [c];clear c d)
   |go_in)
  go_returns;exact ⟨rfl,j.o⟩
end
