import Derived.Test.YtmelidkanelpbaaGreatDoorGClsH
import Derived.Test.YtmelidkanelpbaaGreatDoorXSr7H
open Bool renaming and_eq_true→zy,false_eq_true→zt
open List renaming all_eq_true→zz,getElem_mem→zx,getElem?_eq_getElem→zw,any_eq_true→zv,filterMap_cons→zu,map_map→zs,flatMap_cons→zr,map_id→zq
namespace Go.Proofs.YtmelidkanelpbaaGreatDoor
set_option maxRecDepth 100000
open Go.RowKit Go.Shelf Go.WideMaps
variable{cs:List (List Lt)}{T:List (aK×Value)}{L:List Cd}{c d:List Lt}{ks:List Nat}{n:Nat}
theorem bCx(j:Nat)(e f:Option Addr)(g i:Nat)(c d:List Lt)(b:World)(s:bR j b (.slice e c.length g) c)(t:bR j b (.slice f d.length i) d)(k:aS c=true)(l:aS d=true):Calls Tryz.prog 51 #[.slice e c.length g,.slice f d.length i] b λa m=>a=.returned (.bool (bC c d))/\aB b m:=by
 obtain ⟨x,z,a,v,q,o⟩:=s.lits (kV k);cases a;obtain ⟨y,A,a,B,r,p⟩:=t.lits (kV l);cases a;refine (bE4 e f g i c d b q r o p v k l).mono ?_;rintro a m ⟨C,rfl,w,u⟩;exact ⟨by rw [aOu w],u⟩
theorem zJ(k:aS c=true)(l:aS d=true):kH c d:=λa b e f g m i j=>bCx a b e f g c d m i j k l
theorem bI.push{x:aK×Int}{g:List (aK×Int)}{L':List Cd}{f:Nat}{b e:Bool}(a:bI (x::g) L n b L' f e)(k:x.2=0)(l:bL x.1.c=true)(m:dP x.1.c=false):∃i j,bI g (iH L.length (L++[eD x.1 i j n]) L.length) (n+1) b L' f e:=by unfold bI at a;rw [aI (by simp [k,l]),aI (by simp [m])] at a;exact a
theorem bCy:rI pN:=⟨by kernel_rfl,by kernel_rfl⟩
def nD(c:List Lt):Bool:=c.all λa=>match a.2 with|[n]=>!aL n && aY n==0|_=>false
theorem zK(e:nD c=true){a:Lt}(f:a∈c):∃n,a.2=[n]/\rI n:=by
 have:=zz.1 e a f;split at this
 ·rename_i n b;simp at this;exact ⟨n,b,this.1,this.2⟩
 ·cases this
def zL(c d:List Lt):Bool:=decide (c.length<=d.length) && c.all λa=>d.any λb=>decide (b=a)
theorem aNr{a:Lt}:(d.any λb=>decide (b=a))=true↔a∈d:=by
 rw [zv];constructor
 ·rintro ⟨b,g,e⟩;have:=of_decide_eq_true e;subst this;exact g
 ·intro f;exact ⟨a,f,fC rfl⟩
theorem aFx(i:nD c=true):bC c d=zL c d:=by
 refine (aOu ?_).symm;unfold zL;rw [zy,decide_eq_true_eq,zz];refine and_congr Iff.rfl ⟨λf=>?_,λ⟨k,_,_,f⟩ e b=>?_⟩
 ·refine ⟨λ_=>[(⟨#[]⟩,0)],λ_=>by kernel_rfl,λm l j=>by simp [look] at j,λe b=>?_⟩;obtain ⟨n,a,g⟩:=zK i b;have:=aNr.1 (f e b);rw [a,nR];simp only [g.1,zt,if_false];rw [show ([n]++subst _ []:List Nd)=e.2 by rw [a];rfl];exact this
 ·obtain ⟨n,a,g⟩:=zK i b;have:=f e b;rw [a,nR] at this;simp only [g.1,zt,if_false] at this;rw [show ([n]++subst k []:List Nd)=e.2 by rw [a];rfl] at this;exact aNr.2 this
theorem aNs{a:Nat×Nat}(b:a∈fH c d):a.1<c.length/\a.2<d.length/\iW c a.1=iW d a.2:=by obtain ⟨q,r⟩:=a;obtain ⟨k,m,j⟩:=List.getElem_of_mem b;have e:=aFs (k:=k) (by rw [zw m,j]);unfold fH lJ at b;obtain ⟨o,_,f⟩:=List.mem_flatMap.1 b;unfold kW at f;obtain ⟨p,l,g⟩:=List.mem_map.1 f;have i:=(List.mem_filter.1 l).2;simp at g i;obtain ⟨rfl,rfl⟩:=g;exact ⟨e.1,e.2,i⟩
theorem aNt(k:nD c=true)(l:nD d=true){b e:Nat}(i:b<c.length)(j:e<d.length)(a:iW c b=iW d e):∃n,c[b].2=[n]/\d[e].2=[n]/\rI n:=by obtain ⟨n,f,m⟩:=zK k (zx i);obtain ⟨o,g,_⟩:=zK l (zx j);unfold iW at a;rw [zw i,zw j] at a;simp [f,g] at a;subst a;exact ⟨n,f,g,m⟩
theorem aFy(f:nD c=true)(k:Int)(j:Nat):∀e∈(c.eraseIdx j).map (λa=>(k,a)),∃b,e.2.2=[b]/\rI b:=by intro e i;obtain ⟨a,g,rfl⟩:=List.mem_map.1 i;exact zK f (List.mem_of_mem_eraseIdx g)
def aFz(c:List Lt)(b:Nat)(d:List Lt)(e:Nat)(a:Nat×Nat):Option (aK×Int):=if gJ c a.1≠gJ d a.2 then some (⟨2,b,e,a.1,a.2,aV (c.eraseIdx a.1++d.eraseIdx a.2)⟩,0) else none
def aG0(c:List Lt)(b:Nat)(a:Nat×Nat):Option (aK×Int):=if a.1<a.2/\gJ c a.1=gJ c a.2 then some (⟨3,b,0,a.1,a.2,aV (c.eraseIdx a.2)⟩,0) else none
def aNu(c d:List Lt):Bool:=(fH c d).all λa=>decide (aR (aV (c.eraseIdx a.1++d.eraseIdx a.2))<=500)
def aNv(c:List Lt):Bool:=(fH c c).all λa=>decide (aR (aV (c.eraseIdx a.2))<=500)
theorem aG1{f j:Type}{b e:f->Option j}:∀(a:List f),(∀x∈a,b x=e x)->a.filterMap b=a.filterMap e
 |[],_=>rfl
 |x::a,h=>by rw [zu,zu,h x (by simp),aG1 a λi g=>h i (by simp [g])]
theorem bCz(e f:Nat)(g:nD c=true)(i:nD d=true)(w:aNu c d=true):gA c e d f=(fH c d).filterMap (aFz c e d f):=by
 unfold gA;refine aG1 _ λa m=>?_
 obtain ⟨j,k,u⟩:=aNs m;obtain ⟨n,p,q,v⟩:=aNt g i j k u;have t:=of_decide_eq_true (zz.1 w a m);have hr:aZ 0 [(c,a.1),(d,a.2)]=(c.eraseIdx a.1).map (λb=>((0:Int),b))++(d.eraseIdx a.2).map (λb=>((1:Int),b)):=by simp [aZ]
 have l:(aZ 0 [(c,a.1),(d,a.2)]).map Prod.snd=c.eraseIdx a.1++d.eraseIdx a.2:=by
  rw [hr,List.map_append,zs,zs];congr 1
  ·exact zq _
  ·exact zq _
 have r:dU (aN 0 c[a.1].2++aN 1 d[a.2].2) 0 c[a.1].2.length (aZ 0 [(c,a.1),(d,a.2)]) (aV (c.eraseIdx a.1++d.eraseIdx a.2)) true 0:=by
  have:=aA1 v 0 1 (aZ 0 [(c,a.1),(d,a.2)]) (by
   rw [hr];intro o hr;rcases List.mem_append.1 hr with hr|hr
   ·exact aFy g 0 _ o hr
   ·exact aFy i 1 _ o hr) (by rw [l];exact t)
  rw [l] at this;rw [p,q];exact this
 have s:=aNh j k r;unfold mF aFz;rw [s];simp
theorem bD0(e:Nat)(b:nD c=true)(t:aNv c=true):lM c e=(fH c c).filterMap (aG0 c e):=by
 unfold lM;refine aG1 _ λa j=>?_
 obtain ⟨f,g,r⟩:=aNs j;obtain ⟨n,l,m,s⟩:=aNt b b f g r;have q:=of_decide_eq_true (zz.1 t a j);have k:aZ 0 [(c,a.2)]=(c.eraseIdx a.2).map (λu=>((0:Int),u)):=by simp [aZ]
 have i:(aZ 0 [(c,a.2)]).map Prod.snd=c.eraseIdx a.2:=by rw [k,zs];exact zq _
 have o:dU (aN 0 c[a.1].2++aN 0 c[a.2].2) 0 c[a.1].2.length (aZ 0 [(c,a.2)]) (aV (c.eraseIdx a.2)) true 0:=by have:=aA1 s 0 0 (aZ 0 [(c,a.2)]) (by rw [k];exact aFy b 0 _) (by rw [i];exact q);rw [i] at this;rw [l,m];exact this
 have p:=aNg f g o;unfold lL aG0;rw [p];simp
def aG2(cs:List (List Lt))(a:Nat)(e:List Nat):List (aK×Int):=(fH (cs.getD a []) (cs.getD a [])).filterMap (aG0 (cs.getD a []) a)++e.flatMap λb=>(fH (cs.getD a []) (cs.getD b [])).filterMap (aFz (cs.getD a []) a (cs.getD b []) b)
def okF(cs:List (List Lt))(a:Nat)(e:List Nat):Bool:=nD (cs.getD a []) && aNv (cs.getD a []) && e.all λb=>nD (cs.getD b []) && aNu (cs.getD a []) (cs.getD b [])
theorem aNw{f j:Type}{b e:f->List j}:∀(a:List f),(∀x∈a,b x=e x)->a.flatMap b=a.flatMap e
 |[],_=>rfl
 |x::a,h=>by rw [zr,zr,h x (by simp),aNw a λi g=>h i (by simp [g])]
theorem bD1{a:Nat}{g:List Nat}(j:∀k,aE T k=cs.getD k [])(e:okF cs a g=true):dV T a g=aG2 cs a g:=by
 unfold okF at e;rw [zy,zy,zz] at e;obtain ⟨⟨i,l⟩,m⟩:=e;unfold dV aG2;rw [j a,bD0 a i l];congr 1
 refine aNw _ λb o=>?_
 have f:=m b o;rw [zy] at f;rw [j b,bCz a b i f.1 f.2]
def aG4(cs:List (List Lt))(ks:List Nat)(c:List Lt):List Nat:=(ks.filter λa=>!zL c (cs.getD a []))++[cs.length]
theorem bD2(e:∀a,aE T a=cs.getD a [])(f:T.length=cs.length)(b:nD c=true):bY T ks c=aG4 cs ks c:=by
 unfold bY aG4;rw [f];congr 2
 funext a
 rw [e,aFx b]
theorem aNx(g:∀a,aE T a=cs.getD a [])(e:ks.all (λa=>nD (cs.getD a []))=true):(λc=>ks.any λa=>bC (aE T a) c)=λc=>ks.any λa=>zL (cs.getD a []) c:=by
 funext c
 rw [Bool.eq_iff_iff,zv,zv];constructor
 ·rintro ⟨a,b,f⟩;refine ⟨a,b,?_⟩;rwa [g,aFx (zz.1 e a b)] at f
 ·rintro ⟨a,b,f⟩;refine ⟨a,b,?_⟩;rwa [g,aFx (zz.1 e a b)]
theorem zM(T:List (aK×Value))(a:Nat):aE T a=(T.map λb=>b.1.c).getD a []:=by unfold aE;rw [List.getD_eq_getElem?_getD,List.getElem?_map]
theorem cM.takeF{k:Nat}{m:Nat->List (aK×Value)->List Nat->Bool->Prop}{L':List Cd}{ks':List Nat}{o:Bool}{x:Cd}{F:List (aK×Int)}(cs:List (List Lt))(a:aK)(I:tU x a.r a.a a.b a.i a.j/\x.c=a.c)(i:(T.map λP=>P.1.c)=cs)(A:(∀x∈L,aS x.c=true))(D:ks.all (λb=>aS (cs.getD b []) && nD (cs.getD b []))=true)(J:aS a.c=true)(M:nD a.c=true)
  (t:eH (λc=>ks.any λb=>zL (cs.getD b []) c) L.length L=some (x,L')) (z:a.c≠[]) (E:T.length≠k) (e:aG4 cs ks a.c=ks') (H:okF (cs++[a.c]) cs.length ks'=true) (u:aG2 (cs++[a.c]) cs.length ks'=F)
  (v:F.all (λf=>decide (f.2=0) && aS f.1.c)=true) (y:∀f∈F,jH f.1.c) (w:L'.length+F.length<=1000000) (G:n+F.length<=1000000)
  (O:∀l s p,bI F L' n o l s p->cM k m l s (T++[(a,.slice x.ad x.ln x.cp)]) ks' p):cM k m L n T ks o:=by
 have g:∀b,aE T b=cs.getD b []:=λb=>by rw [zM,i]
 have q:T.length=cs.length:=by rw [<-i];simp
 have j:=zz.1 D;have C:bY T ks a.c=ks':=by rw [bD2 g q M,e]
 have B:dV (T++[(a,.slice x.ad x.ln x.cp)]) T.length ks'=F:=by rw [q,bD1 (cs:=cs++[a.c]) (λb=>by rw [zM,List.map_append,i];rfl) H,u]
 refine cM.take a I (λx N b e=>?_) (by rw [aNx g (zz.2 λb e=>(zy _ _▸j b e).2)];exact t) z E (λb e=>?_) ?_ ?_ ?_ ?_
 ·rw [g];exact zJ (zy _ _▸j b e).1 (A x N)
 ·rw [g];exact zJ J (zy _ _▸j b e).1
 all_goals rw [C,B]
 ·intro f r;have:=zz.1 v f r;rw [zy] at this;exact ⟨y f r,λ_ _=>this.2⟩
 ·exact w
 ·exact G
 ·exact O
theorem aNy{f:List Pl}(g:∀j∈f,j.2.1=true/\j.2.2.1=0):∀e a,¬oT f e a:=by
 intro e a;unfold oT aB4;have b:=g f[e] (zx a);rintro (h2|⟨k,hk,_,h3⟩)
 ·rw [b.2] at h2;omega
 ·have i:=g _ (zx (Nat.lt_trans hk a));rcases h3 with h3|h3
  ·exact h3 (i.1.trans b.1.symm)
  ·exact h3 (i.2.trans b.2.symm)
theorem aNz{cs:List (Nat×List Lt)}(g:cs.length<=40)(e:cs.all (λf=>bL (aV f.2))=true):∀b a,¬qM cs b a:=by
 intro b a;unfold qM;rintro (h1|h1)
 ·omega
 ·have:=zz.1 e _ (zx a);rw [h1] at this;cases this
def qN:Nd:=(⟨#[113]⟩,0)
def cQ:List Lt:=[(false,[qN])]
def pD:List Lt:=[(true,[qN])]
def kX:List Lt:=[(true,[pN]),(false,[qN])]
abbrev aBy:ByteArray:=⟨#[112,46,32,126,112,32,124,32,113,46,32,126,113,46]⟩
abbrev aG5:ByteArray:=⟨#[112,46,32,126,112,32,124,32,113,46]⟩
theorem bD3:uX aBy=.ok (⟨10,[],[(⟨#[112]⟩,true,0,0),(⟨#[112]⟩,true,0,4),(⟨#[113]⟩,true,0,8),(⟨#[113]⟩,true,0,12)]⟩,[(0,[(false,[pN])]),(3,[(true,[pN]),(false,[qN])]),(11,[(true,[qN])])]):=by kernel_rfl
theorem bD4:uX aG5=.ok (⟨7,[],[(⟨#[112]⟩,true,0,0),(⟨#[112]⟩,true,0,4),(⟨#[113]⟩,true,0,8)]⟩,[(0,[(false,[pN])]),(3,[(true,[pN]),(false,[qN])])]):=by kernel_rfl
theorem aBz{e:List (List Lt)}{a b:Int}(f:oL aBy e a b):e=[cP,kX,pD]/\a=0/\b=0:=by have:=aIb f (by decide) bD3 (aNy (by simp)) (aNz (by decide) (by kernel_rfl));rw [show [cP,kX,pD]=[(0,[(false,[pN])]),(3,[(true,[pN]),(false,[qN])]),(11,[(true,[qN])])].map (λp:Nat×List Lt=>aV p.2) by kernel_rfl];exact this
theorem aO0{e:List (List Lt)}{a b:Int}(f:oL aG5 e a b):e=[cP,kX]/\a=0/\b=0:=by have:=aIb f (by decide) bD4 (aNy (by simp)) (aNz (by decide) (by kernel_rfl));rw [show [cP,kX]=[(0,[(false,[pN])]),(3,[(true,[pN]),(false,[qN])])].map (λp:Nat×List Lt=>aV p.2) by kernel_rfl];exact this
def lN:aK:=⟨1,0,0,0,0,cP⟩
def jT:aK:=⟨1,1,0,0,0,kX⟩
def pE:aK:=⟨1,2,0,0,0,pD⟩
def qG:aK:=⟨2,2,0,0,0,cQ⟩
def zN:aK:=⟨2,2,1,1,0,cNp⟩
def qH:aK:=⟨2,3,1,0,0,[]⟩
def zO:aK:=⟨2,1,0,0,0,cQ⟩
theorem bD5(e:aS c=true):jH c:=by have n:=kV e;refine ⟨by have:=n.len;omega,λb a=>⟨by have:=(n.term b a).2;omega,λg f=>?_⟩⟩;have:=aFh (aFi _ _ (n.term b a).1 _ (zx f));omega
theorem aG6{F:List (aK×Int)}(b:F.all (λa=>decide (a.2=0) && aS a.1.c)=true):∀a∈F,jH a.1.c:=λa e=>by
 have:=zz.1 b a e;rw [zy] at this;exact bD5 this.2
def zP(b:Nat)(T:List (aK×Value))(_:List Nat)(a:Bool):Prop:=b=1/\T.map Prod.fst=[lN,pE,jT,qG,qH]/\a=false
def aC0(b:Nat)(_:List (aK×Value))(_:List Nat)(a:Bool):Prop:=b=2/\a=false
theorem bD6(a:bI (gL [cP,kX,pD]) [] 0 false L n false):cM 100 zP L n [] [] false:=by
 have y:gL [cP,kX,pD]=[(lN,0),(jT,0),(pE,0)]:=rfl;rw [y] at a;obtain ⟨q,t,a⟩:=a.push rfl (by kernel_rfl) (by kernel_rfl);obtain ⟨e,g,a⟩:=a.push rfl (by kernel_rfl) (by kernel_rfl);obtain ⟨l,o,a⟩:=a.push rfl (by kernel_rfl) (by kernel_rfl);obtain ⟨rfl,rfl,_⟩:=a;refine (show ∀L n,L=[eD lN q t 0,eD jT e g 1,eD pE l o 2]->n=3->cM 100 zP L n [] [] false from ?_) _ _ (by kernel_rfl) rfl;rintro L n rfl rfl;refine cM.takeF [] lN (x:=eD lN q t 0) (L':=[eD pE l o 2,eD jT e g 1]) (ks':=[0]) (F:=[]) ⟨⟨rfl,rfl,rfl,rfl,rfl⟩,rfl⟩ rfl ?_ rfl (by kernel_rfl) (by kernel_rfl) (by kernel_rfl) (by simp [lN,cP]) (by decide) (by kernel_rfl) (by kernel_rfl) (by kernel_rfl) rfl (by simp) (by simp) (by simp) ?_
 ·intro x b;simp at b;rcases b with rfl|rfl|rfl<;>kernel_rfl
 rintro j p m ⟨rfl,rfl,rfl⟩;refine cM.takeF [cP] pE (x:=eD pE l o 2) (L':=[eD jT e g 1]) (ks':=[0,1]) (F:=[]) ⟨⟨rfl,rfl,rfl,rfl,rfl⟩,rfl⟩ rfl ?_ (by kernel_rfl) (by kernel_rfl) (by kernel_rfl) (by kernel_rfl) (by simp [pE,pD]) (by simp) (by kernel_rfl) (by kernel_rfl) (by kernel_rfl) rfl (by simp) (by simp) (by simp) ?_
 ·intro x b;simp at b;rcases b with rfl|rfl<;>kernel_rfl
 rintro j p m ⟨rfl,rfl,rfl⟩;refine cM.takeF [cP,pD] jT (x:=eD jT e g 1) (L':=[]) (ks':=[0,1,2]) (F:=[(qG,0),(zN,0)]) ⟨⟨rfl,rfl,rfl,rfl,rfl⟩,rfl⟩ rfl ?_ (by kernel_rfl) (by kernel_rfl) (by kernel_rfl) (by kernel_rfl) (by simp [jT,kX]) (by simp) (by kernel_rfl) (by kernel_rfl) (by kernel_rfl) (by kernel_rfl) (aG6 (by kernel_rfl)) (by simp) (by simp) ?_
 ·intro x b;simp at b;subst b;kernel_rfl
 intro j p m a;obtain ⟨r,u,a⟩:=a.push rfl (by kernel_rfl) (by kernel_rfl);obtain ⟨f,i,a⟩:=a.push rfl (by kernel_rfl) (by kernel_rfl);obtain ⟨rfl,rfl,rfl⟩:=a;refine (show ∀L n,L=[eD qG r u 3,eD zN f i 4]->n=5->cM 100 zP L n _ _ _ from ?_) _ _ (by kernel_rfl) rfl;rintro L n rfl rfl;refine cM.takeF [cP,pD,kX] qG (x:=eD qG r u 3) (L':=[eD zN f i 4]) (ks':=[0,1,3]) (F:=[(qH,0)]) ⟨⟨rfl,rfl,rfl,rfl,rfl⟩,rfl⟩ rfl ?_ (by kernel_rfl) (by kernel_rfl) (by kernel_rfl) (by kernel_rfl) (by simp [qG,cQ]) (by simp) (by kernel_rfl) (by kernel_rfl) (by kernel_rfl) (by kernel_rfl) (aG6 (by kernel_rfl)) (by simp) (by simp) ?_
 ·intro x b;simp at b;rcases b with rfl|rfl<;>kernel_rfl
 intro j p m a;obtain ⟨s,v,a⟩:=a.push rfl (by kernel_rfl) (by kernel_rfl);obtain ⟨rfl,rfl,rfl⟩:=a;refine (show ∀L n,L=[eD qH s v 5,eD zN f i 4]->n=6->cM 100 zP L n _ _ _ from ?_) _ _ (by kernel_rfl) rfl;rintro L n rfl rfl;refine cM.unsat qH (x:=eD qH s v 5) (L':=[eD zN f i 4]) ⟨⟨rfl,rfl,rfl,rfl,rfl⟩,rfl⟩ (λx b k w=>?_) ?_ rfl ⟨rfl,rfl,rfl⟩
 ·rw [zM];simp at b w;rcases b with rfl|rfl<;>rcases w with rfl|rfl|rfl<;>exact zJ (by kernel_rfl) (by kernel_rfl)
 ·rw [aNx (cs:=[cP,pD,kX,cQ]) (λk=>by rw [zM];rfl) (by kernel_rfl)];kernel_rfl
theorem bD7(a:bI (gL [cP,kX]) [] 0 false L n false):cM 100 aC0 L n [] [] false:=by
 have p:gL [cP,kX]=[(lN,0),(jT,0)]:=rfl;rw [p] at a;obtain ⟨i,l,a⟩:=a.push rfl (by kernel_rfl) (by kernel_rfl);obtain ⟨e,f,a⟩:=a.push rfl (by kernel_rfl) (by kernel_rfl);obtain ⟨rfl,rfl,_⟩:=a;refine (show ∀L n,L=[eD lN i l 0,eD jT e f 1]->n=2->cM 100 aC0 L n [] [] false from ?_) _ _ (by kernel_rfl) rfl;rintro L n rfl rfl;refine cM.takeF [] lN (x:=eD lN i l 0) (L':=[eD jT e f 1]) (ks':=[0]) (F:=[]) ⟨⟨rfl,rfl,rfl,rfl,rfl⟩,rfl⟩ rfl ?_ rfl (by kernel_rfl) (by kernel_rfl) (by kernel_rfl) (by simp [lN,cP]) (by decide) (by kernel_rfl) (by kernel_rfl) (by kernel_rfl) rfl (by simp) (by simp) (by simp) ?_
 ·intro x b;simp at b;rcases b with rfl|rfl<;>kernel_rfl
 rintro g o k ⟨rfl,rfl,rfl⟩;refine cM.takeF [cP] jT (x:=eD jT e f 1) (L':=[]) (ks':=[0,1]) (F:=[(zO,0)]) ⟨⟨rfl,rfl,rfl,rfl,rfl⟩,rfl⟩ rfl ?_ (by kernel_rfl) (by kernel_rfl) (by kernel_rfl) (by kernel_rfl) (by simp [jT,kX]) (by simp) (by kernel_rfl) (by kernel_rfl) (by kernel_rfl) (by kernel_rfl) (aG6 (by kernel_rfl)) (by simp) (by simp) ?_
 ·intro x b;simp at b;subst b;kernel_rfl
 intro g o k a;obtain ⟨j,m,a⟩:=a.push rfl (by kernel_rfl) (by kernel_rfl);obtain ⟨rfl,rfl,rfl⟩:=a;refine (show ∀L n,L=[eD zO j m 2]->n=3->cM 100 aC0 L n _ _ _ from ?_) _ _ (by kernel_rfl) rfl;rintro L n rfl rfl;refine cM.takeF [cP,kX] zO (x:=eD zO j m 2) (L':=[]) (ks':=[0,2]) (F:=[]) ⟨⟨rfl,rfl,rfl,rfl,rfl⟩,rfl⟩ rfl ?_ (by kernel_rfl) (by kernel_rfl) (by kernel_rfl) (by kernel_rfl) (by simp [zO,cQ]) (by simp) (by kernel_rfl) (by kernel_rfl) (by kernel_rfl) rfl (by simp) (by simp) (by simp) ?_
 ·intro x b;simp at b;subst b;kernel_rfl
 rintro g o k ⟨rfl,rfl,rfl⟩;exact cM.sat (λx b=>by simp at b) rfl ⟨rfl,rfl⟩
