import Derived.Test.YtenobhkjiebhaaaGreatDoorGSpecS18
import Derived.Test.YtenobhkjiebhaaaGreatDoorRNamedS18
import Derived.Laws.Rows
import Derived.OneCell
import Derived.Handy
import Derived.RegionTactic
import Derived.ChangeAlike
import Derived.Test.YtenobhkjiebhaaaGreatDoorLMemS18
import Derived.StringKeys
open Bool renaming false->zv,true->zl
open List renaming length->Z,length_append->zm,length_singleton->zk,cons_append->zc
open Nat renaming le_refl->zo,add_comm->zn
open Option renaming some->V
open Or renaming inr->zg
namespace Go.Proofs.YtenobhkjiebhaaaGreatDoor
open Go renaming Value->Y,World->zt
open _root_.Go.Proofs.Tryz renaming prog->zj,underlying72->zh,underlying9->ze
open Value renaming ownBlock->zq
open World renaming cell?->U,setCell->zu,ownsRow->zs,grownBy->zr,frozen?->zi
open Go.RowKit Go.WideMaps Go.Shelf
set_option maxHeartbeats 2000000
set_option maxRecDepth 100000
variable{B j tp:Nat}{w:zt}{v:Y}
def tW:Tk:=⟨63,⟨#[]⟩,0⟩
def fY(a:List Tk×Option Nat):List Tk:=a.1++(match a.2 with|some p=>[⟨63,⟨#[]⟩,p⟩]|none=>[])
def aH(a:List Tk)(b:Nat):Tk:=a.getD b tW
def aBk:List ByteArray->ByteArray->Int
 |[],_=>-1
 |y::r,x=>if y=x then (Z r:Int) else aBk r x
def lC(a:List ByteArray)(b:ByteArray):Int:=aBk a.reverse b
theorem bD3(a:ByteArray):lC [] a=-1:=rfl
theorem aEf(a:List ByteArray)(c b:ByteArray):lC (a++[c]) b=if c=b then (Z a:Int) else lC a b:=by simp[lC,aBk]
theorem bD4(a:List ByteArray)(c:ByteArray):-1<=lC a c/\lC a c<Z a:=by
 unfold lC;have b:Z a=Z a.reverse:=by simp
 rw[b];generalize a.reverse=m;clear b;induction m with
 |nil=>simp[aBk]
 |cons y r ih=>
  grind[aBk]
structure bC where
 i:Nat
 vars:List ByteArray
 pz:List Pl
def mX(a:List ByteArray)(b:ByteArray):List ByteArray:=if lC a b<0 then a++[b] else a
def lU(a:List ByteArray)(b:ByteArray):Int:=if lC a b<0 then Z a else lC a b
def jN(c:List Pl)(b:Nat)(d:Nat):List Pl:=c.modify b λa=>(a.1,a.2.1,(d:Int),a.2.2.2)
def eH(b:List Nd)(a:Nat)(c:Nat):List Nd:=b.modify a λd=>(d.1,(c:Int))
mutual
def dB(a:List Tk):Nat->Bool->bC->List Nd->Except Nat (bC×List Nd)
 |0,_,_,_=>.error 0
 |f+1,atom,st,l=>
  if (aH a st.i).kind=118/\atom=zv then .ok (⟨st.i+1,mX st.vars (aH a st.i).txt,st.pz⟩,l++[(⟨#[]⟩,lU st.vars (aH a st.i).txt)])
  else if (aH a st.i).kind≠110 then .error (aH a st.i).pos
  else if (aH a (st.i+1)).kind=40 then
   match eI a f ⟨st.i+1,st.vars,st.pz++[((aH a st.i).txt,atom,0,((aH a st.i).pos:Int))]⟩ (l++[((aH a st.i).txt,0)]) 0 with
   | .error p=>.error p
   | .ok (st',l',n)=>.ok (⟨st'.i,st'.vars,jN st'.pz (Z st.pz) n⟩,eH l' (Z l) n)
  else .ok (⟨st.i+1,st.vars,st.pz++[((aH a st.i).txt,atom,0,((aH a st.i).pos:Int))]⟩,l++[((aH a st.i).txt,0)])
def eI(a:List Tk):Nat->bC->List Nd->Nat->Except Nat (bC×List Nd×Nat)
 |0,_,_,_=>.error 0
 |f+1,st,l,n=>
  match dB a f false ⟨st.i+1,st.vars,st.pz⟩ l with
  | .error p=>.error p
  | .ok (st',l')=>
   if (aH a st'.i).kind=44 then eI a f st' l' (n+1)
   else if (aH a st'.i).kind=41 then .ok (⟨st'.i+1,st'.vars,st'.pz⟩,l',n+1)
   else .error (aH a st'.i).pos
end
def fR(b:List Tk):Nat->bC->List Lt->Except Nat (bC×List Lt)
 |0,_,_=>.error 0
 |f+1,st,c=>
  match dB b (Z b+1) true ⟨if (aH b st.i).kind=126 then st.i+1 else st.i,st.vars,st.pz⟩ []with
  | .error p=>.error p
  | .ok (st',a)=>
   if (aH b st'.i).kind=124 then fR b f ⟨st'.i+1,st'.vars,st'.pz⟩ (c++[(decide ((aH b st.i).kind=126),a)])
   else .ok (st',c++[(decide ((aH b st.i).kind=126),a)])
def lD(b:List Tk)(a:bC):Except Nat (bC×List Lt):=
 if (aH b a.i).kind=102 then .ok (⟨a.i+1,[],a.pz⟩,[]) else fR b (Z b+1) ⟨a.i,[],a.pz⟩ []
def jO(a:List Tk)(b:bC):Except Nat (bC×List Lt):=
 match lD a b with
 | .error p=>.error p
 | .ok (st',c)=>if (aH a st'.i).kind=46 then .ok (⟨st'.i+1,st'.vars,st'.pz⟩,c) else .error (aH a st'.i).pos
def gX(a:List Tk):Nat->bC->List (Nat×List Lt)->Except Nat (bC×List (Nat×List Lt))
 |0,_,_=>.error 0
 |f+1,st,cs=>
  if (aH a st.i).kind=101 then .ok (st,cs)
  else match jO a st with
   | .error p=>.error p
   | .ok (st',c)=>gX a f st' (cs++[((aH a st.i).pos,c)])
def sV(a:ByteArray):Except Nat (bC×List (Nat×List Lt)):=gX (fY (cW a (a.size+1) 0)) (Z (fY (cW a (a.size+1) 0))+1) ⟨0,[],[]⟩ []
theorem xB(m:List Tk):∀f,(∀j b d c e,dB m f j b d=.ok (c,e)->b.i<c.i/\Z d<Z e/\Z e<=Z d+(c.i-b.i)/\Z b.pz<=Z c.pz/\Z c.pz<=Z b.pz+(c.i-b.i)/\Z b.vars<=Z c.vars/\Z c.vars<=Z b.vars+(c.i-b.i))/\
  (∀b d g c e i,eI m f b d g=.ok (c,e,i)->b.i+1<c.i/\Z d<=Z e/\Z e+1<=Z d+(c.i-b.i)/\Z b.pz<=Z c.pz/\Z c.pz+1<=Z b.pz+(c.i-b.i)/\Z b.vars<=Z c.vars/\Z c.vars+1<=Z b.vars+(c.i-b.i)/\g<i/\i<=g+(c.i-b.i)):=by
 intro f;induction f with
 |zero=>exact⟨λj b d c e a=>by simp[dB]at a,λb d g c e i a=>by simp[eI]at a⟩
 |succ f ih=>
  obtain⟨p,n⟩:=ih;constructor
  .intro j b d c e a;rw[dB]at a;split at a
   .simp only[Except.ok.injEq,Prod.mk.injEq]at a;obtain⟨rfl,rfl⟩:=a;simp only[zm,zk,mX];split<;>simp<;>omega
   split at a
   .simp at a
   split at a
   .split at a
    .simp at a
    rename_i o q r k;have l:=n _ _ _ _ _ _ k;simp only[Except.ok.injEq,Prod.mk.injEq]at a;obtain⟨rfl,rfl⟩:=a;simp only[zm,zk,jN,eH,List.length_modify]at l ⊢;omega
   simp only[Except.ok.injEq,Prod.mk.injEq]at a;obtain⟨rfl,rfl⟩:=a;simp only[zm,zk];omega
  intro b d g c e i a;rw[eI]at a;split at a
  .simp at a
  rename_i o q k;have l:=p _ _ _ _ _ k;simp only at l;split at a
  .have s:=n _ _ _ _ _ _ a;omega
  split at a
  .simp only[Except.ok.injEq,Prod.mk.injEq]at a;obtain⟨rfl,rfl,rfl⟩:=a;simp only;omega
  simp at a
def bX(w:zt)(c:Nat)(f:Y)(b:Nat)(a:Int)(g e d i:Y):Prop:=w.heap[c]?=V (.cells #[f,iQ b,iQ a,g,e,d,i] 91)
section
variable {w:zt}{pa i:Nat}{bad:Int}{vL vP vC vB vV:Y}
theorem bX.c0(a:bX w pa vL i bad vP vC vB vV):U w (aQ pa 0)=V vL:=by unfold bX at a;simp[U,a]
theorem bX.c1(a:bX w pa vL i bad vP vC vB vV):U w (aQ pa 1)=V (iQ i):=by unfold bX at a;simp[U,a]
theorem bX.c2(a:bX w pa vL i bad vP vC vB vV):U w (aQ pa 2)=V (iQ bad):=by unfold bX at a;simp[U,a]
theorem bX.c3(a:bX w pa vL i bad vP vC vB vV):U w (aQ pa 3)=V vP:=by unfold bX at a;simp[U,a]
theorem bX.c4(a:bX w pa vL i bad vP vC vB vV):U w (aQ pa 4)=V vC:=by unfold bX at a;simp[U,a]
theorem bX.c5(a:bX w pa vL i bad vP vC vB vV):U w (aQ pa 5)=V vB:=by unfold bX at a;simp[U,a]
theorem bX.c6(a:bX w pa vL i bad vP vC vB vV):U w (aQ pa 6)=V vV:=by unfold bX at a;simp[U,a]
theorem bX.soft(a:bX w pa vL i bad vP vC vB vV)(j:Nat):zi w (aQ pa j)=false:=by unfold bX at a;simp[zi,a]
theorem bX.lt(a:bX w pa vL i bad vP vC vB vV):pa<w.heap.size:=(bA a)
theorem bX.below(a:bX w pa vL i bad vP vC vB vV){w':zt}{B:Nat}(k:Below B w w')(b:w.heap.size<=B):bX w' pa vL i bad vP vC vB vV:=by have:=a.lt;unfold bX;rw[k.block pa (by omega)];exact a
theorem bX.set1(b:bX w pa vL i bad vP vC vB vV)(a:Nat):bX (zu w (aQ pa 1) (iQ a)) pa vL a bad vP vC vB vV:=heap_setCell_same w pa 1 _ _ _ b
theorem bX.set2(b:bX w pa vL i bad vP vC vB vV)(a:Int):bX (zu w (aQ pa 2) (iQ a)) pa vL i a vP vC vB vV:=heap_setCell_same w pa 2 _ _ _ b
theorem bX.set3(b:bX w pa vL i bad vP vC vB vV)(a:Y):bX (zu w (aQ pa 3) a) pa vL i bad a vC vB vV:=heap_setCell_same w pa 3 _ _ _ b
theorem bX.set4(b:bX w pa vL i bad vP vC vB vV)(a:Y):bX (zu w (aQ pa 4) a) pa vL i bad vP a vB vV:=heap_setCell_same w pa 4 _ _ _ b
theorem bX.set5(b:bX w pa vL i bad vP vC vB vV)(a:Y):bX (zu w (aQ pa 5) a) pa vL i bad vP vC a vV:=heap_setCell_same w pa 5 _ _ _ b
theorem bX.set6(b:bX w pa vL i bad vP vC vB vV)(a:Y):bX (zu w (aQ pa 6) a) pa vL i bad vP vC vB a:=heap_setCell_same w pa 6 _ _ _ b
theorem bX.row(f:bX w pa vL i bad vP vC vB vV){B:Nat}{e:TypeId}{c:Nat}{v:Y}{n:Nat}{xs:List Y}(a:zs w B e c v n xs)(l:e≠91)(j:Nat)(u:Y):zs (zu w (aQ pa j) u) B e c v n xs:=by
 refine ownsRow_setCell_other a ?_ u;intro b;obtain⟨_,⟨rfl,_⟩|⟨g,cap,d,rfl,k,m,_⟩⟩:=a
 .simp[zq]at b
 simp[zq]at b;grind[bX]
end
theorem aPb{a:List Tk}(l:zs w B 93 3 v (Z a) (mT a)):∃d e,v=.slice d (Z a) e/\∀b (_:b<Z a),∃c,d=V (aQ c 0)/\U w (aQ c (b*3))=V (.int .u8 a[b].kind)/\U w (aQ c (b*3+1))=V (.string a[b].txt)/\U w (aQ c (b*3+2))=V (iQ a[b].pos):=by
 obtain⟨m,⟨rfl,n⟩|⟨c,e,k,rfl,o,q,p,r,t,s⟩⟩:=l
 .exact⟨none,0,by rw[n],λb g=>by omega⟩
 have f:zs w B 93 3 (sQ c (Z a) e) (Z a) (mT a):=⟨m,zg ⟨c,e,k,rfl,o,q,p,r,t,s⟩⟩;refine⟨_,_,rfl,λb g=>⟨c,rfl,?_⟩⟩;obtain⟨d,i,j⟩:=aVw a b g;refine⟨?_,?_,?_⟩
 .rw[f.cellAt _ (by omega),d]
 .rw[f.cellAt _ (by omega),i]
 rw[f.cellAt _ (by omega),j]
theorem fK{b:zt}(a:Below B b w){p:Addr}(f:B<=p.block)(e:Y):Below B b (w.setCell p e):=
 ⟨a.os,a.tape,a.output,by have:=a.size;simpa[zu]using this,λd c=>by rw[Below.heap_setCell _ _ _ _ (by omega)];exact a.block d c⟩
theorem aPc(a:zt)(b:Obj)(c:Nat):aB a ((a.alloc b).drewN c):=(aI a b).trans ((aN ⟨c,rfl⟩).mono (by simp))
def pM(a:Tk):Y:=.agg #[.int .u8 a.kind,.string a.txt,iQ a.pos]
theorem rA(s f b:Nat)(u:Int)(r A z y B:Y)(d:List Tk)(c:zt)(e:bX c f r b u A z y B)(q:zs c s 93 3 r (Z d) (mT d)):Calls zj 38 #[pQ f] c λw C=>w=.returned (pM (aH d b))/\aB c C:=by
 obtain⟨t,v,rfl,l⟩:=aPb q;have I:=e.lt;have i:=e.c0;have j:=e.c1;clear e q;have D:∀a,U (c.alloc a) (aQ f 0)=V (.slice t (Z d) v):=λa=>aC (aI c a) i
 have E:∀a,U (c.alloc a) (aQ f 1)=V (iQ b):=λa=>aC (aI c a) j
 go_enter Tryz.func38,Tryz.ntmps38;by_cases m:b<Z d
 .obtain⟨k,rfl,n,o,p⟩:=l b m;have F:∀a,U (c.alloc a) (aQ k (b*3))=V (.int .u8 d[b].kind):=λa=>aC (aI c a) n
  have G:∀a,U (c.alloc a) (aQ k (b*3+1))=V (.string d[b].txt):=λa=>aC (aI c a) o
  have H:∀a,U (c.alloc a) (aQ k (b*3+2))=V (iQ d[b].pos):=λa=>aC (aI c a) p
  have g:aE (aH d b=d[b]):=O (by simp[aH,m]);clear n o p i j l;have x:(b:Int)<(Z d:Int):=by omega
  go_wp2;go_quiet (fail);go_wp2;go_region;all_goals
   go_wp2;go_returns;exact⟨by rw[g.o];rfl,fK (fK (fK (aPc _ _ _) (zo _) _) (zo _) _) (zo _) _⟩
 have g:aE (aH d b=tW):=O (by simp[aH,m]);have x:¬(b:Int)<(Z d:Int):=by omega
 clear i j l;go_wp2;go_quiet (fail);go_wp2;go_returns;exact⟨by rw[g.o];rfl,fK (fK (fK (aPc _ _ _) (zo _) _) (zo _) _) (zo _) _⟩
def rB(a:List Tk)(c:Int)(b:Nat):Int:=if h:b<Z a then (a[b].pos:Int) else c
theorem aPd{c:zt}{b:Option Nat}(a:zr w c b)(d:Nat):zr w (c.drewN d) b:=⟨a.os,a.tape,a.output,a.size,a.block⟩
theorem tX{d:zt}{b:Nat}(a:zr w d (V b))(i:Y):zr w (zu d (aQ b j) i) (V b):=
 ⟨a.os,a.tape,a.output,by have:=a.size;simpa[zu]using this,λg f c=>by rw[Below.heap_setCell _ _ _ _ (λe=>c (by rw[e]))];exact a.block g f c⟩
theorem aEg(w d b:Nat)(a:Int)(l t s r u:Y)(c:List Tk)(e:zt)(g:bX e d l b (-1) t s r u)(o:zs e w 93 3 l (Z c) (mT c)):Calls zj 39 #[pQ d,iQ a] e λx v=>x=.returned (.tuple #[])/\bX v d l b (rB c a b) t s r u/\zr e v (V d):=by
 have p:=g.row o (by decide) 2 (iQ a);have f:=g.set2 a;have q:zr e (zu e (aQ d 2) (iQ a)) (V d):=cD _ _ _;obtain⟨B,C,rfl,j⟩:=aPb p;have J:=g.c2;have L:=g.soft 2;have D:=f.c0;have E:=f.c1;have F:=f.c2;have G:=f.soft 2;have m:=O f;have n:=O q;clear g o f p q;go_enter Tryz.func39,Tryz.ntmps39;by_cases k:b<Z c
 .obtain⟨I,rfl,y,z,H⟩:=j b k;have i:aE (rB c a b=c[b].pos):=O (by simp[rB,k]);clear j y z;have A:(b:Int)<(Z c:Int):=by omega
  go_wp2;generalize zu e (aQ d 2) (iQ a)=w1 at *;go_quiet (fail);go_wp2;go_region;all_goals
   go_wp2;go_returns;exact⟨rfl,by rw[i.o];exact bX.set2 (w:=w1.drewN _) m.o _,tX (aPd n.o _) _⟩
 have i:aE (rB c a b=a):=O (by simp[rB,k]);have A:¬(b:Int)<(Z c:Int):=by omega
 clear j;go_wp2;generalize zu e (aQ d 2) (iQ a)=w1 at *;go_quiet (fail);go_wp2;go_returns;exact⟨rfl,by rw[i.o];exact m.o,aPd n.o _⟩
def pO(a:Y):Option (DataW Unit×List MemPlace):=
 match a with
 | .int .i64 x=>some (.lit (.int .i64 x),[])
 |_=>none
theorem aPe{b:Int}{c:List MemPlace}(a:pO v=V (.lit (.int .i64 b),c)):v=.int .i64 b:=by
 unfold pO at a;split at a
 .simp at a;rw[a.1]
 simp at a
theorem aPf{a b:ByteArray}(c:a.data.toList=b.data.toList):a=b:=by obtain⟨⟨d⟩⟩:=a;obtain⟨⟨e⟩⟩:=b;simp at c;rw[c]
structure sW(D:DataW Unit)(sn:List ByteArray):Prop where
 tidy:Maps.Tidy D
 size:Maps.size D=Z sn
 old:∀x,0<=lC sn x->Maps.has D (.string x.data.toList)=zl/\∀z,D.atKey (.string x.data.toList) z=.lit (.int .i64 (lC sn x))
 new:∀x,lC sn x<0->Maps.has D (.string x.data.toList)=zv
theorem sW.start:sW (.map []) []:=⟨⟨[],rfl,by simp⟩,rfl,λb a=>by rw[bD3]at a;omega,λb _=>rfl⟩
theorem sW.put{i:DataW Unit}{e:List ByteArray}{x:ByteArray}(a:sW i e)(l:lC e x<0):sW (i.put (.string x.data.toList) (.lit (.int .i64 (Z e)))) (e++[x]):=by
 have g:WideAt.IsKeyLit (.string x.data.toList):=trivial;refine⟨a.tidy.put g _,?_,λy b=>?_,λy b=>?_⟩
 .rw[Maps.size_put a.tidy,a.new x l,a.size];simp
 .rw[aEf]at b ⊢;by_cases c:x=y
  .subst c;rw[aT rfl];exact⟨Maps.has_put_same a.tidy.isMap g _,λk=>Maps.atKey_put_same a.tidy.isMap g _ _⟩
  rw[aS c]at b ⊢;have d:(Lit.string y.data.toList)≠.string x.data.toList:=λf=>c (aPf (by simpa using f.symm))
  have j:=a.old y b;exact⟨by rw[Maps.has_put_other d];exact j.1,λk=>by rw[Maps.atKey_put_other d];exact j.2 k⟩
 rw[aEf]at b;by_cases c:x=y
 .rw[aT c]at b;omega
 rw[aS c]at b;have d:(Lit.string y.data.toList)≠.string x.data.toList:=λf=>c (aPf (by simpa using f.symm))
 rw[Maps.has_put_other d];exact a.new y b
theorem bD5(e:Nat)(g:DataW Unit)(a:List ByteArray)(b:ByteArray)(w:zt)(j:w.ownsMap zj 9 pO e (Z a) g)(c:sW g a)(A:Z a<=1000000)(C:b.size<=1000000):Calls zj 164 #[.map (V e),.string b] w λz t=>∃p:DataW Unit,z=.returned (.int .i64 (lU a b))/\t.ownsMap zj 9 pO e (Z (mX a b)) p/\sW p (mX a b)/\zr w t (V e):=by
 have k:keyOf zj 9 (.string b)=V (.string b.data.toList):=keyOf_string_mk ze (by unfold maxLen;omega);obtain⟨E,D,s,f⟩:=j.look_ok (Maps.string_keyed ze) zh (Tryz.zeroValue3 _) (zd:=.lit (.int .i64 0)) (zp:=[]) rfl k;by_cases d:lC a b<0
 .have i:aE (mX a b=a++[b]/\lU a b=(Z a:Int)):=O (by unfold mX lU;rw[aT d,aT d];exact⟨rfl,rfl⟩);have m:=c.new b d;rw[m]at s;rw[aDm c.tidy.isMap m]at f;have o:=aPe f;subst o;have l:=O (c.put d);have v:=O k;have B:=c.size;clear f m c k d;go_enter Tryz.func164,Tryz.ntmps164;go_wp2_with(first
   |(at_len;refine wpList_len_own _ rfl _ 72 rfl 9 3 zh _ e (Z a) g rfl j ?_)
   |(at_mapUpdate;refine wpList_mapUpdate_own _ rfl _ _ _ 72 rfl 9 3 (Maps.string_keyed ze) zh pO e (Z a) g rfl j (by unfold maxLen;omega) _ _ (.string b.data.toList) rfl rfl (aD v) (.lit (.int .i64 (Z a))) [] ?_ ?_)
   |go_in)
  case refine_1=>rfl
  intro w1 r q;have x:=O r;have u:=O q;clear r q;go_wp2;go_ret;rw[i.o.1,i.o.2];exact⟨_,rfl,by rw[zm];exact x.o,l.o,u.o⟩
 have i:aE (mX a b=a/\lU a b=lC a b):=O (by unfold mX lU;rw[aS d,aS d];exact⟨rfl,rfl⟩);have n:=c.old b (by omega);rw[n.1]at s;rw[n.2]at f;have o:=aPe f;subst o;have l:=O c;have y:=O j;clear f n c k d j;go_enter Tryz.func164,Tryz.ntmps164;go_wp2;go_ret;rw[i.o.1,i.o.2];exact⟨g,rfl,y.o,l.o,⟨rfl,rfl,rfl,zo _,λ_ _ _=>rfl⟩⟩
structure Rw where
 node:Nd
 cls:Nat
 parts:List Nat
def gY(P:List (Rw×Y)):List Y:=P.flatMap λa=>[.string a.1.node.1,iQ a.1.node.2,a.2,iQ a.1.cls]
theorem aHy(a:Rw×Y)(b:List (Rw×Y)):gY (a::b)=.string a.1.node.1::iQ a.1.node.2::a.2::iQ a.1.cls::gY b:=rfl
theorem bD6(a:List (Rw×Y)):∀b (c:b<Z a),(gY a)[b*4]?=V (.string a[b].1.node.1)/\(gY a)[b*4+1]?=V (iQ a[b].1.node.2)/\(gY a)[b*4+2]?=V a[b].2/\(gY a)[b*4+3]?=V (iQ a[b].1.cls):=by
 induction a with
 |nil=>intro b c;simp at c
 |cons x r ih=>
  grind[aHy]
theorem bD7(b:List (Rw×Y)):∀(a:Nat) (d:a<Z b) (c:Nat),(gY b).set (a*4+3) (iQ c)=gY (b.set a ({b[a].1 with cls:=c},b[a].2)):=by
 induction b with
 |nil=>intro a d;simp at d
 |cons x r ih=>
  intro a d c;cases a with
  |zero=>rfl
  |succ a=>
   grind[aHy]
structure dO(w:zt)(B tp:Nat)(v:Y)(P:List (Rw×Y)):Prop where
 box:w.heap[tp]?=V (.cells #[v] 142)
 high:B<=tp
 row:zs w B 185 4 v (Z P) (gY P)
 parts:∀p∈P,zs w B 3 1 p.2 (Z p.1.parts) (p.1.parts.map λx:Nat=>iQ x)
theorem dO.cell{P:List (Rw×Y)}(a:dO w B tp v P):U w (aQ tp 0)=V v:=by simp[U,a.box]
theorem dO.soft{a:List (Rw×Y)}(b:dO w B tp v a):zi w (aQ tp 0)=false:=by simp[zi,b.box]
theorem dO.drewN{P:List (Rw×Y)}(a:dO w B tp v P)(d:Nat):dO (w.drewN d) B tp v P:=⟨a.box,a.high,a.row,a.parts⟩
theorem dO.shape{P:List (Rw×Y)}(e:dO w B tp v P):∃b cap,v=.slice b (Z P) cap/\∀k (e:k<Z P),∃a,b=V (aQ a 0)/\U w (aQ a (k*4))=V (.string P[k].1.node.1)/\U w (aQ a (k*4+1))=V (iQ P[k].1.node.2)/\U w (aQ a (k*4+2))=V P[k].2/\U w (aQ a (k*4+3))=V (iQ P[k].1.cls):=by
 obtain⟨l,⟨rfl,m⟩|⟨a,cap,i,rfl,n,p,o,q,s,r⟩⟩:=e.row
 .exact⟨none,0,by rw[m],λk f=>by omega⟩
 have d:zs w B 185 4 (sQ a (Z P) cap) (Z P) (gY P):=⟨l,zg ⟨a,cap,i,rfl,n,p,o,q,s,r⟩⟩;refine⟨_,_,rfl,λk f=>⟨a,rfl,?_⟩⟩;obtain⟨b,g,c,j⟩:=bD6 P k f;refine⟨?_,?_,?_,?_⟩
 .rw[d.cellAt _ (by omega),b]
 .rw[d.cellAt _ (by omega),g]
 .rw[d.cellAt _ (by omega),c]
 rw[d.cellAt _ (by omega),j]
def aPg(a:List (Rw×Y))(d:Nat)(e:Int):Prop:=(e=-1/\∀c (b:c<Z a),¬(a[c].1.cls=d/\aK a[c].1.node=zv))\/∃b:Nat,e=b/\∃f:b<Z a,a[b].1.cls=d/\aK a[b].1.node=zv
theorem aPh(w v:Nat)(F:Y)(c:List (Rw×Y))(f:Nat)(l:zt)(d:dO l w v F c)(N:Z c<=1000000):Calls zj 145 #[pQ v,iQ f] l λA G=>∃u:Int,A=.returned (iQ u)/\aPg c f u/\∃e,G=l.drewN e:=by
 obtain⟨H,I,rfl,q⟩:=d.shape;have M:=d.cell;have x:=O q;clear q d;go_enter Tryz.func145,Tryz.ntmps145;go_wp2;go_loopw[5] (λb wr=>∃a:Nat,a<=Z c/\b=iQ a/\(∀b (d:b<a) (j:b<Z c),¬(c[b].1.cls=f/\aK c[b].1.node=zv))/\∃e,wr=l.drewN e) (λb _=>Z c-(intOf b).toNat);exact⟨0,Nat.zero_le _,rfl,λb d=>by omega,0,rfl⟩;obtain⟨a,P,rfl,k,e,rfl⟩:=hrel;by_cases s:a<Z c
 .have D:(a:Int)<(Z c:Int):=by omega
  obtain⟨J,rfl,o,B,C,p⟩:=x.o a s;have g:=O k;have z:=O (show ∀S:Bool,(c[a].1.cls=f/\aK c[a].1.node=zv)\/¬(c[a].1.cls=f/\aK c[a].1.node=zv) from λ_=>Classical.em _);clear k B C z;have y:=O (show c[a]=c[a] from rfl);generalize hpk:c[a]=pk at o p;obtain⟨⟨⟨E,T⟩,n,Q⟩,R⟩:=pk;simp only at o p;have i:=O hpk;clear hpk y;by_cases r:n=f
  .subst r;by_cases t:E.toList.isEmpty=zl
   .go_wp2;go_roundw;case rel=>
     refine⟨a+1,by omega,by go_num,λb d j=>?_,e,rfl⟩;by_cases m:b<a
     .exact g.o b m j
     have:b=a:=by omega
     subst this;rw[i.o];simp[aK,t]
    case measure=>simp[intOf];omega
   go_wp2;go_ret;exact⟨_,rfl,zg ⟨a,rfl,s,by rw[i.o],by rw[i.o];simpa[aK]using t⟩,e,rfl⟩
  have L:¬((n:Int)=(f:Int)):=by omega
  go_wp2;go_roundw;case rel=>
   refine⟨a+1,by omega,by go_num,λb d j=>?_,e,rfl⟩;by_cases m:b<a
   .exact g.o b m j
   have:b=a:=by omega
   subst this;rw[i.o];simp[r]
  case measure=>simp[intOf];omega
 have D:¬((a:Int)<(Z c:Int)):=by omega
 have g:=O k;clear k;go_wp2;go_ret;exact⟨_,rfl,Or.inl ⟨rfl,λb d=>g.o b (by omega) d⟩,e,rfl⟩
def nT(b c:Nat)(a:Rw×Y):Rw×Y:=if a.1.cls=c then ({a.1 with cls:=b},a.2) else a
def iD(a:List (Rw×Y))(b c:Nat):List (Rw×Y):=a.map (nT b c)
def mY(P:List (Rw×Y))(b c a:Nat):List (Rw×Y):=(P.take a).map (nT b c)++P.drop a
theorem bD8(P:List (Rw×Y))(a b:Nat):mY P a b 0=P:=by simp[mY]
theorem bD9(a:List (Rw×Y))(b c:Nat):mY a b c (Z a)=iD a b c:=by simp[mY,iD]
theorem bDa(P:List (Rw×Y))(b c a:Nat):Z (mY P b c a)=Z P:=by simp[mY];omega
theorem bDb(P:List (Rw×Y))(b c a:Nat)(d:a<Z P)(e:a<Z (mY P b c a)):(mY P b c a)[a]=P[a]:=by simp[mY,Nat.min_eq_left (Nat.le_of_lt d)]
theorem bDc(b:List (Rw×Y))(d e a:Nat)(c:a<Z b):mY b d e (a+1)=(mY b d e a).set a (nT d e b[a]):=by unfold mY;rw[List.take_succ_eq_append_getElem c,List.drop_eq_getElem_cons c,List.map_append,List.set_append_right _ _ (by simp;omega)];simp only[List.length_map,List.length_take,Nat.min_eq_left (Nat.le_of_lt c),Nat.sub_self,List.set_cons_zero,List.map_cons,List.map_nil,List.append_assoc,zc,List.nil_append]
theorem aBl(b c:Nat)(a:Rw×Y):(nT b c a).2=a.2/\(nT b c a).1.parts=a.1.parts/\(nT b c a).1.node=a.1.node:=by unfold nT;split<;>simp
theorem aPi(a:List (Rw×Y))(c:Nat):iD a c c=a:=by
 unfold iD;rw[List.map_congr_left (g:=id)]
 .simp
 intro d _;unfold nT;split
 .rename_i b;obtain⟨⟨f,e,i⟩,j⟩:=d;simp at b;subst b;rfl
 rfl
theorem dO.ne{c:List (Rw×Y)}(b:dO w B tp v c):zq v≠V tp:=by
 obtain⟨_,⟨rfl,_⟩|⟨g,e,f,rfl,a,d,_⟩⟩:=b.row
 .simp[zq]
 simp[zq];rintro rfl;have a:=b.box;rw[d]at a;simp at a
theorem dO.cls{d cap:Nat}{P:List (Rw×Y)}(a:dO w B tp (sQ d (Z P) cap) P)(k:Nat)(j:k<Z P)(c:Nat):dO (zu w (aQ d (k*4+3)) (iQ c)) B tp (sQ d (Z P) cap) (P.set k ({P[k].1 with cls:=c},P[k].2)):=by
 have f:=a.ne;simp[zq]at f;refine⟨?_,a.high,?_,?_⟩
 .rw[heap_setCell_other _ _ _ _ (by simpa using λe=>f e.symm),a.box]
 .have r:=(a.row.stored (k*4+3) (iQ c)).1;rw[bD7 P k j c]at r;simpa using r
 intro n l;have m:∀b∈P,zs (zu w (aQ d (k*4+3)) (iQ c)) B 3 1 b.2 (Z b.1.parts) (b.1.parts.map λx:Nat=>iQ x):=λb g=>
  uX (a.parts b g) (by
   rcases dC (a.parts b g) a.row (by decide)with e|e
   .rw[e];simp
   exact λi=>e (by rw[<-i];rfl)) _
 grind
theorem dO.frozen{g cap:Nat}{P:List (Rw×Y)}(b:dO w B tp (sQ g (Z P) cap) P)(a:Nat):zi w (aQ g a)=false:=b.row.frozenAt a
theorem aPj(p o:Nat)(D:Y)(a:List (Rw×Y))(e f:Nat)(a3:e<Z a)(a4:f<Z a)(w:zt)(k:dO w p o D a)(c0:Z a<=1000000):Calls zj 143 #[pQ o,iQ e,iQ f] w λa2 S=>a2=.returned (.bool (decide (a[e].1.cls≠a[f].1.cls)))/\dO S p o D (iD a a[e].1.cls a[f].1.cls)/\zr w S (zq D):=by
 obtain⟨c4,r,rfl,s⟩:=k.shape;have b8:=k.cell;obtain⟨I,rfl,z,A,B,b2⟩:=s e a3;obtain⟨b4,P,C,a8,a9,b3⟩:=s f a4;clear z A B C a8 a9;simp at P;subst P;have b6:(e:Int)<(Z a:Int):=by omega
 have b7:(f:Int)<(Z a:Int):=by omega
 generalize a[e].1.cls=x at *;generalize a[f].1.cls=y at *;have F:=O k;clear k s;by_cases a7:x=y
 .subst a7;have X:=O (aPi a x);go_enter Tryz.func143,Tryz.ntmps143;go_wp2;go_ret;exact⟨eB (by simp),by rw[X.o];exact F.o,⟨rfl,rfl,rfl,zo _,λ_ _ _=>rfl⟩⟩
 have c3:¬((x:Int)=(y:Int)):=by omega
 go_enter Tryz.func143,Tryz.ntmps143;go_wp2;go_loopw[9] (λv wr=>∃b:Nat,b<=Z a/\v=iQ b/\dO wr p o (sQ I (Z a) r) (mY a x y b)/\zr w wr (V I)) (λv _=>Z a-(intOf v).toNat);exact⟨0,Nat.zero_le _,rfl,by rw[bD8];exact F.o,⟨rfl,rfl,rfl,zo _,λ_ _ _=>rfl⟩⟩;obtain⟨b,c2,rfl,d,m⟩:=hrel;have b0:=d.cell;have n:=bDa a x y b;by_cases Q:b<Z a
 .have a6:(b:Int)<(Z a:Int):=by omega
  obtain⟨c5,b1,G,J⟩:=d.shape;obtain⟨b5,rfl,z,A,B,H⟩:=J b (by omega);simp at G;obtain⟨rfl,C,rfl⟩:=G;clear z A B C;have l:=bDb a x y b Q (by omega);rw[l]at H;have t:=dO.cls (P:=mY a x y b) (cap:=r) (by rw[n];exact d) b (by omega) x;rw[l,n]at t;have c1:=dO.frozen (P:=mY a x y b) (cap:=r) (by rw[n];exact d) (b*4+3);have u:=bDc a x y b Q;have q:=O d;have T:=O t;have j:=O m;have M:∀c,a[b].1.cls=c->c=y->nT x y a[b]=({a[b].1 with cls:=x},a[b].2):=λc g i=>by unfold nT;rw[aT (g.trans i)]
  have L:∀c,a[b].1.cls=c->c≠y->nT x y a[b]=a[b]:=λc g i=>by unfold nT;rw[aS (by rw[g];exact i)]
  have W:=O M;have R:∀c,a[b].1.cls=c->c≠y->mY a x y (b+1)=mY a x y b:=λc g i=>by rw[u,L c g i,<-l,List.set_getElem_self]
  have a0:=O R;have a1:=O u;generalize hcl':a[b].1.cls=cl at H;have E:=O hcl';clear d t m M L R u l hcl' J n;by_cases N:cl=y
  .subst N;go_wp2;go_roundw;case rel=>
    refine⟨b+1,by omega,by go_num,?_,j.o.trans (cD _ _ _)⟩;rw[a1.o,W.o _ E.o rfl];exact T.o
   case measure=>simp[intOf];omega
  have b9:¬((cl:Int)=(y:Int)):=by omega
  go_wp2;go_roundw;case rel=>
   refine⟨b+1,by omega,by go_num,?_,j.o⟩;rw[a0.o _ E.o N];exact q.o
  case measure=>simp[intOf];omega
 have a6:¬((b:Int)<(Z a:Int)):=by omega
 have a5:b=Z a:=by omega
 rw[a5,bD9]at d;have q:=O d;have j:=O m;clear d m;go_wp2;go_ret;exact⟨eB (by simp),q.o,j.o⟩
abbrev Tb:=List (Rw×Y)
def bJ(b:Tb):Gr:=⟨λa=>if h:a<Z b then b[a].1.node else (⟨#[]⟩,0),λa=>if h:a<Z b then b[a].1.parts else []⟩
def bQ(a:Tb)(b c:Nat):Prop:=b=c\/∃(d:b<Z a) (e:c<Z a),a[b].1.cls=a[c].1.cls
structure jY(P:Tb):Prop where
 parts:∀i (h:i<Z P),∀q∈P[i].1.parts,q<Z P
 cls:∀i (h:i<Z P),P[i].1.cls<Z P
 ary:∀i (h:i<Z P),aK P[i].1.node=zv->(P[i].1.parts.length:Int)=P[i].1.node.2
theorem rC(a:Tb)(b c:Nat):Z (iD a b c)=Z a:=by simp[iD]
theorem vF(a:Tb)(c d b:Nat)(e:b<Z a)(f:b<Z (iD a c d)):(iD a c d)[b]=nT c d a[b]:=by simp[iD]
theorem aPk(a:Tb)(b c:Nat):bJ (iD a b c)=bJ a:=by grind[bJ,vF,rC,aBl]
theorem vG{a:Tb}{b:Nat}(c:(bJ a).named b):∃c:b<Z a,aK a[b].1.node=false:=by grind[Gr.named,bJ,oF]
theorem sX(a:Tb)(b:Nat)(c:b<Z a):(bJ a).lab b=a[b].1.node:=by simp[bJ,c]
theorem vH(a:Tb)(b:Nat)(c:b<Z a):(bJ a).ch b=a[b].1.parts:=by simp[bJ,c]
theorem aBm(b c:Nat)(a:Rw×Y):(nT b c a).1.cls=if a.1.cls=c then b else a.1.cls:=by unfold nT;split<;>simp_all
theorem jY.join{e:Tb}(f:jY e)(c d:Nat)(j:c<Z e):jY (iD e c d):=by
 refine⟨λb a k g=>?_,λb a=>?_,λb a i=>?_⟩
 .rw[rC]at a ⊢;rw[vF e c d b a,(aBl c d _).2.1]at g;exact f.parts b a k g
 .rw[rC]at a ⊢;rw[vF e c d b a,aBm];split
  .exact j
  exact f.cls b a
 have l:=a;rw[rC]at a;rw[vF e c d b a,(aBl c d _).2.2]at i ⊢;rw[(aBl c d _).2.1];exact f.ary b a i
theorem jY.arity{a:Tb}(g:jY a):(bJ a).Arity:=by intro d e j k f;obtain⟨b,l⟩:=vG j;obtain⟨c,m⟩:=vG k;rw[sX a d b,sX a e c]at f;rw[vH a d b,vH a e c];have i:=g.ary d b l;have n:=g.ary e c m;rw[f]at i;omega
theorem bQ.refl(a:Tb)(i:Nat):bQ a i i:=Or.inl rfl
theorem bQ.symm{a:Tb}{i:Nat}(b:bQ a i j):bQ a j i:=by grind[bQ]
theorem bQ.trans{P:Tb}{a j k:Nat}(b:bQ P a j)(c:bQ P j k):bQ P a k:=by grind[bQ]
theorem bQ.iff{a:Tb}{b:Nat}(c:b<Z a)(d:j<Z a):bQ a b j↔a[b].1.cls=a[j].1.cls:=by grind[bQ]
theorem aPl{c:Tb}{C:Nat->Nat->Prop}(i:∀a b,bQ c a b->C a b)(n:∀a b,C a b->C b a)(l:∀a b t,C a b->C b t->C a t){f e:Nat}(o:f<Z c)(q:e<Z c)(p:C f e)(a b:Nat)(u:bQ (iD c c[f].1.cls c[e].1.cls) a b):C a b:=by
 rcases u with rfl|⟨j,k,d⟩
 .exact i a a (Or.inl rfl)
 rw[rC]at j k;rw[vF _ _ _ a j,vF _ _ _ b k,aBm,aBm]at d;have r:c[a].1.cls=c[e].1.cls->C a e:=λd=>i a e (zg ⟨j,q,d⟩)
 have s:c[b].1.cls=c[e].1.cls->C b e:=λd=>i b e (zg ⟨k,q,d⟩)
 have v:c[a].1.cls=c[f].1.cls->C a f:=λd=>i a f (zg ⟨j,o,d⟩)
 have w:c[b].1.cls=c[f].1.cls->C b f:=λd=>i b f (zg ⟨k,o,d⟩)
 by_cases m:c[a].1.cls=c[e].1.cls
 .by_cases g:c[b].1.cls=c[e].1.cls
  .exact l _ _ _ (r m) (n _ _ (s g))
  rw[aT m,aS g]at d;exact l _ _ _ (l _ _ _ (r m) (n _ _ p)) (n _ _ (w d.symm))
 by_cases g:c[b].1.cls=c[e].1.cls
 .rw[aS m,aT g]at d;exact l _ _ _ (l _ _ _ (v d) p) (n _ _ (s g))
 rw[aS m,aS g]at d;exact i a b (zg ⟨j,k,d⟩)
theorem aPm{a:Tb}{f g b:Nat}(e:bQ a b j):bQ (iD a f g) b j:=by
 rcases e with rfl|⟨c,d,i⟩
 .exact Or.inl rfl
 refine zg ⟨by rw[rC];exact c,by rw[rC];exact d,?_⟩;grind[vF,aBm]
theorem bDd{a:Tb}{b c:Nat}(d:b<Z a)(e:c<Z a):bQ (iD a a[b].1.cls a[c].1.cls) b c:=by refine zg ⟨by rw[rC];exact d,by rw[rC];exact e,?_⟩;grind[vF,aBm]
structure vI(P0:Tb)(B:Nat->Nat->Prop)(P:Tb):Prop where
 gr:bJ P=bJ P0
 len:Z P=Z P0
 ok:jY P
 sound:∀i j,bQ P i j->Cl (bJ P0) B i j
 base:∀i j,B i j->bQ P i j
theorem vI.join{d a:Tb}{c:Nat->Nat->Prop}(b:vI d c a){u v:Nat}(e:u<Z a)(i:v<Z a)(g:Cl (bJ d) c u v):vI d c (iD a a[u].1.cls a[v].1.cls):=
 ⟨by rw[aPk,b.gr],by rw[rC,b.len],b.ok.join _ _ (b.ok.cls u e),aPl b.sound (λ_ _=>Cl.symm) (λ_ _ _=>Cl.trans) e i g,λj k f=>aPm (b.base j k f)⟩
def mK(a:Tb)(b c:Nat):Prop:=∀(g:b<Z a) (i:c<Z a),a[b].1.cls=a[c].1.cls->aK a[b].1.node=zv->aK a[c].1.node=zv->a[b].1.node=a[c].1.node/\∀d e f:Nat,a[b].1.parts[d]?=V e->a[c].1.parts[d]?=V f->bQ a e f
theorem vI.done{e P:Tb}{B:Nat->Nat->Prop}(f:vI e B P)(n:∀i c,c<i->i<Z P->mK P i c):(∀i j,bQ P i j↔Cl (bJ e) B i j)/\fU (bJ e) (Cl (bJ e) B):=by
 have y:∀i c,i≠c->(d:i<Z P)->(g:c<Z P)->P[i].1.cls=P[c].1.cls->aK P[i].1.node=zv->aK P[c].1.node=zv->P[i].1.node=P[c].1.node/\∀p l r:Nat,P[i].1.parts[p]?=V l->P[c].1.parts[p]?=V r->bQ P l r:=by
  intro i c A d g m s t;by_cases v:c<i
  .exact n i c v d d g m s t
  obtain⟨a,b⟩:=n c i (by omega) g g d m.symm t s;grind[bQ.symm]
 have u:gL (bJ e) (bQ P):=by refine⟨bQ.refl P,λ_ _=>bQ.symm,λ_ _ _=>bQ.trans,λi j c p l q d k w x=>?_⟩;rw[<-f.gr]at d k w x;grind[bQ,bQ.iff,vH,vG]
 have o:∀i j,bQ P i j↔Cl (bJ e) B i j:=λi j=>⟨f.sound i j,Cl.le u f.base⟩
 refine⟨o,λi j q d k=>?_⟩;have z:=(o i j).2 q;rw[<-f.gr]at d k ⊢;grind[bQ,bQ.iff,sX,vG]
theorem vI.clash{d a:Tb}{f:Nat->Nat->Prop}(e:vI d f a){b c:Nat}(g:b<Z a)(i:c<Z a)(k:a[b].1.cls=a[c].1.cls)(o:aK a[b].1.node=zv)(p:aK a[c].1.node=zv)(q:a[b].1.node≠a[c].1.node):¬fU (bJ d) (Cl (bJ d) f):=by
 intro j;have l:=e.sound b c (zg ⟨g,i,k⟩);rw[<-e.gr]at j;have m:(bJ a).named b:=by show aK ((bJ a).lab b)=zv;rw[sX a b g];exact o
 have n:(bJ a).named c:=by show aK ((bJ a).lab c)=zv;rw[sX a c i];exact p
 have:=j b c (by rw[e.gr];exact l) m n;grind[sX]
def aA6(c:Nat)(b:List Nat):Nat:=(List.range c).countP λa=>b.contains a
theorem aPn{e:Type}(b:List e)(c d:e->Bool)(f:∀a∈b,c a=zl->d a=zl)(a:e)(g:a∈b)(k:c a=zv)(l:d a=zl):b.countP c<b.countP d:=by
 induction b with
 |nil=>simp at g
 |cons y r ih=>
  have m:r.countP c<=r.countP d:=List.countP_mono_left λj i=>f j (by simp[i])
  grind
theorem bDe{a:Tb}(e:jY a){d b:Nat}(i:d<Z a)(f:b<Z a)(g:a[d].1.cls≠a[b].1.cls):aA6 (Z a) ((iD a a[d].1.cls a[b].1.cls).map λc=>c.1.cls)<aA6 (Z a) (a.map λc=>c.1.cls):=by unfold aA6;refine aPn _ _ _ ?_ a[b].1.cls (by simp;exact e.cls b f) ?_ ?_;all_goals grind[List.contains_iff_mem,List.getElem_mem,aA6,iD,nT]
theorem xC(c:List Nd):∀a b,aM c (a+b)=aM c a+aM (c.drop (aM c a)) b:=by
 induction c with
 |nil=>intro a b;cases a<;>cases b<;>simp[aM]
 |cons n r ih=>
  intro a b;cases a with
  |zero=>simp
  |succ a=>
   grind[aM,bI,zn]
def gE:List Nd->Nat->Nat->List Nat
 |_,0,_=>[]
 |s,k+1,b=>b::gE (s.drop (aM s 1)) k (b+aM s 1)
@[simp] theorem bJg(s:List Nd)(b:Nat):gE s 0 b=[]:=rfl
theorem oT(a:List Nd)(c b:Nat):gE a (c+1) b=b::gE (a.drop (aM a 1)) c (b+aM a 1):=rfl
theorem yG(c:List Nd)(a:Nat):∀b,Z (gE c a b)=a:=by
 induction a generalizing c with
 |zero=>intro b;rfl
 |succ a ih=>intro b;rw[oT];simp[ih]
theorem aEh(d:Nat):∀(c:List Nd) (a b:Nat),gE c d (a+b)=(gE c d a).map (· + b):=by
 induction d with
 |zero=>intro c a b;rfl
 |succ d ih=>
  intro c a b;rw[oT,oT,List.map_cons,show a+b+aM c 1=a+aM c 1+b by omega,ih]
theorem aPo(b:Nat):∀(a:List Nd) (c d:Nat),gE a (b+c) d=gE a b d++gE (a.drop (aM a b)) c (d+aM a b):=by
 induction b with
 |zero=>intro a c d;simp
 |succ b ih=>
  intro a c d;rw[show b+1+c=(b+c)+1 by omega,oT,oT,ih,show aM a (b+1)=aM a 1+aM (a.drop (aM a 1)) b by rw[<-xC];congr 1;omega,List.drop_drop,zc];simp[Nat.add_assoc,zn (aM a 1)]
def eY:List Nd->Nat->Prop
 |_,0=>True
 |[],_+1=>False
 |n::r,q+1=>eY r (q+bI n)
@[simp] theorem bDf(l:List Nd):eY l 0:=by cases l<;>trivial
theorem aPp(c:List Nd):∀a,aP c a=zl->eY c a:=by
 induction c with
 |nil=>intro a b;simp[aP]at b;subst b;trivial
 |cons n r ih=>
  intro a b;cases a with
  |zero=>trivial
  |succ a=>rw[mC,Bool.and_eq_true]at b;exact ih _ b.2
theorem yH(b:List Nd):∀a q,eY b (a+q)↔eY b a/\eY (b.drop (aM b a)) q:=by
 induction b with
 |nil=>
  intro a q;cases a with
  |zero=>simp
  |succ a=>rw[show a+1+q=(a+q)+1 by omega];simp[eY]
 |cons n r ih=>
  intro a q;cases a with
  |zero=>simp
  |succ a=>
   grind[aM,eY,bI,zn]
theorem aHz{a:List Nd}{q:Nat}(b:eY a (q+1)):0<aM a (q+1):=by
 cases a with
 |nil=>exact b.elim
 |cons n r=>simp[aM];omega
theorem sY(b:Nat):∀(a:List Nd) (c:Nat),eY a b->∀d∈gE a b c,c<=d/\d<c+aM a b:=by
 induction b with
 |zero=>intro a c _ d e;simp at e
 |succ b ih=>
  intro a c f d e;rw[oT]at e;have g:aM a (b+1)=aM a 1+aM (a.drop (aM a 1)) b:=by rw[<-xC];congr 1;omega
  have i:=(yH a 1 b).1 (by rw[zn];exact f);grind[aHz]
theorem aI0(b d:List Nd):∀a,eY b a->aM (b++d) a=aM b a:=by
 induction b with
 |nil=>intro a c;cases a with
  |zero=>simp
  |succ a=>exact c.elim
 |cons n r ih=>
  intro a c;cases a with
  |zero=>simp
  |succ a=>simp only[zc,aM];rw[ih _ c]
theorem aPq(c d:List Nd):∀a,eY c a->eY (c++d) a:=by
 induction c with
 |nil=>intro a b;cases a with
  |zero=>simp
  |succ a=>exact b.elim
 |cons n r ih=>
  intro a b;cases a with
  |zero=>simp
  |succ a=>exact ih _ b
theorem bDg(a:Nat):∀(b d:List Nd) (c:Nat),eY b a->gE (b++d) a c=gE b a c:=by
 induction a with
 |zero=>intro b d c _;rfl
 |succ a ih=>
  intro b d c e;have f:=(yH b 1 a).1 (by rw[zn];exact e);grind[aI0,oC,oT]
theorem aI1(d:List Nd):∀(a b:Nat),eY d a->b<aM d a->∃c,d[b]?=V c/\eY (d.drop (b+1)) (bI c)/\b+1+aM (d.drop (b+1)) (bI c)<=aM d a:=by
 induction d with
 |nil=>intro a b f e;cases a<;>simp[aM]at e
 |cons c r ih=>
  intro a b f e;cases a with
  |zero=>simp at e
  |succ a=>
   simp only[aM]at e ⊢;have g:=(yH r (bI c) a).1 (by rw[zn];exact f);have i:=xC r (bI c) a;rw[zn (bI c) a]at i;cases b with
   |zero=>exact⟨c,rfl,by simpa using g.1,by simp;omega⟩
   |succ b=>
    grind[bI,aM,eY]
def oD(b:Int)(a:Nd):Nd:=(a.1,a.2+b)
theorem bJh(b:Int)(a:Nd):aK (oD b a)=aK a:=rfl
def setParts(a:List Rw)(b:Nat)(c:List Nat):List Rw:=a.modify b λd=>{d with parts:=c}
theorem aPr(a:List Rw)(b:Nat)(c:List Nat):Z (setParts a b c)=Z a:=by simp[setParts]
theorem aA7(b:List Rw)(c:Nat)(d:List Nat)(a:Nat):(setParts b c d)[a]?=if a=c then (b[a]?).map λe=>{e with parts:=d} else b[a]?:=by grind[setParts]
inductive gI(up:Int):List Rw->Nat->List Nd->List Rw->List Nat->List Nd->Prop
 |nil (R:List Rw) (s:List Nd):gI up R 0 s R [] s
 |old {R:List Rw}{n:Nd}{i k:Nat}{s:List Nd}{R':List Rw}{ps:List Nat}{s':List Nd}:aK n=true->(∃r,R[i]?=some r/\r.node=oD up n)->gI up R k s R' ps s'->gI up R (k+1) (n::s) R' (i::ps) s'
 |new {R:List Rw}{n:Nd}{k:Nat}{s:List Nd}{R':List Rw}{ps:List Nat}{s':List Nd}:aK n=true->(∀r∈R,r.node≠oD up n)->gI up (R++[⟨oD up n,Z R,[]⟩]) k s R' ps s'->gI up R (k+1) (n::s) R' (Z R::ps) s'
 |name {R:List Rw}{n:Nd}{k:Nat}{s:List Nd}{R1:List Rw}{qs:List Nat}{s1:List Nd}{R':List Rw}{ps:List Nat}{s':List Nd}:aK n=false->gI up (R++[⟨n,Z R,[]⟩]) (bI n) s R1 qs s1->gI up (setParts R1 (Z R) qs) k s1 R' ps s'->gI up R (k+1) (n::s) R' (Z R::ps) s'
theorem gI.append{p:Int}{R:List Rw}{d:Nat}{j:List Nd}{m:List Rw}{l:List Nat}{o:List Nd}(e:gI p R d j m l o):∀{c:Nat}{f:List Rw}{g:List Nat}{k:List Nd},gI p m c o f g k->gI p R (d+c) j f (l++g) k:=by
 induction e with
 |nil R j=>intro c f g k e;rw[Nat.zero_add];exact e
 |@old R n i d j R' l s' a b _ ih=>intro c f g k e;rw[show d+1+c=(d+c)+1 by omega];exact gI.old a b (ih e)
 |@new R n d j R' l s' a b _ ih=>intro c f g k e;rw[show d+1+c=(d+c)+1 by omega];exact gI.new a b (ih e)
 |@name R n d j m g o R' l s' a b _ _ ih=>intro c f q k e;rw[show d+1+c=(d+c)+1 by omega];exact gI.name a b (ih e)
def nU(b:List Rw):Prop:=∀(c d:Nat) (a e:Rw),b[c]?=V a->b[d]?=V e->aK a.node=zl->a.node=e.node->c=d
structure mL(up:Int)(R:List Rw)(k:Nat)(s:List Nd)(R':List Rw)(ps:List Nat)(s':List Nd)(g:Nat->Nat):Prop where
 full:eY s k
 rest:s'=s.drop (aM s k)
 ps:ps=(gE s k 0).map g
 more:Z R<=Z R'
 ext:∀i,i<Z R->R'[i]?=R[i]?
 var:∀i n,i<aM s k->s[i]?=V n->aK n=zl->∃r,R'[g i]?=V r/\r.node=oD up n
 name:∀i n,i<aM s k->s[i]?=V n->aK n=zv->R'[g i]?=V ⟨n,g i,(gE (s.drop (i+1)) (bI n) (i+1)).map g⟩/\Z R<=g i
 inj:∀i j n m,i<aM s k->j<aM s k->s[i]?=V n->s[j]?=V m->aK n=zv->aK m=zv->g i=g j->i=j
 onto:∀r,Z R<=r->r<Z R'->∃i,i<aM s k/\g i=r
 fresh:∀r x,Z R<=r->R'[r]?=V x->x.cls=r/\(aK x.node=zl->x.parts=[])
 once:nU R->nU R'
theorem mL.lt{m:Int}{f:List Rw}{k:Nat}{d:List Nd}{R':List Rw}{j:List Nat}{l:List Nd}{g:Nat->Nat}(b:mL m f k d R' j l g){a:Nat}(c:a<aM d k):g a<Z R':=by
 obtain⟨n,e,_,_⟩:=aI1 d k a b.full c;cases hv:aK n with
 |true=>obtain⟨o,i,_⟩:=b.var a n c e hv;exact(eE i)
 |false=>exact(List.getElem?_eq_some_iff.1 (b.name a n c e hv).1).1
theorem nU.name{R:List Rw}(a:nU R){r:Rw}(b:aK r.node=zv):nU (R++[r]):=by grind[aK,nU]
theorem nU.new{R:List Rw}(c:nU R){a:Rw}(d:∀b∈R,b.node≠a.node):nU (R++[a]):=by grind[nU,aK]
theorem nU.parts{R:List Rw}(b:nU R)(k:Nat)(a:List Nat):nU (setParts R k a):=by grind[setParts,Option.map_eq_some_iff,nU,aK]
