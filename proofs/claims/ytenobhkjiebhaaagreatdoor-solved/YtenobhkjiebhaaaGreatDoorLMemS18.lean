import Derived.Test.YtenobhkjiebhaaaGreatDoorBase0S18
import Derived.Shelf.Abstract
import Derived.Laws.Tables
import Derived.Deep.DeepAppendWide
import Derived.Maps.OwnSet
import Derived.Maps.Keyed
import Derived.Sort.QuietIn
open Array renaming getElem_setIfInBounds->zh,replicate->za
open Bool renaming true->zu,false->zr,and_eq_true->z9
open List renaming length->Z,replicate->zs,take_succ_eq_append_getElem->zn,take_of_length_le->zm,getElem?_toArray->zi,getElem?_eq_getElem->ze,length_append->z1,getElem?_append_left->z4,getElem?_cons_succ->z8,replicate_succ->yw,ext_getElem?->yu,getElem_mem->yt,all_eq_true->ys,range->yp
open Nat renaming le_refl->zo,mul_le_mul_right->zb,mod_two_eq_zero_or_one->z3,le_trans->yy,zero_le->yx,add_right_comm->yv,add_mul->yr
open Option renaming some->V,none->zg
open Or renaming inr->zc,inl->yz
open Prod renaming fst->zk
namespace Go.Proofs.YtenobhkjiebhaaaGreatDoor
open Go renaming Value->Y,World->U
open Region renaming ready->zj,binds->z0,wanted->z6,lexB->yq
open _root_.Go.Proofs.Tryz renaming prog->zq,underlying190->z2,underlying3->z7
open Value renaming ownBlock->zx
open World renaming ownsRow->zt,grownBy->zl,cell?->zf,ownsRow_nil->z5
open Go.RowKit Go.Shelf Go.WideMaps
set_option maxHeartbeats 1000000
set_option maxRecDepth 100000
variable{a:Act}{l:List Nd}{xs:List Y}{B n:Nat}{o:Option Nat}{e:TypeId}{w:U}{v:Y}
def dM(w:U)(v v':Y):Prop:=zx v'=zx v\/∃b,zx v'=V b/\w.heap.size<=b
theorem dM.refl(w:U)(v:Y):dM w v v:=yz rfl
theorem dM.trans{w w1:U}{v b c:Y}(d:dM w v b)(k:dM w1 b c)(f:w.heap.size<=w1.heap.size):dM w v c:=by grind[dM]
theorem aMz{f g:U}{m:Y}(b:zl w f (zx v))(d:dM w v m)(c:zl f g (zx m)):zl w g (zx v):=
 ⟨c.os.trans b.os,c.tape.trans b.tape,c.output.trans b.output,yy b.size c.size,λk i j=>by
  rw[c.block k (Nat.lt_of_lt_of_le i b.size) (λe=>by
   rcases d with d|⟨p,d,q⟩
   .exact j (e.trans d)
   rw[d]at e;simp at e;omega),b.block k i j]⟩
theorem jL{w':U}(b:aB w w'):zl w w' o:=⟨b.os,b.tape,b.output,b.size,λd c _=>b.block d c⟩
def jB(w:U)(B:Nat)(v:Y)(l:List Nd):Prop:=zt w B 52 2 v (Z l) (aV l)
theorem jB.shape(b:jB w B v l):∃a n c,v=.slice a n c:=by grind[aZ,jB,aV]
theorem eW{g:U}{f:Nat}(k:zt w B e f v n xs)(q:zl w g o)(ho:zx v=zg\/zx v≠o):zt g B e f v n xs:=by
 obtain⟨c,⟨rfl,m⟩|⟨b,i,j,rfl,p,d,r⟩⟩:=k
 .exact⟨c,yz ⟨rfl,m⟩⟩
 refine⟨c,zc ⟨b,i,j,rfl,p,?_,r⟩⟩;rw[q.block b (bA d) ?_,d];rintro rfl;rcases ho with ho|ho
 .simp[zx]at ho
 simp[zx]at ho
theorem wS{c:Nat}(b:zt w B e c v n xs):zx v≠V w.heap.size:=λe=>by have:=(bS b _ e).2;omega
theorem eX{tb:Nat}{b:TypeId}{i:Nat}{c:Array Y}(d:zt w B e i v n xs)(hb:w.heap[tb]?=V (.cells c b))(f:e≠b):zx v≠V tb:=by
 obtain⟨_,⟨rfl,_⟩|⟨m,j,k,rfl,_,g,_⟩⟩:=d
 .simp[zx]
 simp[zx];rintro rfl;rw[g]at hb;simp at hb;exact f hb.2
theorem lZ{b j:Nat}{c:TypeId}{f:Nat}{x:Y}{g:Array Y}(d:zt w B e f v n xs)(i:w.heap[b]?=V (.cells g c))(k:e≠c):zt (World.setCell w (aQ b j) x) B e f v n xs:=
 eW d (cD w (aQ b j) x) (zc (eX d i k))
theorem aN0(k:zt w B 52 2 v (Z l) (aV l)):∃a d,v=.slice a (Z l) d/\∀b n,l[b]?=V n->∃c,a=V (aQ c 0)/\zf w (aQ c (b*2))=V (.string n.1)/\zf w (aQ c (b*2+1))=V (iQ n.2):=by
 obtain⟨m,⟨rfl,p⟩|⟨c,d,j,rfl,q,s,r,t,x,u⟩⟩:=k
 .refine⟨zg,0,by rw[p],λb n f=>?_⟩;have:=(eE f);omega
 have i:zt w B 52 2 (sQ c (Z l) d) (Z l) (aV l):=⟨m,zc ⟨c,d,j,rfl,q,s,r,t,x,u⟩⟩;refine⟨_,_,rfl,λb n f=>⟨c,rfl,?_,?_⟩⟩
 .obtain⟨g,rfl⟩:=List.getElem?_eq_some_iff.1 f;rw[i.cellAt (b*2) (by omega),(yW l b g).1]
 obtain⟨g,rfl⟩:=List.getElem?_eq_some_iff.1 f;rw[i.cellAt (b*2+1) (by omega),(yW l b g).2]
theorem aB8{d:Nat}(f:zt w B e d v n xs):∃a c b,v=.slice a c b:=by grind[aZ]
theorem zO(w:U)(b c:Y)(d:TypeId):zf (w.alloc (.cells #[b,c] d)) (aQ w.heap.size 0)=V b/\zf (w.alloc (.cells #[b,c] d)) (aQ w.heap.size 1)=V c:=by simp_all
theorem aB9(w:U)(G:Nat)(j u e:TypeId)(c:TypeInfo)(F:Y)(m y:Nat)(E:Tryz.prog.underlying j=V (.slice e))(A:Tryz.prog.info? e=V c)(W:c.zero=V F)
  (S:c.size=m) (J:c.bytes=y) (a4:0<m)
  (v:Y) (n:Nat) (xs:List Y) (s:zt w G e m v n xs) (T:zx v≠zg)
  (a:Addr) (b p:Nat) (g:List Y) (r:Z g=b*m) (C:∀i d,g[i]?=V d->zf w (a.add i)=V d) (H:∀d∈g,d.oneCell'=zu)
  (I:n+b<=maxLen) (L:(n+b)*y<=140737488355328) {x:Y}{X:U} (f:(Builtin.append_ #[j,j] u #[v,.slice (V a) b p]).run zq w=.ok x X):zx x=zx v\/zx x=V w.heap.size:=by
 subst S;subst J
 have a3:n+b<=9223372036854775807:=by simp only[maxLen]at I;omega
 rcases s.2 with⟨rfl,rfl⟩|⟨k,q,z,rfl,a0,Q,a2,a1,M,a5⟩
 .exact absurd rfl T
 by_cases D:n+b<=q
 .have N:n*c.size+Z g<=z.size:=by rw[r,M,<-yr];exact zb _ D
  have t:=run_append_room (P:=zq) w j u e c E A k n q z Q a b p g r C H D N;rw[t]at f;simp at f;rw[<-f.1];exact yz rfl
 have R:∀i d,xs[i]?=V d->zf w (((aQ k 0):Addr).add i)=V d:=s.cells (g:=k) rfl;have t:=run_append_grow (P:=zq) w j u e c F E A W (aQ k 0) n q xs s.1 R a b p g r C (by omega) (by omega) (growslice_fits (by omega) L);rw[t]at f;simp at f;rw[<-f.1];exact zc rfl
theorem yC{b:Array Oper}{i:Nat}{o:Oper}{w':U}{K:Act->U->Prop}{c:Exit->Act->U->Prop}(g:b[i]?=V o)(f:o.guard=zg)(j:(execOp a.eval o).run zq w=.ok (.value v) w')(d:K (a.put o.dst v) w'):wpOp zq b c i K a w:=by
 refine wpOp_step g λk hK=>?_
 rw[aT (by simp[z6,f])];unfold Oper.wp;rw[j];exact hK _ _ d
theorem aZ1{f:Type}(l d:List f)(c:Nat)(g:c+Z d<=Z l)(b:Nat):(l.take c++d++l.drop (c+Z d))[b]?=if b<c then l[b]? else if b<c+Z d then d[b-c]? else l[b]?:=by grind
def rep(n:Nat)(el:List Y):List Y:=(zs n el).flatten
theorem wT(n:Nat)(b:List Y):Z (rep n b)=n*Z b:=by simp[rep]
theorem aDk(n:Nat)(b:List Y):rep (n+1) b=b++rep n b:=by simp[rep,yw]
theorem aDl(n c:Nat)(b:List Y):rep (n+c) b=rep n b++rep c b:=by grind[rep,List.flatten_append,List.replicate_append_replicate]
theorem aN1(b:List Y):∀(n c:Nat),c<n*Z b->(rep n b)[c]?=b[c % Z b]?:=by
 intro n;induction n with
 |zero=>intro c d;simp at d
 |succ n ih=>
  grind[aDk,z4,List.getElem?_append_right,Nat.mod_eq_of_lt,Nat.mod_eq_sub_mod,Nat.succ_mul]
def fO(e:TypeId)(el:List Y)(w:U)(v:Y):Prop:=v=nQ\/∃c n d b,v=sQ c n d/\w.heap[c]?=V (.cells b e)/\(∀i,i<n*Z el->b[i]?=el[i % Z el]?)/\n<=1000000000000
section
variable {e:TypeId}{el:List Y}{w w':U}{v:Y}
theorem fO.of_own(f:zt w B e (Z el) v n (rep n el))(j:n<=1000000000000):fO e el w v:=by
 obtain⟨m,⟨rfl,p⟩|⟨d,b,c,rfl,q,g,r,s,u,t⟩⟩:=f
 .exact yz rfl
 refine zc ⟨d,n,b,c,rfl,g,λk i=>?_,j⟩;have a:=aN1 el n k i;grind
theorem fO.grown(b:fO e el w v)(i:zl w w' o)(ho:zx v=zg\/zx v≠o):fO e el w' v:=by
 rcases b with b|⟨c,n,f,g,rfl,d,j⟩
 .exact yz b
 refine zc ⟨c,n,f,g,rfl,?_,j⟩;rw[i.block c (bA d) ?_,d];rcases ho with ho|ho
 .simp[zx]at ho
 intro e;exact ho (by rw[<-e];rfl)
theorem fO.below(b:fO e el w v)(hb:aB w w'):fO e el w' v:=b.grown (jL (o:=zg) hb) (by cases zx v<;>simp)
end
theorem aZ2(w:U)(u G e:TypeId)(b:List Y)(C:Y)(D:Nat)(M:Tryz.prog.underlying u=V (.slice e))(c7:(Tryz.prog.info? e).map (λm=>(m.zero,m.size,m.bytes))=V (V C,Z b,D))(c3:C.cells.size=Z b)(c1:0<Z b)(b1:D<=64)(a8:∀g∈b,g.oneCell'=zu)
  (B:Nat) (v:Y) (n:Nat) (A:zt w B e (Z b) v n (rep n b)) (a9:B<=w.heap.size) (a:Addr) (c E:Nat) (d5:0<c/\c<=3) (d6:n<=100000000000) (L:∀d g,(rep c b)[d]?=V g->zf w (a.add d)=V g):∃x p,(Builtin.append_ #[u,u] G #[v,.slice (V a) c E]).run zq w=.ok x p/\zt p B e (Z b) x (n+c) (rep (n+c) b)/\zt p B e (Z b) v n (rep n b)/\zl w p (zx v)/\dM w v x/\∀g,fO e b w g->fO e b p g:=by
 obtain⟨m,J,a5,s,a4⟩:=info_parts c7;have T:=aDl n c b;have z:=wT c b;have R:∀g∈rep c b,g.oneCell'=true:=by intro g j;unfold rep at j;obtain⟨d8,d2,j⟩:=List.mem_flatten.1 j;rw[List.eq_of_mem_replicate d2]at j;exact a8 g j
 have b0:(n+c)*D<=140737488355328:=yy (Nat.mul_le_mul (show n+c<=100000000003 by omega) b1) (by decide);by_cases a3:zx v=zg
 .have c9:v=nQ/\n=0:=by
   obtain⟨_,c5|⟨i,k,f,rfl,_⟩⟩:=A
   .exact c5
   simp[zx]at a3
  obtain⟨rfl,rfl⟩:=c9;obtain⟨x,p,r,N,Q,d7⟩:=run_append_own (P:=zq) w w.heap.size u G e m C (Z b) D M J a5 s a4 c3 c1 (nQ) 0 [] (z5 _ _ _ _) a c E (rep c b) z L R (by unfold maxLen;omega) b0 (zo _);refine⟨x,p,r,by rw[T];exact fM N a9,z5 _ _ _ _,Q,?_,λg j=>j.grown Q (by cases hub:zx g with|none=>exact yz rfl|some i=>exact zc (by simp[zx]))⟩;cases y:zx x with
  |none=>exact yz (by rw[y,a3])
  |some q=>exact zc ⟨q,y,(bS N q y).1⟩
 obtain⟨a0,⟨rfl,_⟩|⟨i,k,f,rfl,S,I,b8,W,H,a2⟩⟩:=A
 .exact absurd rfl a3
 have A:zt w B e (Z b) (sQ i n k) n (rep n b):=⟨a0,zc ⟨i,k,f,rfl,S,I,b8,W,H,a2⟩⟩;by_cases a1:n+c<=k
 .have b2:n*Z b+Z (rep c b)<=f.size:=by rw[z,H,<-yr];exact zb _ a1
  have r:=run_append_room (P:=zq) w u G e m M J i n k f I a c E (rep c b) (by rw[z,s]) L R a1 (by rw[s];exact b2);rw[s]at r;have c6:∀d,((f.toList.take (n*Z b)++rep c b++f.toList.drop (n*Z b+Z (rep c b))).toArray)[d]?=if d<n*Z b then f[d]? else if d<n*Z b+c*Z b then (rep c b)[d-n*Z b]? else f[d]?:=by intro d;have:=aZ1 f.toList (rep c b) (n*Z b) (by simpa using b2) d;rw[z]at this ⊢;simpa using this
  have c8:∀t,(∀d,d<t*Z b->f[d]?=b[d % Z b]?)->∀d,d<t*Z b->((f.toList.take (n*Z b)++rep c b++f.toList.drop (n*Z b+Z (rep c b))).toArray)[d]?=b[d % Z b]?:=by
   intro t b5 d b4;rw[c6];split
   .exact b5 d b4
   split
   .rename_i a8 d4;rw[aN1 b c _ (by omega)];congr 1
    rw[Nat.mul_comm n,Nat.sub_mul_mod (by rw[Nat.mul_comm];omega)]
   exact b5 d b4
  generalize hcur':(f.toList.take (n*Z b)++rep c b++f.toList.drop (n*Z b+Z (rep c b))).toArray=cur' at *;have c0:cur'.size=f.size:=by rw[<-hcur'];simp;omega
  have c2:cur'.toList=f.toList.take (n*Z b)++rep c b++f.toList.drop (n*Z b+Z (rep c b)):=by rw[<-hcur']
  have X:(w.setRow i cur').heap[i]?=V (.cells cur' e):=setRow_heap w i f _ e _ I;have b3:zl w (w.setRow i cur') (V i):=⟨rfl,rfl,rfl,by simp,λd3 _ d1=>setRow_other w i d3 _ (λe=>d1 (by simp[e]))⟩;refine⟨_,_,r,⟨wT _ _,zc ⟨i,k,cur',rfl,S,X,a1,W,by rw[c0,H],?_⟩⟩,⟨a0,zc ⟨i,k,cur',rfl,S,X,b8,W,by rw[c0,H],?_⟩⟩,b3,yz rfl,?_⟩
  .rw[c2,a2,T];exact List.take_left' (by rw[z1,wT,wT,yr])
  .rw[c2,a2,List.append_assoc];exact List.take_left' (wT _ _)
  intro g j;rcases j with j|⟨q,t,a6,c4,rfl,F,b6,b7⟩
  .exact yz j
  by_cases a7:q=i
  .subst a7;rw[I]at F;simp at F;subst F;exact zc ⟨q,t,a6,cur',rfl,X,c8 t b6,b7⟩
  exact zc ⟨q,t,a6,c4,rfl,by rw[b3.block q (bA F) (by simpa using a7),F],b6,b7⟩
 have d0:∀d g,(rep n b)[d]?=V g->zf w (((aQ i 0):Addr).add d)=V g:=A.cells (g:=i) rfl;obtain⟨x,p,b9,N,Q,_⟩:=run_append_own (P:=zq) w B u G e m C (Z b) D M J a5 s a4 c3 c1 _ n (rep n b) A a c E (rep c b) z L R (by unfold maxLen;omega) b0 a9;have r:=run_append_grow (P:=zq) w u G e m C M J a5 (aQ i 0) n k (rep n b) (by rw[s];exact a0) d0 a c E (rep c b) (by rw[z,s]) L (by omega) (by omega) (growslice_fits_wide (by omega) (by rw[a4];exact yy (Nat.mul_le_mul (show _<=200000000000 by omega) b1) (by decide)));rw[r]at b9;injection b9 with e1 e2;subst e1;subst e2;have y:aB w (w.drew.alloc (.cells ((rep n b).toArray++(rep c b).toArray++Builtin.zeroCells C.cells (grownCap w (n+c) k e-(n+c))) e)):=(aN (w1:=w.drew) ⟨1,rfl⟩).alloc (zo _) _;exact⟨_,_,r,by rw[T];exact N,bF A y (zo _),Q,zc ⟨_,rfl,zo _⟩,λg j=>j.below y⟩
theorem aZ3(a c:Y)(xs:List Y)(b:Nat)(d:(b+1)*2<=Z xs):((rep b [a,c]++xs.drop (b*2)).set (b*2) a).set (b*2+1) c=rep (b+1) [a,c]++xs.drop ((b+1)*2):=by
 have g:Z (rep b [a,c])=b*2:=by rw[wT];rfl
 have f:xs.drop (b*2)=xs[b*2]::xs[b*2+1]::xs.drop ((b+1)*2):=by grind[List.drop_eq_getElem_cons]
 have i:rep (b+1) [a,c]=rep b [a,c]++[a,c]:=by rw[aDl,aDk];simp[rep]
 simp_all
theorem aDm{b:DataW Unit}(i:Maps.IsMap b){c:Lit}(g:Maps.has b c=zr)(d:DataW Unit):b.atKey c d=d:=by
 obtain⟨f,rfl⟩:=i;rw[Maps.has_eq]at g;have:f.find? (λj=>j.1.sameKey c)=none:=by grind
 simp[DataW.atKey,this]
theorem sJ(b:ByteArray)(d:Int)(w:U):Calls zq 89 #[.agg #[.string b,iQ d]] w λe c=>e=.returned (.bool b.toList.isEmpty)/\aB w c:=by
 go_enter Tryz.func89,Tryz.ntmps89;go_wp2;go_ret;exact⟨rfl,aI _ _⟩
theorem lN{b:U}{d x:Y}{f:TypeId}(c:Below (w.alloc (.cells #[d,x] f)).heap.size (w.alloc (.cells #[d,x] f)) b):cQ b w.heap.size 0 d/\cQ b w.heap.size 1 x/\aB w b:=
 ⟨aC c (by simp),aC c (by simp),(aI _ _).trans (c.mono (by simp))⟩
theorem aGt(a:Option Addr)(s:Nat)(b:List Lt)(w:U)(g:bU w a b)(u:Z b<=100000):Calls zq 57 #[.slice a (Z b) s] w λe z=>e=.returned (iQ (aY b))/\aB w z:=by
 have F:aY b<=100000*5864062014805:=yy (aJt b λc p=>by obtain⟨_,_,_,_,_,_,_,t⟩:=g.cell c p;exact t.few) (zb _ u);go_enter Tryz.func57,Tryz.ntmps57;go_wp2;go_loopw[3,8] (λy i wr=>∃c:Nat,c<=Z b/\i=iQ c/\y=iQ (aY (b.take c))/\aB w wr) (λ_ i _=>Z b-(intOf i).toNat);exact⟨0,yx _,rfl,rfl,dP⟩;obtain⟨c,p,rfl,rfl,d⟩:=hrel;have G:=yX b c;by_cases q:c<Z b
 .obtain⟨J,I,A,C,rfl,j,k,m⟩:=g.cell c q;have H:=m.few;have r:aE (aY (b.take (c+1))=aY (b.take c)+b[c].2.length):=by
   rw[zn q,tK];exact rfl
  have D:=aC d j;have E:=aC d k;have f:=O d;clear g m j k d;go_wp2;exact⟨⟨c+1,by omega,by go_num,by rw[r.o];go_num,f.o.alloc f.o.size _⟩,by simp[intOf];omega⟩
 have f:=O d;clear d;go_wp2;go_ret;have x:b.take c=b:=zm (by omega);rw[x];exact⟨rfl,f.o⟩
theorem aDn(a:Option Addr)(c:Nat)(b:List Lt)(w:U)(d:bU w a b)(g:Z b<=8):Calls zq 57 #[.slice a (Z b) c] w λe f=>e=.returned (iQ (aY b))/\aB w f:=aGt a c b w d (by omega)
theorem aBa(a:Option Addr)(f:Nat)(b:List Lt)(w:U)(c:bU w a b):Calls zq 53 #[.slice a (Z b) f] w λe j=>e=.returned (.bool (bN b))/\aB w j:=by
 have q:=c.few;by_cases d:Z b<=8
 .have k:=O (aDn a f b w c d);have p:=O (show bN b=decide ((aY b:Int)<=60) by simp[bN,d];omega);clear c;go_enter Tryz.func53,Tryz.ntmps53;go_wp2_with(go_at_call 57;refine(aD k).mono ?_;rintro e j ⟨rfl,g⟩;have m:=O g;clear g);go_ret;exact⟨eB p.o.symm,m.o⟩
 have i:bN b=false:=by simp[bN,d]
 rw[i];clear i c;go_enter Tryz.func53,Tryz.ntmps53;go_wp2;go_ret;exact⟨rfl,dP⟩
theorem aN2(s t:Option Addr)(C D:Nat)(c d:List (ByteArray×Int))(w:U)(k:dI w s c)(m:dI w t d):Calls zq 149 #[.slice s (Z c) C,.slice t (Z d) D] w λe H=>e=.returned (.bool (decide (c=d)))/\∃n,H=w.drewN n:=by
 have I:=k.few;have J:=m.few;by_cases g:Z c=Z d
 .have G:((Z c:Int) != (Z d:Int))=false:=by rw[g];simp
  have r:aE (Z c=Z d):=g;clear g;go_enter Tryz.func149,Tryz.ntmps149;go_wp2;go_loopw[13] (λq wr=>∃b:Nat,b<=Z c/\q=iQ b/\(∃n,wr=w.drewN n)/\c.take b=d.take b) (λq _=>Z c-(intOf q).toNat);exact⟨0,yx _,rfl,⟨0,rfl⟩,rfl⟩;obtain⟨b,R,rfl,⟨n,rfl⟩,p⟩:=hrel;by_cases x:b<Z c
  .obtain⟨X,T,rfl,L,N⟩:=k.cell b x;have S:(b:Int)<(Z d:Int):=by have:=r.o;omega
   have y:b<Z d:=by omega
   obtain⟨a0,W,rfl,M,P⟩:=m.cell b y;have u:=rY c[b] d[b];have Q:=tJ;have a1:=rZ c[b].1 d[b].1 c[b].2 d[b].2;clear k m;by_cases f:c[b]=d[b]
   .rw[fL f]at u;have i:aE (c[b]=d[b]):=f;clear f;go_wp2;go_quiet (fail);go_wp2;exact⟨⟨b+1,by omega,by go_num,(by first|exact dT _ _ _|exact⟨_,rfl⟩),by rw[zn x,zn y,p,i.o]⟩,by simp[intOf];omega⟩
   rw[gG f]at u;have i:aE (¬c[b]=d[b]):=f;clear f;go_wp2;go_quiet (fail);go_wp2;go_ret;refine⟨?_,(by first|exact dT _ _ _|exact⟨_,rfl⟩)⟩;have:¬c=d:=λj=>i.o (by subst j;rfl)
   simp[this]
  go_wp2;go_ret;refine⟨?_,⟨_,rfl⟩⟩;have E:c.take b=c:=zm (by omega);have F:d.take b=d:=zm (by have:=r.o;omega);rw[E,F]at p;simp[p]
 have G:((Z c:Int) != (Z d:Int))=true:=by rw[bne_iff_ne];omega
 have z:¬c=d:=λj=>g (by rw[j])
 have A:aE (¬c=d):=z;clear z g;go_enter Tryz.func149,Tryz.ntmps149;go_wp2;go_ret;exact⟨by simp[A.o],0,rfl⟩
theorem aN3(b f:Bool)(g i:Option Addr)(p q:Nat)(c d:List Nd)(w:U)(s:dI w g c)(t:dI w i d):Calls zq 125 #[.agg #[.bool b,.slice g (Z c) p],.agg #[.bool f,.slice i (Z d) q]] w λe z=>e=.returned (.bool (qI (b,c) (f,d)))/\aB w z:=by
 have k:aB w ((w.alloc (.cells #[.bool b,.slice g (Z c) p] 55)).alloc (.cells #[.bool f,.slice i (Z d) q] 55)):=(aI _ _).alloc (by simp) _;have x:=O (aN2 g i p q c d _ (s.below k (zo _)) (t.below k (zo _)));have r:=O k;clear k s t;by_cases j:b=f
 .subst j;have m:=O (show qI (b,c) (b,d)=decide (c=d) by simp[qI]);go_enter Tryz.func125,Tryz.ntmps125;go_wp2_with(go_at_call 149;refine(aD x).mono ?_;rintro e C ⟨rfl,u⟩;have y:=O (r.o.trans ((aN u).mono (by simp;omega)));clear u);go_ret;exact⟨eB m.o.symm,y.o⟩
 have m:=O (show qI (b,c) (f,d)=zr by simp[qI,j]);have A:(b==f)=false:=by simp[j]
 clear j;go_enter Tryz.func125,Tryz.ntmps125;go_wp2;go_ret;exact⟨eB m.o.symm,r.o⟩
theorem aZ4(f m:Bool)(d i:Option Addr)(j p k:Nat)(c g:List Nd)(w:U)(q:dI w d c)(r:dI w i g)(y:cQ w k 0 (.bool m))(z:cQ w k 1 (.slice i (Z g) p)):Calls zq 124 #[.agg #[.bool f,.slice d (Z c) j],pQ k] w λe A=>e=.returned (.bool (qI (f,c) (m,g)))/\aB w A:=by
 have b:aB w (w.alloc (.cells #[.bool f,.slice d (Z c) j] 55)):=aI _ _;have t:=O (aN3 f m d i j p c g _ (q.below b (zo _)) (r.below b (zo _)));have C:=aC b y;have D:=aC b z;have u:=O b;clear b q r;go_enter Tryz.func124,Tryz.ntmps124;go_wp2_with(go_at_call 125;refine(aD t).mono ?_;rintro e E ⟨rfl,s⟩;have x:=O (u.o.trans (s.mono (by simp)));clear s);go_ret;exact⟨rfl,x.o⟩
theorem fN.below{w1:U}(b:fN w v l){B:Nat}(k:Below B w w1)(c:w.heap.size<=B):fN w1 v l:=by grind[dI.below,fN]
theorem bJe(b:List (Lt×Y))(c:Lt):fE ((b.map zk).take 0) c=false:=rfl
theorem aN4(b:List (Lt×Y))(d:Lt)(c:Nat)(f:c<Z b):fE ((b.map zk).take (c+1)) d=(fE ((b.map zk).take c) d || qI b[c].1 d):=by grind[aT7,aFj,zn]
theorem aN5(b:List (Lt×Y))(d:Lt)(f:Nat)(c:fE ((b.map zk).take f) d=zu):fE (b.map zk) d=true:=by rw[aAu]at c ⊢;exact List.mem_of_mem_take c
theorem aZ5(a u:Option Addr)(a1 F p:Nat)(c:List (Lt×Y))(g:Bool)(f:List Nd)(w:U)(b1:Z c<=4398046511104)
  (J:∀b (b0:b<Z c),∃q,a=V (aQ q 0)/\cQ w q (b*2) (.bool c[b].1.1)/\cQ w q (b*2+1) c[b].2)
  (H:∀Q∈c,fN w Q.2 Q.1.2) (G:dI w u f) (a2:cQ w p 0 (.bool g)) (a3:cQ w p 1 (.slice u (Z f) F)):Calls zq 150 #[.slice a (Z c) a1,.func (Fn.func 124) #[] #[pQ p]] w λe a6=>∃R:Int,e=.returned (iQ R)/\decide (0<=R)=fE (c.map zk) (g,f)/\aB w a6:=by
 have a0:=O J;have X:=O H;have W:=O G;clear J H G;go_enter Tryz.func150,Tryz.ntmps150;go_wp2;go_loopw[8] (λC wr=>∃b:Nat,b<=Z c/\C=iQ b/\fE ((c.map zk).take b) (g,f)=zr/\aB w wr) (λC _=>Z c-(intOf C).toNat);exact⟨0,yx _,rfl,rfl,dP⟩;obtain⟨b,b2,rfl,N,d⟩:=hrel;have t:=O N;clear N;by_cases M:b<Z c
 .obtain⟨q,rfl,y,m⟩:=a0.o b M;obtain⟨a4,a5,P,A⟩:=X.o c[b] (yt _);rw[P]at m;have r:=aN4 c (g,f) b M;rw[t.o,Bool.false_or]at r;have z:=aN5 c (g,f) (b+1);rw[r]at z;generalize c[b].1=x at *;obtain⟨S,T⟩:=x;simp only at y m A;have a8:=aC d y;have a9:=aC d m;have j:=O (aZ4 S g a4 u a5 F p T f wr (A.below d (zo _)) (W.o.below d (zo _)) (aC d a2) (aC d a3));have D:=O r;have E:=O z;have k:=O d;have I:=d.size;clear r z d P A y m;cases hl:qI (S,T) (g,f)
  .rw[hl]at j D;clear hl;go_wp2_with(go_at_call 124;refine(aD j).mono ?_;rintro e a7 ⟨rfl,i⟩;have s:=O (k.o.trans (i.mono I));clear i);exact⟨⟨b+1,by omega,by go_num,D.o,s.o⟩,by simp[intOf];omega⟩
  rw[hl]at j E;clear hl;go_wp2_with(go_at_call 124;refine(aD j).mono ?_;rintro e a7 ⟨rfl,i⟩;have s:=O (k.o.trans (i.mono I));clear i);go_ret;exact⟨_,rfl,by rw[E.o (by first|rfl|trivial)];simp,s.o⟩
 have L:(c.map zk).take b=c.map zk:=zm (by simp;omega);rw[L]at t;have k:=O d;clear L d;go_wp2;go_ret;exact⟨_,rfl,by rw[t.o];rfl,k.o⟩
theorem aZ6(a g:Option Addr)(m k d:Nat)(b:List (Lt×Y))(j:Bool)(f:List Nd)(w:U)(D:Z b<=4398046511104)
  (u:∀c (F:c<Z b),∃i,a=V (aQ i 0)/\cQ w i (c*2) (.bool b[c].1.1)/\cQ w i (c*2+1) b[c].2)
  (s:∀y∈b,fN w y.2 y.1.2) (r:dI w g f) (p:cQ w d 0 (.bool j)) (q:cQ w d 1 (.slice g (Z f) k)):Calls zq 126 #[.slice a (Z b) m,.func (Fn.func 124) #[] #[pQ d]] w λe E=>e=.returned (.bool (fE (b.map zk) (j,f)))/\aB w E:=by
 have z:=O (aZ5 a g m k d b j f w D u s r p q);clear u s r p q;go_enter Tryz.func126,Tryz.ntmps126;go_wp2_with(go_at_call 150;refine(aD z).mono ?_;rintro e H ⟨G,rfl,x,t⟩;have C:=O x;have A:=O t;clear x t);go_ret;exact⟨eB C.o,A.o⟩
theorem aN6(a:Option Addr)(a6:Nat)(c:List Lt)(w:U)(C:bU w a c):Calls zq 91 #[.slice a (Z c) a6] w λe w'=>∃v P,e=.returned v/\P.map zk=eG c/\(∀k∈P,fN w k.2 k.1.2)/\zt w' w.heap.size 55 2 v (Z P) (bH P)/\aB w w':=by
 have c0:=C.few;go_enter Tryz.func91,Tryz.ntmps91;go_wp2;go_loopw[3,9] (λo H wr=>∃(b:Nat) (P:List (Lt×Y)),b<=Z c/\H=iQ b/\P.map zk=eG (c.take b)/\(∀k∈P,fN w k.2 k.1.2)/\zt wr w.heap.size 55 2 o (Z P) (bH P)/\aB w wr)
  (λ_ H _=>Z c-(intOf H).toNat)
 exact⟨0,[],yx _,rfl,rfl,λk F=>by simp at F,z5 _ _ _ _,dP⟩;obtain⟨b,P,c1,rfl,p,q,r,m⟩:=hrel;have b9:Z P<=b:=by
  have Q:=(sC (c.take b)).1;have R:Z P=Z (eG (c.take b)):=by rw[<-p];simp
  have S:Z (c.take b)<=b:=List.length_take_le _ _;omega
 by_cases X:b<Z c
 .obtain⟨b8,c2,g,i,rfl,M,N,y⟩:=C.cell b X;have a7:=aC m M;have a8:=aC m N;have G:=aJu c b X;rw[<-p]at G;generalize c[b]=x at *;obtain⟨f,d⟩:=x;simp only at a7 a8 y;obtain⟨b4,b5,rfl,a1⟩:=tL r;have b1:=m.size;have z:aB w (wr.alloc (.cells #[.bool f,.slice g (Z d) i] 55)):=m.alloc b1 _;have D:aB wr (wr.alloc (.cells #[.bool f,.slice g (Z d) i] 55)):=aI _ _;have s:=O (aZ6 b4 g b5 i wr.heap.size P f d (wr.alloc (.cells #[.bool f,.slice g (Z d) i] 55)) (by omega)
   (λb3 b2=>by obtain⟨a9,Q,R,S⟩:=a1 b3 b2;exact⟨a9,Q,aC D R,aC D S⟩)
   (λk F=>(q k F).below z (zo _)) (y.below z (zo _)) (by simp) (by simp))
  have u:=O G;have I:=O q;have a3:=O y;have J:=O z;have a4:=O r;clear M N C G p q a1 m y z D;cases hm:fE (P.map zk) (f,d)
  .have A:aE (eG (c.take (b+1))=P.map zk++[(f,d)]):=O (by rw[u.o];simp[jH,hm]);rw[hm]at s;clear hm u;go_wp2_with(first
    |(go_at_call 126;refine(aD s).mono ?_;rintro e b7 ⟨rfl,j⟩;obtain⟨c3,c4,b6⟩:=lN j;have E:=bF (r.alloc (.cells #[.bool f,.slice g (Z d) i] 55)) j (zo _);have t:=O (bE J.o j);have b0:=t.o.size;clear j b6)
    |(at_builtin;refine eU qJ Tryz.underlying36 (E.alloc _) ?_)
    |go_in)
   intro c5 c6 a0 T _;have L:=aJx (x:=(f,d)) (E.alloc _) (t.o.alloc b0 _) a0 T;clear a0 T E;go_wp2;exact⟨⟨b+1,P++[((f,d),.slice g (Z d) i)],by omega,by go_num,by rw[A.o];simp,aJw I.o ⟨g,i,rfl,a3.o⟩,L.1,L.2⟩,by simp[intOf];omega⟩
  have A:aE (eG (c.take (b+1))=P.map zk):=O (by rw[u.o];simp[jH,hm]);rw[hm]at s;clear hm u;go_wp2_with(first
   |(go_at_call 126;refine(aD s).mono ?_;rintro e b7 ⟨rfl,j⟩;have a5:=O (bF (a4.o.alloc (.cells #[.bool f,.slice g (Z d) i] 55)) j (zo _));have t:=O (bE J.o j);clear j)
   |go_in)
  exact⟨⟨b+1,P,by omega,by go_num,A.o.symm,I.o,a5.o,t.o⟩,by simp[intOf];omega⟩
 have W:c.take b=c:=zm (by omega);rw[W]at p;have a2:=O (And.intro p (And.intro q (And.intro r m)));clear W p q r m;go_wp2;go_ret;exact⟨_,P,rfl,a2.o⟩
def jC(v:Y):Option (DataW Unit×List MemPlace):=
 match v with
 | .int .i64 x=>some (.lit (.int .i64 x),[])
 |_=>none
structure sK(D:DataW Unit)(sn:List Int):Prop where
 tidy:Maps.Tidy D
 size:Maps.size D=Z sn
 old:∀x,0<=gW sn x->Maps.has D (.int .i64 x)=zu/\∀z,D.atKey (.int .i64 x) z=.lit (.int .i64 (gW sn x))
 new:∀x,gW sn x<0->Maps.has D (.int .i64 x)=zr
theorem sK.start:sK (.map []) []:=⟨⟨[],rfl,by simp⟩,rfl,λc b=>by rw[aT2]at b;omega,λc _=>rfl⟩
theorem sK.put{j:DataW Unit}{g:List Int}{x:Int}(b:sK j g)(p:gW g x<0):sK (j.put (.int .i64 x) (.lit (.int .i64 (Z g)))) (g++[x]):=by
 have i:WideAt.IsKeyLit (.int .i64 x):=trivial;refine⟨b.tidy.put i _,?_,λy c=>?_,λy c=>?_⟩
 .rw[Maps.size_put b.tidy,b.new x p,b.size];simp
 .rw[aCl]at c ⊢;by_cases d:x=y
  .subst d;rw[aT rfl];exact⟨Maps.has_put_same b.tidy.isMap i _,λm=>Maps.atKey_put_same b.tidy.isMap i _ _⟩
  rw[aS d]at c ⊢;have f:(Lit.int .i64 y)≠.int .i64 x:=λe=>d (by simpa using e.symm)
  have k:=b.old y c;exact⟨by rw[Maps.has_put_other f];exact k.1,λm=>by rw[Maps.atKey_put_other f];exact k.2 m⟩
 rw[aCl]at c;by_cases d:x=y
 .rw[aT d]at c;omega
 rw[aS d]at c;have f:(Lit.int .i64 y)≠.int .i64 x:=λe=>d (by simpa using e.symm)
 rw[Maps.has_put_other f];exact b.new y c
theorem aGu{b:Int}(c:-1000000000<=b)(d:b<=1000000000):(Lit.int .i64 b).wf=true:=by simp[Lit.wf,IntKind.min,IntKind.max,IntKind.bits,IntKind.signed];omega
theorem aDo{c:Int}{ps:List MemPlace}(b:jC v=V (.lit (.int .i64 c),ps)):v=.int .i64 c:=by
 unfold jC at b;split at b
 .simp at b;rw[b.1]
 simp at b
def qU(b:List Int)(c:Int):List Int×Int:=if gW b c<0 then (b++[c],(Z b:Int)) else (b,gW b c)
theorem aZ7(f:Nat)(j:DataW Unit)(b:List Int)(c:Int)(w:U)(k:w.ownsMap zq 3 jC f (Z b) j)(d:sK j b)(H:0<=c)(I:c<=1000000000)(J:Z b<=1000000):Calls zq 123 #[.map (V f),.int .i64 c] w λe A=>∃u:DataW Unit,e=.returned (.int .i64 (qU b c).2)/\A.ownsMap zq 3 jC f (qU b c).1.length u/\sK u (qU b c).1/\zl w A (V f):=by
 have m:keyOf zq 3 (.int .i64 c)=V (.int .i64 c):=Maps.keyOf_int_mk z7 (aGu (by omega) (by omega));obtain⟨v,M,z,i⟩:=k.look_ok (Maps.int_keyed z7) z2 (Tryz.zeroValue3 _) (zd:=.lit (.int .i64 0)) (zp:=[]) rfl m;by_cases g:gW b c<0
 .have q:aE (qU b c=(b++[c],(Z b:Int))):=O (by unfold qU;rw[aT g]);have r:=d.new c g;rw[r]at z;rw[aDm d.tidy.isMap r]at i;have t:=aDo i;subst t;have p:=O (d.put g);have D:=O m;have G:=O d.size;have L:=d.size;clear i r d m g;go_enter Tryz.func123,Tryz.ntmps123;go_wp2_with(first
   |(at_len;refine wpList_len_own _ rfl _ 190 rfl 3 3 z2 _ f (Z b) j rfl k ?_)
   |(at_mapUpdate;refine wpList_mapUpdate_own _ rfl _ _ _ 190 rfl 3 3 (Maps.int_keyed z7) z2 jC f (Z b) j rfl k (by unfold maxLen;omega) _ _ (.int .i64 c) rfl rfl (aD D) (.lit (.int .i64 (Z b))) [] ?_ ?_)
   |go_in)
  case refine_1=>rfl
  intro N y x;have E:=O y;have C:=O x;clear y x;go_wp2;go_ret;rw[q.o];exact⟨_,rfl,by rw[z1];exact E.o,p.o,C.o⟩
 have q:aE (qU b c=(b,gW b c)):=O (by unfold qU;rw[aS g]);have s:=d.old c (by omega);rw[s.1]at z;rw[s.2]at i;have t:=aDo i;subst t;have p:=O d;have F:=O k;clear i s d m g k;go_enter Tryz.func123,Tryz.ntmps123;go_wp2;go_ret;rw[q.o];exact⟨j,rfl,F.o,p.o,⟨rfl,rfl,rfl,zo _,λ_ _ _=>rfl⟩⟩
abbrev zNd:Nd:=(⟨#[]⟩,0)
abbrev wU:Lt×Y:=((zr,[]),nQ)
theorem aN7(b:Nd)(c:List Nd):aV (b::c)=.string b.1::iQ b.2::aV c:=rfl
theorem aGv(b:Lt×Y)(c:List (Lt×Y)):bH (b::c)=.bool b.1.1::b.2::bH c:=rfl
theorem aZ8(l:List Nd):∀(b:Nat) (c:Nd),b<Z l->((aV l).set (b*2) (.string c.1)).set (b*2+1) (iQ c.2)=aV (l.set b c):=by
 induction l with
 |nil=>intro b c d;simp at d
 |cons y r ih=>
  intro b c d;cases b with
  |zero=>rfl
  |succ b=>
   grind[aN7]
theorem aZ9(l:List (Lt×Y)):∀(b:Nat) (c:Lt×Y),b<Z l->((bH l).set (b*2) (.bool c.1.1)).set (b*2+1) c.2=bH (l.set b c):=by
 induction l with
 |nil=>intro b c d;simp at d
 |cons y r ih=>
  intro b c d;cases b with
  |zero=>rfl
  |succ b=>
   grind[aGv]
theorem aN8{f:Type}(a:List f)(d c:f)(b:Nat)(g:Z a<b):(a++zs (b-Z a) d).set (Z a) c=(a++[c])++zs (b-(Z a+1)) d:=by rw[show b-Z a=(b-(Z a+1))+1 by omega,yw,List.set_append_right _ _ (zo _)];simp
theorem aZa(n:Nat):∀b,(aV (zs n zNd))[b]?=if b<n*2 then V (if b % 2=0 then .string ⟨#[]⟩ else iQ 0) else none:=by
 induction n with
 |zero=>intro b;simp[aV]
 |succ n ih=>
  grind[aN7,z8]
theorem aZb(n:Nat):∀b,(bH (zs n wU))[b]?=if b<n*2 then V (if b % 2=0 then .bool zr else nQ) else none:=by
 induction n with
 |zero=>intro b;simp[bH]
 |succ n ih=>
  grind[aGv,z8]
theorem aZc(n:Nat):(madeCells #[.string ⟨#[]⟩,iQ 0] (n*2)).toList=aV (zs n zNd):=by
 apply yu;intro c;rw[aZa];by_cases b:c<n*2
 .rw[aT b];rcases z3 c with h|h<;>simp[madeCells,b,h]
 rw[aS b];simp[madeCells];omega
theorem aZd(n:Nat):(madeCells #[.bool zr,nQ] (n*2)).toList=bH (zs n wU):=by
 apply yu;intro c;rw[aZb];by_cases b:c<n*2
 .rw[aT b];rcases z3 c with h|h<;>simp[madeCells,b,h]
 rw[aS b];simp[madeCells];omega
theorem aN9{m:Nat}{c k:Nat}{d:DataW Unit}(f:zt w B e m v n xs)(j:w.ownsMap zq 3 jC c k d):zx v≠V c:=by
 obtain⟨s,q,i,_⟩:=j;obtain⟨_,⟨rfl,_⟩|⟨g,p,r,rfl,_,b,_⟩⟩:=f
 .simp[zx]
 simp[zx];rintro rfl;rw[i]at b;simp at b
theorem uX{c:Nat}(i:zt w B e c v n xs){p:Addr}(q:V p.block≠zx v)(s:Y):zt (w.setCell p s) B e c v n xs:=by
 obtain⟨b,⟨rfl,j⟩|⟨g,d,f,rfl,k,m,r⟩⟩:=i
 .exact⟨b,yz ⟨rfl,j⟩⟩
 refine⟨b,zc ⟨g,d,f,rfl,k,?_,r⟩⟩;rw[heap_setCell_other _ _ _ _ (λe=>q (by simp[zx,e])),m]
section
variable {F:Fence}{n:Nat}{P:Program}{md:Region.Mode}{Q:Exit->Act->U->Prop}{l1 l2:List Oper}{C:U->Prop}{Q1:Act->Prop}
def aBb(md:Region.Mode)(b:List Oper):Nat->Nat->Nat->Bool
 |0,_,_=>false
 |f+1,j,i=>match b[j]? with
  |none=>false
  |some o=>o.after.any λe=>z0 md e && (e.on==i || aBb md b f e.on i)
def wV(md:Region.Mode)(l1 l2:List Oper):Bool:=
 ((yp (Z l1)).all λb=>match l1[b]? with
  |none=>true
  |some o=>(o.after.all λe=>!z0 md e || decide (e.on<b)) && (match o.guard with|none=>true|some g=>decide (g.1<Z l1))) &&
 ((yp (Z l2)).all λd=>(yp (Z l1)).all λc=>aBb md (l1++l2) (Z l1+Z l2) (Z l1+d) c)
theorem aGw(d:wV md l1 l2=zu){c:Nat}{o:Oper}(f:l1[c]?=V o):(∀e∈o.after,z0 md e=zu->e.on<c)/\∀b,o.guard=V b->b.1<Z l1:=by grind[wV,Array.all_eq_true_iff_forall_mem,ys,List.getElem?_eq_some_iff]
theorem aZe(d:wV md l1 l2=zu){b c:Nat}(g:Z l1<=b)(i:b<Z l1+Z l2)(f:c<Z l1):aBb md (l1++l2) (Z l1+Z l2) b c=true:=by simp only[wV,z9,ys,List.mem_range]at d;have:=d.2 (b-Z l1) (by omega) c f;grind
def aNa(md:Region.Mode)(d:List Oper)(b:Array Bool):Prop:=∀c o,d[c]?=V o->b.getD c zr=zu->∀e∈o.after,z0 md e=zu->b.getD e.on zr=zu
theorem aNb{d:List Oper}{g:Array Bool}(i:aNa md d g):∀(f c b:Nat),aBb md d f c b=zu->(∀o,d[c]?=V o->∀e∈o.after,z0 md e=zu->g.getD e.on zr=zu)->g.getD b zr=zu
 |0,_,_,h,_=>by cases h
 |f+1,c,b,h,hd=>by
  unfold aBb at h;cases ho:d[c]? with
  |none=>rw[ho]at h;cases h
  |some o=>
   rw[ho]at h;simp only[Array.any_eq_true',z9,Bool.or_eq_true,beq_iff_eq]at h;obtain⟨e,m,k,hr⟩:=h;have j:=hd o ho e m k;rcases hr with rfl|hr
   .exact j
   exact aNb i f e.on b hr (λq p=>i e.on q p j)
structure uY(md:Region.Mode)(l1 l2:List Oper)(L' L:Array Bool):Prop where
 s1:L'.size=Z l1
 s2:L.size=Z l1+Z l2
 same:∀j (h1:j<L'.size) (h2:j<L.size),L[j]=L'[j]
 rest:∀j (h:j<L.size),Z l1<=j->L[j]=zr
 closed:aNa md (l1++l2) L
theorem zP{b:Array Bool}{c:Nat}(f:c<b.size)(d:Bool):b.getD c d=b[c]:=by simp[f]
theorem uY.get{f d:Array Bool}(c:uY md l1 l2 f d){b:Nat}(i:b<Z l1)(g:Bool):d.getD b g=f.getD b g:=by rw[zP (by rw[c.s2];omega),zP (by rw[c.s1];omega)];exact c.same b _ _
theorem aGx{b:Nat}(c:b<Z l1):(l1++l2)[b]?=l1[b]?:=z4 c
theorem aNc{g:Array Oper}:∀(f:Nat) (c:Array Bool) (a:Act) (w:U),wpAnyIn F n P md g Q f c a w->wpAnyIn F n P md g Q (f+1) c a w
 |0,_,_,_,h=>⟨λ_=>h.2,λd b=>by rw[h.1]at b;cases b⟩
 |f+1,_,_,_,h=>⟨h.1,λd b=>wpOpIn_mono (λa w i=>aNc f _ a w i) (h.2 d b)⟩
theorem aNd{f:Array Oper}{c:Nat}{b:Array Bool}{a:Act}{w:U}(d:wpAnyIn F n P md f Q c b a w):∀k,wpAnyIn F n P md f Q (k+c) b a w
 |0=>by rw[Nat.zero_add];exact d
 |k+1=>by rw[yv];exact aNc _ _ _ _ (aNd d k)
theorem aZf(c:wV md l1 l2=zu){j:Nat}{o:Oper}(i:l1[j]?=V o)(b:Array Y):z6 o (yielded (l1++l2).toArray b)=z6 o (yielded l1.toArray b):=by
 have d:=(aGw c i).2;unfold z6;cases hq:o.guard with
 |none=>rfl
 |some g=>
  obtain⟨k,m⟩:=g;have f:k<Z l1:=d _ hq;simp only[yielded,zi,aGx (l2:=l2) f]
theorem uY.set{g b:Array Bool}(c:uY md l1 l2 g b){f:Nat}(A:f<Z l1)(y:f∈zj md (l1++l2).toArray b):uY md l1 l2 (g.setIfInBounds f zu) (b.setIfInBounds f zu):=by
 refine⟨by simpa using c.s1,by simpa using c.s2,λj k m=>?_,λj d u=>?_,λj o x d e s r=>?_⟩
 .have p:j<g.size:=by simpa using k
  have q:j<b.size:=by simpa using m
  rw[zh (by simpa using m),zh (by simpa using k)];split
  .rfl
  exact c.same j p q
 .have t:j<b.size:=by simpa using d
  rw[zh (by simpa using d),aS (by omega)];exact c.rest j t u
 refine getD_set_true ?_;by_cases i:f=j
 .subst i;obtain⟨_,E,D,z⟩:=mem_ready.1 y;grind
 rw[getD_set_ne zr i]at d;exact c.closed j o x d e s r
theorem aZg{o:Oper}{K:Act->Prop}{j:Act->U->Prop}{k:Exit->Act->U->Prop}(y:o.semAt F.round a.eval=execOp a.eval o)(d:C w)(g:∀a c,C c->K a->j a c)
  (p:o.askedIn F P a C) (x:o.quietIn F n P a C K):o.wpIn F n P a w j k:=by
 obtain⟨v,m,i⟩:=x;have b:=m w d;unfold Oper.quietAtIn at b;refine⟨p w d,?_⟩;rw[y];revert b;generalize (execOp a.eval o).run P w=r;intro b;match r,b with
 | .ok (.value u) c,b=>
  obtain⟨rfl,rfl⟩:=b;exact g _ _ d i
 | .ok .skip c,b=>
  obtain⟨rfl,rfl⟩:=b;exact g _ _ d i
 | .ok (.enter f args) c,b=>
  obtain⟨rfl,s,q⟩:=b;exact⟨s,q.mono λe A t=>by
   obtain⟨rfl,z⟩:=t;exact g _ _ z i⟩
theorem aZh(a5:∀o∈l1,∀S,o.semAt F.round S=execOp S o)(u:wV md l1 l2=zu)
  (I:∀a w,C w->Q1 a->wpAnyIn F n P md (l1++l2).toArray Q (Z l2) ((zs (Z l1) zu++zs (Z l2) zr).toArray) a w):∀(s:Nat) (b d:Array Bool) (a:Act) (w:U),uY md l1 l2 b d->C w->wpAnyQIn F n P md l1.toArray C Q1 s b a->wpAnyIn F n P md (l1++l2).toArray Q (s+Z l2) d a w:=by
 have a0:∀(b d:Array Bool),uY md l1 l2 b d->zj md l1.toArray b=[]->∀f,f<Z l1->b.getD f zu=true:=by
  intro b d c j f;induction f using Nat.strongRecOn with
  |_ f ih=>
   intro r;cases hx:b.getD f zu with
   |true=>rfl
   |false=>
    have:f∈zj md l1.toArray b:=by refine mem_ready.2 ⟨hx,l1[f],by simp[r],λe y x=>?_⟩;have a4:=(aGw u (ze r)).1 e y x;have:=ih e.on a4 (by omega);rw[zP (by rw[c.s1];omega)]at this ⊢;exact this
    rw[j]at this;cases this
 have M:∀(b d:Array Bool),uY md l1 l2 b d->zj md l1.toArray b=[]->d=(zs (Z l1) zu++zs (Z l2) zr).toArray:=by
  intro b d c j;refine Array.ext (by simp[c.s2]) (λf H _=>?_);by_cases r:f<Z l1
  .have:=a0 b d c j f r;rw[zP (by rw[c.s1];omega)]at this;rw[c.same f (by rw[c.s1];omega) H,this];simp[r]
  rw[c.rest f H (by omega)];simp[List.getElem_append,r]
 have R:∀(b d:Array Bool),uY md l1 l2 b d->∀i,i<Z l1->(i∈zj md (l1++l2).toArray d↔i∈zj md l1.toArray b):=by intro b d c i p;rw[mem_ready,mem_ready,c.get p zu];simp only[zi,aGx (l2:=l2) p];refine and_congr Iff.rfl (exists_congr λo=>and_congr_right λk=>forall_congr' λe=>forall_congr' λy=>forall_congr' λx=>?_);rw[c.get (by have:=(aGw u k).1 e y x;omega) zr]
 intro s;induction s with
 |zero=>
  intro b d a w c m t;rw[Nat.zero_add,M b d c t.1];exact I a w m t.2
 |succ s ih=>
  intro b d a w c m t;by_cases j:zj md l1.toArray b=[]
  .rw[M b d c j];exact aNd (I a w m (t.1 j)) _
  obtain⟨G,z⟩:=List.exists_mem_of_ne_nil _ j;have A:G<Z l1:=by
   obtain⟨_,o,k,_⟩:=mem_ready.1 z;simpa using(bA k)
  rw[yv];refine⟨λW=>?_,λi p=>?_⟩
  .have:=(R b d c G A).2 z;rw[W]at this;cases this
  by_cases q:i<Z l1
  .have a2:=(R b d c i q).1 p;have g:=t.2 i a2;have J:=c.set q p;unfold qOpIn at g;unfold wpOpIn;simp only[zi,aGx (l2:=l2) q]at g ⊢;rw[ze q]at g ⊢;simp only at g ⊢;rw[aZf u (ze q)];obtain⟨L,g⟩:=g;split
   .rename_i E;simp only[E,if_true]at g;exact aZg (a5 _ (yt q) _) m (λT a6 X hK=>ih _ _ T a6 J X hK) L g
   rename_i E;simp only[E]at g;exact⟨L w m,ih _ _ _ w J m g⟩
  exfalso;obtain⟨_,o,k,a1⟩:=mem_ready.1 p;have a3:i<Z l1+Z l2:=by simpa using(bA k)
  have:=aNb c.closed _ i G (aZe u (by omega) a3 A) (λa7 N=>by
   simp only[zi]at k;rw[k]at N;cases N;exact a1)
  rw[c.get A zr]at this;have D:=(mem_ready.1 z).1;rw[zP (by rw[c.s1];omega)]at this D;rw[this]at D;cases D
theorem aZi(b c:Nat):(za b zr).getD c zr=false:=by unfold Array.getD;split<;>simp
theorem aGy{u:Nat}{g:Array Oper}(l1 l2:List Oper)(r:g=(l1++l2).toArray)(t:∀o∈l1,∀i,o.semAt F.round i=execOp i o)(q:P.follows .mixedOrders=zu)(p:wV .any l1 l2=zu)(c:yq .any l1.toArray=zu)
  (j:wpQuietIn F n P l1.toArray (λb=>∃n,b=w.drewN n) (λd=>∀b,(∃n,b=w.drewN n)->wpAnyIn F n P .any (l1++l2).toArray Q (Z l2) ((zs (Z l1) zu++zs (Z l2) zr).toArray) d b) l1 a):(Code.region u g zu).wpIn F n P Q a w:=by
 subst r;refine wpIn_region_any q ?_;simp only[yq,z9]at c;have s:=wpAnyQIn_lex (F:=F) (n:=n) (P:=P) (C:=λb=>∃n,b=w.drewN n) (md:=.any) c.1 l1 0 (za l1.toArray.size zr) a (by simp) (by simpa using c.2) j;have:=aZh (l2:=l2) t p (λd b k m=>m b k) (Z l1) (za l1.toArray.size zr) (za (l1++l2).toArray.size zr) a (w.drewN 1) ⟨by simp,by simp,by simp,by simp,λx o _ f=>by rw[aZi]at f;cases f⟩ ⟨1,rfl⟩ s;simp only[List.size_toArray,z1]at this ⊢;exact this
theorem aNe(c:F.round=zg):∀o∈l1,∀b,o.semAt F.round b=execOp b o:=λo _ b=>by rw[c,Oper.semAt_none]
def aNf(l:List Oper):Bool:=l.all λo=>match o.op with | .defer _=>false|_=>true
theorem aZj(c:aNf l1=zu):∀o∈l1,∀b,o.semAt F.round b=execOp b o:=λo f b=>Oper.semAt_eq _ _ _ (λg d=>by
 have:=List.all_eq_true.1 c o f;rw[d]at this;cases this)
theorem aBc{x:Nat}{k:Array Oper}(l1:List Oper)(i:k=l1.toArray)(u:aNf l1=zu)(s:P.follows .mixedOrders=zu)(p:wV .any l1 []=zu)(m:yq .any l1.toArray=zu)
  (c:wpQuietIn F n P l1.toArray (λb=>∃n,b=w.drewN n) (λd=>∀b,(∃n,b=w.drewN n)->Q .normal d b) l1 a):(Code.region x k zu).wpIn F n P Q a w:=by
 refine aGy l1 [] (by rw[i,List.append_nil]) (aZj u) s p m ?_;have t:zj .any (l1++[]).toArray ((zs (Z l1) zu++zs (Z ([]:List Oper)) zr).toArray)=[]:=by
  refine List.eq_nil_iff_forall_not_mem.2 (λy q=>?_);obtain⟨j,o,i,_⟩:=mem_ready.1 q;have r:y<Z l1:=by simpa using(bA i)
  rw[zP (by simpa using r)]at j;simp at j
 have z:∀(l:List Oper) (a:Act),wpQuietIn F n P l1.toArray (λb=>∃n,b=w.drewN n) (λd=>∀b,(∃n,b=w.drewN n)->Q .normal d b) l a->wpQuietIn F n P l1.toArray (λb=>∃n,b=w.drewN n) (λd=>∀b,(∃n,b=w.drewN n)->wpAnyIn F n P .any (l1++[]).toArray Q (Z ([]:List Oper)) ((zs (Z l1) zu++zs (Z ([]:List Oper)) zr).toArray) d b) l a:=by
  intro l;induction l with
  |nil=>exact λa c b f=>wpAnyIn_done t (c b f) _
  |cons o l ih=>
   intro a c;refine⟨c.1,?_⟩;have g:=c.2;split at g
   .rename_i f;rw[aT f];exact Oper.quietIn_mono ih g
   rename_i f;rw[aS f];exact ih _ g
 exact z l1 a c
end
