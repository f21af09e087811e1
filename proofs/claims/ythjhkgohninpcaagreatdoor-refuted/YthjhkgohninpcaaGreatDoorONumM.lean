import Derived.Test.YthjhkgohninpcaaGreatDoorRefs1M
import Derived.Test.YthjhkgohninpcaaGreatDoorONum0M
import Derived.OwnWalk
open List renaming set_cons_succ→zz,replicate→zy,getElem_mem→zw,countP_cons→zv,ext_getElem?→zr,take_succ_eq_append_getElem→zq,contains_iff_mem→zo,replicate_succ→zn,mem_map→zm,getElem?_cons_succ→zh,set_append_right→zg,getD→ze
open Nat renaming le_refl→zx,mod_two_eq_zero_or_one→zk,zero_le→zj
open Or renaming inr→zt,inl→zf
namespace Go.Proofs.YthjhkgohninpcaaGreatDoor
open _root_.Go.Proofs.Tryz renaming prog→zs,underlying189→zl,underlying3→zi
open Value renaming ownBlock→zu,int→zc,bool→zb
set_option maxHeartbeats 4000000
set_option maxRecDepth 100000
open Go.RowKit Go.Shelf Go.WideMaps
variable{D:List Bool}{B g i n tp:Nat}{v:Value}{w wr:World}
def gG(v:Value):Option (DataW Unit×List MemPlace):=
 match v with
 | .int .i64 x=>some (.lit (.int .i64 x),[])
 |_=>none
structure pZ(D:DataW Unit)(sn:List Int):Prop where
 tidy:Maps.Tidy D
 size:Maps.size D=sn.length
 old:∀x,0<=eK sn x->Maps.has D (.int .i64 x)=true/\∀z,D.atKey (.int .i64 x) z=.lit (.int .i64 (eK sn x))
 new:∀x,eK sn x<0->Maps.has D (.int .i64 x)=false
theorem pZ.start:pZ (.map []) []:=⟨⟨[],rfl,by simp⟩,rfl,λb a=>by rw [aG4] at a;omega,λb _=>rfl⟩
theorem pZ.put{D:DataW Unit}{e:List Int}{x:Int}(a:pZ D e)(m:eK e x<0):pZ (D.put (.int .i64 x) (.lit (.int .i64 e.length))) (e++[x]):=by
 have j:WideAt.IsKeyLit (.int .i64 x):=trivial;refine ⟨a.tidy.put j _,?_,λy b=>?_,λy b=>?_⟩
 ·rw [Maps.size_put a.tidy,a.new x m,a.size];simp
 ·rw [yB] at b ⊢;by_cases c:x=y
  ·subst c;rw [aJ rfl];exact ⟨Maps.has_put_same a.tidy.isMap j _,λl=>Maps.atKey_put_same a.tidy.isMap j _ _⟩
  ·rw [aI c] at b ⊢;have d:(Lit.int .i64 y)≠.int .i64 x:=λf=>c (by simpa using f.symm)
   have k:=a.old y b;exact ⟨by rw [Maps.has_put_other d];exact k.1,λl=>by rw [Maps.atKey_put_other d];exact k.2 l⟩
 ·rw [yB] at b;by_cases c:x=y
  ·rw [aJ c] at b;omega
  ·rw [aI c] at b;have d:(Lit.int .i64 y)≠.int .i64 x:=λf=>c (by simpa using f.symm)
   rw [Maps.has_put_other d];exact a.new y b
theorem aDc{a:Int}(b : -1000000000<=a)(c:a<=1000000000):(Lit.int .i64 a).wf=true:=by simp [Lit.wf,IntKind.min,IntKind.max,IntKind.bits,IntKind.signed];omega
theorem aAk{b:Int}{ps:List MemPlace}(a:gG v=some (.lit (.int .i64 b),ps)):v=.int .i64 b:=by
 unfold gG at a;split at a
 ·simp at a;rw [a.1]
 ·simp at a
def oU(a:List Int)(b:Int):List Int×Int:=if eK a b<0 then (a++[b],(a.length:Int)) else (a,eK a b)
theorem aRr(g:Nat)(D:DataW Unit)(a:List Int)(b:Int)(w:World)(f:w.ownsMap zs 3 gG g a.length D)(c:pZ D a)(F:0<=b)(G:b<=1000000000)(H:a.length<=1000000):Calls zs 128 #[.map (some g),.int .i64 b] w λC u=>∃q:DataW Unit,C=.returned (.int .i64 (oU a b).2)/\u.ownsMap zs 3 gG g (oU a b).1.length q/\pZ q (oU a b).1/\w.grownBy u (some g):=by
 have j:keyOf zs 3 (.int .i64 b)=some (.int .i64 b):=Maps.keyOf_int_mk zi (aDc (by omega) (by omega));obtain ⟨v,J,t,e⟩:=f.look_ok (Maps.int_keyed zi) zl (Tryz.zeroValue3 _) (zd:=.lit (.int .i64 0)) (zp:=[]) rfl j;by_cases d:eK a b<0
 ·have l:aG (oU a b=(a++[b],(a.length:Int))):=aA (by unfold oU;rw [aJ d]);have m:=c.new b d;rw [m] at t;rw [aAj c.tidy.isMap m] at e;have p:=aAk e;subst p;have k:=aA (c.put d);have y:=aA j;have E:=aA c.size;have I:=c.size;clear e m c j d;go_enter Tryz.func128,Tryz.ntmps128;go_wp2_with (first
   |(at_len;refine wpList_len_own _ rfl _ 189 rfl 3 3 zl _ g a.length D rfl f ?_)
   |(at_mapUpdate;refine wpList_mapUpdate_own _ rfl _ _ _ 189 rfl 3 3 (Maps.int_keyed zi) zl gG g a.length D rfl f (by unfold maxLen;omega) _ _ (.int .i64 b) rfl rfl (aB y) (.lit (.int .i64 a.length)) [] ?_ ?_)
   |go_in)
  case refine_1=>rfl
  intro L s r;have z:=aA s;have x:=aA r;clear s r;go_wp2;go_ret;rw [l.o];exact ⟨_,rfl,by rw [List.length_append];exact z.o,k.o,x.o⟩
 ·have l:aG (oU a b=(a,eK a b)):=aA (by unfold oU;rw [aI d]);have o:=c.old b (by omega);rw [o.1] at t;rw [o.2] at e;have p:=aAk e;subst p;have k:=aA c;have A:=aA f;clear e o c j d f;go_enter Tryz.func128,Tryz.ntmps128;go_wp2;go_ret;rw [l.o];exact ⟨D,rfl,A.o,k.o,⟨rfl,rfl,rfl,zx _,λ_ _ _=>rfl⟩⟩
abbrev zNd:Nd:=(⟨#[]⟩,0)
abbrev tK:Lt×Value:=((false,[]),.slice none 0 0)
theorem aDd(a:Nd)(b:List Nd):aP (a::b)=.string a.1::.int .i64 a.2::aP b:=rfl
theorem aAm(a:Lt×Value)(b:List (Lt×Value)):bS (a::b)=.bool a.1.1::a.2::bS b:=rfl
theorem aRs(c:List Nd):∀(a:Nat) (b:Nd),a<c.length->((aP c).set (a*2) (.string b.1)).set (a*2+1) (.int .i64 b.2)=aP (c.set a b):=by
 induction c with
 |nil=>intro a b d;simp at d
 |cons y r ih=>
  intro a b d;cases a with
  |zero=>rfl
  |succ a=>
   have:=ih a b (by simpa using d);rw [show (a+1)*2=a*2+1+1 by omega,zz,aDd,aDd,zz,zz,zz,zz,this]
theorem aRt(c:List (Lt×Value)):∀(a:Nat) (b:Lt×Value),a<c.length->((bS c).set (a*2) (.bool b.1.1)).set (a*2+1) b.2=bS (c.set a b):=by
 induction c with
 |nil=>intro a b d;simp at d
 |cons y r ih=>
  intro a b d;cases a with
  |zero=>rfl
  |succ a=>
   have:=ih a b (by simpa using d);rw [show (a+1)*2=a*2+1+1 by omega,zz,aAm,aAm,zz,zz,zz,zz,this]
theorem aHw{e:Type}(a:List e)(d c:e)(b:Nat)(f:a.length<b):(a++zy (b-a.length) d).set a.length c=(a++[c])++zy (b-(a.length+1)) d:=by rw [show b-a.length=(b-(a.length+1))+1 by omega,zn,zg _ _ (zx _)];simp
theorem aRu(n:Nat):∀j,(aP (zy n zNd))[j]?=if j<n*2 then some (if j % 2=0 then .string ⟨#[]⟩ else .int .i64 0) else none:=by
 induction n with
 |zero=>intro j;simp [aP]
 |succ n ih=>
  intro j;rw [zn,aDd];match j with
  |0=>simp
  |1=>simp;omega
  |j+2=>
   simp only [zh];rw [ih j];have b:(j+2) % 2=j % 2:=by omega
   rw [b];by_cases a:j<n*2
   ·rw [aJ a,aJ (show j+2<(n+1)*2 by omega)]
   ·rw [aI a,aI (show ¬j+2<(n+1)*2 by omega)]
theorem aRv(n:Nat):∀j,(bS (zy n tK))[j]?=if j<n*2 then some (if j % 2=0 then .bool false else .slice none 0 0) else none:=by
 induction n with
 |zero=>intro j;simp [bS]
 |succ n ih=>
  intro j;rw [zn,aAm];match j with
  |0=>simp
  |1=>simp;omega
  |j+2=>
   simp only [zh];rw [ih j];have b:(j+2) % 2=j % 2:=by omega
   rw [b];by_cases a:j<n*2
   ·rw [aJ a,aJ (show j+2<(n+1)*2 by omega)]
   ·rw [aI a,aI (show ¬j+2<(n+1)*2 by omega)]
theorem aRw(n:Nat):(madeCells #[.string ⟨#[]⟩,.int .i64 0] (n*2)).toList=aP (zy n zNd):=by
 apply zr;intro b;rw [aRu];by_cases a:b<n*2
 ·rw [aJ a];rcases zk b with h|h<;>simp [madeCells,a,h]
 ·rw [aI a];simp [madeCells];omega
theorem aRx(n:Nat):(madeCells #[.bool false,.slice none 0 0] (n*2)).toList=bS (zy n tK):=by
 apply zr;intro b;rw [aRv];by_cases a:b<n*2
 ·rw [aJ a];rcases zk b with h|h<;>simp [madeCells,a,h]
 ·rw [aI a];simp [madeCells];omega
theorem aHx{c:TypeId}{k:Nat}{b j:Nat}{l:List Value}{D:DataW Unit}(d:w.ownsRow B c k v n l)(f:w.ownsMap zs 3 gG b j D):v.ownBlock≠some b:=by
 obtain ⟨q,o,e,_⟩:=f;obtain ⟨_,⟨rfl,_⟩|⟨g,m,p,rfl,_,a,_⟩⟩:=d
 ·simp [zu]
 ·simp [zu];rintro rfl;rw [e] at a;simp at a
theorem rX{a:TypeId}{c:Nat}{d:List Value}(j:w.ownsRow B a c v n d){p:Addr}(o:some p.block≠v.ownBlock)(r:Value):(w.setCell p r).ownsRow B a c v n d:=by
 obtain ⟨b,⟨rfl,k⟩|⟨g,e,f,rfl,l,m,q⟩⟩:=j
 ·exact ⟨b,zf ⟨rfl,k⟩⟩
 ·refine ⟨b,zt ⟨g,e,f,rfl,l,?_,q⟩⟩;rw [heap_setCell_other _ _ _ _ (λa=>o (by simp [zu,a])),m]
structure Rw where
 node:Nd
 cls:Nat
 parts:List Nat
def fT(P:List (Rw×Value)):List Value:=P.flatMap λa=>[.string a.1.node.1,.int .i64 a.1.node.2,a.2,.int .i64 a.1.cls]
theorem wO(a:Rw×Value)(b:List (Rw×Value)):fT (a::b)=.string a.1.node.1::.int .i64 a.1.node.2::a.2::.int .i64 a.1.cls::fT b:=rfl
theorem aRy(b:List (Rw×Value)):∀a (c:a<b.length),(fT b)[a*4]?=some (.string b[a].1.node.1)/\(fT b)[a*4+1]?=some (.int .i64 b[a].1.node.2)/\(fT b)[a*4+2]?=some b[a].2/\(fT b)[a*4+3]?=some (.int .i64 b[a].1.cls):=by
 induction b with
 |nil=>intro a c;simp at c
 |cons x r ih=>
  intro a c;cases a with
  |zero=>simp [wO]
  |succ a=>
   have:=ih a (by simpa using c);rw [wO,show (a+1)*4=a*4+1+1+1+1 by omega];simpa [show a*4+1+1+1+1+1=(a*4+1)+1+1+1+1 by omega,show a*4+1+1+1+1+2=(a*4+2)+1+1+1+1 by omega,show a*4+1+1+1+1+3=(a*4+3)+1+1+1+1 by omega] using this
theorem aRz(b:List (Rw×Value)):∀(a:Nat) (d:a<b.length) (c:Nat),(fT b).set (a*4+3) (.int .i64 c)=fT (b.set a ({b[a].1 with cls:=c},b[a].2)):=by
 induction b with
 |nil=>intro a d;simp at d
 |cons x r ih=>
  intro a d c;cases a with
  |zero=>rfl
  |succ a=>
   have:=ih a (by simpa using d) c;rw [show (a+1)*4+3=a*4+3+1+1+1+1 by omega,zz,wO,wO,zz,zz,zz,zz,this];rfl
structure cU(w:World)(B tp:Nat)(v:Value)(P:List (Rw×Value)):Prop where
 box:w.heap[tp]?=some (.cells #[v] 181)
 high:B<=tp
 row:w.ownsRow B 206 4 v P.length (fT P)
 parts:∀p∈P,w.ownsRow B 3 1 p.2 p.1.parts.length (p.1.parts.map λx:Nat=>zc .i64 x)
theorem cU.cell{P:List (Rw×Value)}(a:cU w B tp v P):w.cell? ⟨tp,0,none⟩=some v:=by simp [World.cell?,a.box]
theorem cU.soft{a:List (Rw×Value)}(b:cU w B tp v a):w.frozen? ⟨tp,0,none⟩=false:=by simp [World.frozen?,b.box]
theorem cU.drewN{P:List (Rw×Value)}(a:cU w B tp v P)(d:Nat):cU (w.drewN d) B tp v P:=⟨a.box,a.high,a.row,a.parts⟩
theorem cU.shape{P:List (Rw×Value)}(d:cU w B tp v P):∃a cap,v=.slice a P.length cap/\∀k (d:k<P.length),∃g,a=some ⟨g,0,none⟩/\w.cell? ⟨g,k*4,none⟩=some (.string P[k].1.node.1)/\w.cell? ⟨g,k*4+1,none⟩=some (.int .i64 P[k].1.node.2)/\w.cell? ⟨g,k*4+2,none⟩=some P[k].2/\w.cell? ⟨g,k*4+3,none⟩=some (.int .i64 P[k].1.cls):=by
 obtain ⟨m,⟨rfl,o⟩|⟨g,cap,j,rfl,p,r,q,s,u,t⟩⟩:=d.row
 ·exact ⟨none,0,by rw [o],λk e=>by omega⟩
 ·have b:w.ownsRow B 206 4 (.slice (some ⟨g,0,none⟩) P.length cap) P.length (fT P):=⟨m,zt ⟨g,cap,j,rfl,p,r,q,s,u,t⟩⟩;refine ⟨_,_,rfl,λk e=>⟨g,rfl,?_⟩⟩;obtain ⟨a,f,c,l⟩:=aRy P k e;refine ⟨?_,?_,?_,?_⟩
  ·rw [b.cellAt _ (by omega),a]
  ·rw [b.cellAt _ (by omega),f]
  ·rw [b.cellAt _ (by omega),c]
  ·rw [b.cellAt _ (by omega),l]
def aHy(a:List (Rw×Value))(c:Nat)(d:Int):Prop:=(d=-1/\∀i (b:i<a.length),¬(a[i].1.cls=c/\aM a[i].1.node=false))\/∃b:Nat,d=b/\∃e:b<a.length,a[b].1.cls=c/\aM a[b].1.node=false
theorem aHz(B tp:Nat)(v:Value)(b:List (Rw×Value))(e:Nat)(w:World)(c:cU w B tp v b)(O:b.length<=1000000):Calls zs 158 #[.pointer (some ⟨tp,0,none⟩),.int .i64 e] w λC I=>∃x:Int,C=.returned (.int .i64 x)/\aHy b e x/\∃d,I=w.drewN d:=by
 obtain ⟨J,L,rfl,r⟩:=c.shape;have N:=c.cell;have y:=aA r;clear r c;go_enter Tryz.func158,Tryz.ntmps158;go_wp2;go_loopw [5] (λi wr=>∃a:Nat,a<=b.length/\i=.int .i64 a/\(∀i (c:i<a) (k:i<b.length),¬(b[i].1.cls=e/\aM b[i].1.node=false))/\∃d,wr=w.drewN d) (λi _=>b.length-(intOf i).toNat);case atStart=>exact ⟨0,zj _,rfl,λi c=>by omega,0,rfl⟩
 case round=>
  obtain ⟨a,P,rfl,l,d,rfl⟩:=hrel;by_cases t:a<b.length
  ·have G:(a:Int)<(b.length:Int):=by omega
   obtain ⟨g,rfl,p,E,F,q⟩:=y.o a t;have f:=aA l;have A:=aA (show ∀S:Bool,(b[a].1.cls=e/\aM b[a].1.node=false)\/¬(b[a].1.cls=e/\aM b[a].1.node=false) from λ_=>Classical.em _);clear l E F A;have z:=aA (show b[a]=b[a] from rfl);generalize hpk:b[a]=pk at p q;obtain ⟨⟨⟨H,T⟩,o,Q⟩,R⟩:=pk;simp only at p q;have j:=aA hpk;clear hpk z;by_cases s:o=e
   ·subst s;by_cases u:H.toList.isEmpty=true
    ·go_wp2;go_roundw;case rel=>
      refine ⟨a+1,by omega,by go_num,λi c k=>?_,d,rfl⟩;by_cases m:i<a
      ·exact f.o i m k
      ·have:i=a:=by omega
       subst this;rw [j.o];simp [aM,u]
     case measure=>simp [intOf];omega
    ·go_wp2;go_ret;exact ⟨_,rfl,zt ⟨a,rfl,t,by rw [j.o],by rw [j.o];simpa [aM] using u⟩,d,rfl⟩
   ·have M:¬((o:Int)=(e:Int)):=by omega
    go_wp2;go_roundw;case rel=>
     refine ⟨a+1,by omega,by go_num,λi c k=>?_,d,rfl⟩;by_cases m:i<a
     ·exact f.o i m k
     ·have:i=a:=by omega
      subst this;rw [j.o];simp [s]
    case measure=>simp [intOf];omega
  ·have G:¬((a:Int)<(b.length:Int)):=by omega
   have f:=aA l;clear l;go_wp2;go_ret;exact ⟨_,rfl,zf ⟨rfl,λi c=>f.o i (by omega) c⟩,d,rfl⟩
def lY(b c:Nat)(a:Rw×Value):Rw×Value:=if a.1.cls=c then ({a.1 with cls:=b},a.2) else a
def gH(a:List (Rw×Value))(b c:Nat):List (Rw×Value):=a.map (lY b c)
def kW(P:List (Rw×Value))(b c a:Nat):List (Rw×Value):=(P.take a).map (lY b c)++P.drop a
theorem aS0(P:List (Rw×Value))(a b:Nat):kW P a b 0=P:=by simp [kW]
theorem aS1(a:List (Rw×Value))(b c:Nat):kW a b c a.length=gH a b c:=by simp [kW,gH]
theorem aS2(P:List (Rw×Value))(b c a:Nat):(kW P b c a).length=P.length:=by simp [kW];omega
theorem aS3(P:List (Rw×Value))(b c a:Nat)(d:a<P.length)(e:a<(kW P b c a).length):(kW P b c a)[a]=P[a]:=by simp [kW,Nat.min_eq_left (Nat.le_of_lt d)]
theorem aS4(b:List (Rw×Value))(d e a:Nat)(c:a<b.length):kW b d e (a+1)=(kW b d e a).set a (lY d e b[a]):=by unfold kW;rw [zq c,List.drop_eq_getElem_cons c,List.map_append,zg _ _ (by simp;omega)];simp only [List.length_map,List.length_take,Nat.min_eq_left (Nat.le_of_lt c),Nat.sub_self,List.set_cons_zero,List.map_cons,List.map_nil,List.append_assoc,List.cons_append,List.nil_append]
theorem wP(b c:Nat)(a:Rw×Value):(lY b c a).2=a.2/\(lY b c a).1.parts=a.1.parts/\(lY b c a).1.node=a.1.node:=by unfold lY;split<;>simp
theorem aI0(a:List (Rw×Value))(c:Nat):gH a c c=a:=by
 unfold gH;rw [List.map_congr_left (g:=id)]
 ·simp
 ·intro d _;unfold lY;split
  ·rename_i b;obtain ⟨⟨n,e,f⟩,v⟩:=d;simp at b;subst b;rfl
  ·rfl
theorem cU.ne{c:List (Rw×Value)}(b:cU w B tp v c):v.ownBlock≠some tp:=by
 obtain ⟨_,⟨rfl,_⟩|⟨g,e,f,rfl,a,d,_⟩⟩:=b.row
 ·simp [zu]
 ·simp [zu];rintro rfl;have a:=b.box;rw [d] at a;simp at a
theorem cU.cls{cap:Nat}{P:List (Rw×Value)}(a:cU w B tp (.slice (some ⟨g,0,none⟩) P.length cap) P)(k:Nat)(o:k<P.length)(c:Nat):cU (w.setCell ⟨g,k*4+3,none⟩ (.int .i64 c)) B tp (.slice (some ⟨g,0,none⟩) P.length cap) (P.set k ({P[k].1 with cls:=c},P[k].2)):=by
 have f:=a.ne;simp [zu] at f;refine ⟨?_,a.high,?_,?_⟩
 ·rw [heap_setCell_other _ _ _ _ (by simpa using λe=>f e.symm),a.box]
 ·have r:=(a.row.stored (k*4+3) (.int .i64 c)).1;rw [aRz P k o c] at r;simpa using r
 ·intro p d;have l:∀b∈P,(w.setCell ⟨g,k*4+3,none⟩ (.int .i64 c)).ownsRow B 3 1 b.2 b.1.parts.length (b.1.parts.map λx:Nat=>zc .i64 x):=λb j=>
   rX (a.parts b j) (by
    rcases bW (a.parts b j) a.row (by decide) with e|e
    ·rw [e];simp
    ·exact λm=>e (by rw [<-m];rfl)) _
  rcases List.mem_or_eq_of_mem_set d with d|rfl
  ·exact l p d
  ·exact l P[k] (zw _)
theorem cU.frozen{cap:Nat}{P:List (Rw×Value)}(a:cU w B tp (.slice (some ⟨g,0,none⟩) P.length cap) P)(j:Nat):w.frozen? ⟨g,j,none⟩=false:=a.row.frozenAt j
theorem aI1(B tp:Nat)(v:Value)(a:List (Rw×Value))(e f:Nat)(Z:e<a.length)(a0:f<a.length)(w:World)(m:cU w B tp v a)(b6:a.length<=1000000):Calls zs 156 #[.pointer (some ⟨tp,0,none⟩),.int .i64 e,.int .i64 f] w λY S=>Y=.returned (.bool (decide (a[e].1.cls≠a[f].1.cls)))/\cU S B tp v (gH a a[e].1.cls a[f].1.cls)/\w.grownBy S v.ownBlock:=by
 obtain ⟨c0,s,rfl,t⟩:=m.shape;have b4:=m.cell;obtain ⟨g,rfl,A,C,E,a8⟩:=t e Z;obtain ⟨b0,P,F,a4,a5,a9⟩:=t f a0;clear A C E F a4 a5;simp at P;subst P;have b2:(e:Int)<(a.length:Int):=by omega
 have b3:(f:Int)<(a.length:Int):=by omega
 generalize a[e].1.cls=x at *;generalize a[f].1.cls=y at *;have H:=aA m;clear m t;by_cases a3:x=y
 ·subst a3;have V:=aA (aI0 a x);go_enter Tryz.func156,Tryz.ntmps156;go_wp2;go_ret;exact ⟨bM (by simp),by rw [V.o];exact H.o,⟨rfl,rfl,rfl,zx _,λ_ _ _=>rfl⟩⟩
 ·have b9:¬((x:Int)=(y:Int)):=by omega
  go_enter Tryz.func156,Tryz.ntmps156;go_wp2;go_loopw [9] (λi wr=>∃b:Nat,b<=a.length/\i=.int .i64 b/\cU wr B tp (.slice (some ⟨g,0,none⟩) a.length s) (kW a x y b)/\w.grownBy wr (some g)) (λi _=>a.length-(intOf i).toNat);case atStart=>exact ⟨0,zj _,rfl,by rw [aS0];exact H.o,⟨rfl,rfl,rfl,zx _,λ_ _ _=>rfl⟩⟩
  case round=>
   obtain ⟨b,b8,rfl,d,p⟩:=hrel;have a6:=d.cell;have q:=aS2 a x y b;by_cases Q:b<a.length
   ·have a2:(b:Int)<(a.length:Int):=by omega
    obtain ⟨c1,a7,I,L⟩:=d.shape;obtain ⟨b1,rfl,A,C,E,J⟩:=L b (by omega);simp at I;obtain ⟨rfl,F,rfl⟩:=I;clear A C E F;have o:=aS3 a x y b Q (by omega);rw [o] at J;have u:=cU.cls (P:=kW a x y b) (cap:=s) (by rw [q];exact d) b (by omega) x;rw [o,q] at u;have b7:=cU.frozen (P:=kW a x y b) (cap:=s) (by rw [q];exact d) (b*4+3);have z:=aS4 a x y b Q;have r:=aA d;have T:=aA u;have l:=aA p;have N:∀c,a[b].1.cls=c->c=y->lY x y a[b]=({a[b].1 with cls:=x},a[b].2):=λc j k=>by unfold lY;rw [aJ (j.trans k)]
    have M:∀c,a[b].1.cls=c->c≠y->lY x y a[b]=a[b]:=λc j k=>by unfold lY;rw [aI (by rw [j];exact k)]
    have U:=aA N;have R:∀c,a[b].1.cls=c->c≠y->kW a x y (b+1)=kW a x y b:=λc j k=>by rw [z,M c j k,<-o,List.set_getElem_self]
    have W:=aA R;have X:=aA z;generalize hcl':a[b].1.cls=cl at J;have G:=aA hcl';clear d u p N M R z o hcl' L q;by_cases O:cl=y
    ·subst O;go_wp2;go_roundw;case rel=>
      refine ⟨b+1,by omega,by go_num,?_,l.o.trans (bX _ _ _)⟩;rw [X.o,U.o _ G.o rfl];exact T.o
     case measure=>simp [intOf];omega
    ·have b5:¬((cl:Int)=(y:Int)):=by omega
     go_wp2;go_roundw;case rel=>
      refine ⟨b+1,by omega,by go_num,?_,l.o⟩;rw [W.o _ G.o O];exact r.o
     case measure=>simp [intOf];omega
   ·have a2:¬((b:Int)<(a.length:Int)):=by omega
    have a1:b=a.length:=by omega
    rw [a1,aS1] at d;have r:=aA d;have l:=aA p;clear d p;go_wp2;go_ret;exact ⟨bM (by simp),r.o,l.o⟩
abbrev Tb:=List (Rw×Value)
def bC(a:Tb):Gr:=⟨λi=>if h:i<a.length then a[i].1.node else (⟨#[]⟩,0),λi=>if h:i<a.length then a[i].1.parts else []⟩
def bI(a:Tb)(i b:Nat):Prop:=i=b\/∃(c:i<a.length) (d:b<a.length),a[i].1.cls=a[b].1.cls
structure hH(P:Tb):Prop where
 parts:∀i (h:i<P.length),∀q∈P[i].1.parts,q<P.length
 cls:∀i (h:i<P.length),P[i].1.cls<P.length
 ary:∀i (h:i<P.length),aM P[i].1.node=false->(P[i].1.parts.length:Int)=P[i].1.node.2
theorem lZ(a:Tb)(b c:Nat):(gH a b c).length=a.length:=by simp [gH]
theorem oV(a:Tb)(b c i:Nat)(d:i<a.length)(e:i<(gH a b c).length):(gH a b c)[i]=lY b c a[i]:=by simp [gH]
theorem aI2(b:Tb)(c d:Nat):bC (gH b c d)=bC b:=by
 unfold bC;congr 1
 ·funext i
  by_cases a:i<b.length
  ·simp only [lZ,dif_pos a,oV b c d i a,(wP c d _).2.2]
  ·simp only [lZ,dif_neg a]
 ·funext i
  by_cases a:i<b.length
  ·simp only [lZ,dif_pos a,oV b c d i a,(wP c d _).2.1]
  ·simp only [lZ,dif_neg a]
theorem qA{b:Tb}(a:(bC b).named i):∃a:i<b.length,aM b[i].1.node=false:=by
 unfold Gr.named bC at a;simp only at a;by_cases c:i<b.length
 ·rw [dif_pos c] at a;exact ⟨c,a⟩
 ·rw [dif_neg c,nJ] at a;cases a
theorem nK(a:Tb)(i:Nat)(b:i<a.length):(bC a).lab i=a[i].1.node:=by simp [bC,b]
theorem qY(a:Tb)(i:Nat)(b:i<a.length):(bC a).ch i=a[i].1.parts:=by simp [bC,b]
theorem rY(b c:Nat)(a:Rw×Value):(lY b c a).1.cls=if a.1.cls=c then b else a.1.cls:=by unfold lY;split<;>simp_all
theorem hH.join{d:Tb}(e:hH d)(b c:Nat)(k:b<d.length):hH (gH d b c):=by
 refine ⟨λi a l f=>?_,λi a=>?_,λi a j=>?_⟩
 ·rw [lZ] at a ⊢;rw [oV d b c i a,(wP b c _).2.1] at f;exact e.parts i a l f
 ·rw [lZ] at a ⊢;rw [oV d b c i a,rY];split
  ·exact k
  ·exact e.cls i a
 ·have m:=a;rw [lZ] at a;rw [oV d b c i a,(wP b c _).2.2] at j ⊢;rw [(wP b c _).2.1];exact e.ary i a j
theorem hH.arity{a:Tb}(f:hH a):(bC a).Arity:=by intro i d k l e;obtain ⟨b,m⟩:=qA k;obtain ⟨c,o⟩:=qA l;rw [nK a i b,nK a d c] at e;rw [qY a i b,qY a d c];have j:=f.ary i b m;have p:=f.ary d c o;rw [e] at j;omega
theorem bI.refl(P:Tb)(i:Nat):bI P i i:=zf rfl
theorem bI.symm{a:Tb}{j:Nat}(e:bI a i j):bI a j i:=by
 rcases e with rfl|⟨b,c,d⟩
 ·exact zf rfl
 ·exact zt ⟨c,b,d.symm⟩
theorem bI.trans{P:Tb}{i j k:Nat}(l:bI P i j)(d:bI P j k):bI P i k:=by
 rcases l with rfl|⟨a,b,c⟩
 ·exact d
 ·rcases d with rfl|⟨m,e,f⟩
  ·exact zt ⟨a,b,c⟩
  ·exact zt ⟨a,e,c.trans f⟩
theorem bI.iff{a:Tb}{c:Nat}(d:i<a.length)(e:c<a.length):bI a i c↔a[i].1.cls=a[c].1.cls:=by
 constructor
 ·rintro (rfl|⟨_,_,b⟩)
  ·rfl
  ·exact b
 ·intro b;exact zt ⟨d,e,b⟩
theorem aI3{b:Tb}{C:Nat->Nat->Prop}(f:∀i a,bI b i a->C i a)(o:∀i a,C i a->C a i)(l:∀i a u,C i a->C a u->C i u){d v:Nat}(p:d<b.length)(r:v<b.length)(q:C d v)(i a:Nat)(x:bI (gH b b[d].1.cls b[v].1.cls) i a):C i a:=by
 rcases x with rfl|⟨j,k,c⟩
 ·exact f i i (zf rfl)
 ·rw [lZ] at j k;rw [oV _ _ _ i j,oV _ _ _ a k,rY,rY] at c;have s:b[i].1.cls=b[v].1.cls->C i v:=λc=>f i v (zt ⟨j,r,c⟩)
  have t:b[a].1.cls=b[v].1.cls->C a v:=λc=>f a v (zt ⟨k,r,c⟩)
  have y:b[i].1.cls=b[d].1.cls->C i d:=λc=>f i d (zt ⟨j,p,c⟩)
  have z:b[a].1.cls=b[d].1.cls->C a d:=λc=>f a d (zt ⟨k,p,c⟩)
  by_cases m:b[i].1.cls=b[v].1.cls
  ·by_cases e:b[a].1.cls=b[v].1.cls
   ·exact l _ _ _ (s m) (o _ _ (t e))
   ·rw [aJ m,aI e] at c;exact l _ _ _ (l _ _ _ (s m) (o _ _ q)) (o _ _ (z c.symm))
  ·by_cases e:b[a].1.cls=b[v].1.cls
   ·rw [aI m,aJ e] at c;exact l _ _ _ (l _ _ _ (y c) q) (o _ _ (t e))
   ·rw [aI m,aI e] at c;exact f i a (zt ⟨j,k,c⟩)
theorem aI4{b:Tb}{j k a:Nat}(f:bI b i a):bI (gH b j k) i a:=by
 rcases f with rfl|⟨c,d,e⟩
 ·exact zf rfl
 ·refine zt ⟨by rw [lZ];exact c,by rw [lZ];exact d,?_⟩;rw [oV _ _ _ i c,oV _ _ _ a d,rY,rY,e]
theorem aS5{a:Tb}{b v:Nat}(c:b<a.length)(d:v<a.length):bI (gH a a[b].1.cls a[v].1.cls) b v:=by refine zt ⟨by rw [lZ];exact c,by rw [lZ];exact d,?_⟩;rw [oV _ _ _ b c,oV _ _ _ v d,rY,rY,aJ rfl];split<;>rfl
structure rZ(P0:Tb)(B:Nat->Nat->Prop)(P:Tb):Prop where
 gr:bC P=bC P0
 len:P.length=P0.length
 ok:hH P
 sound:∀i j,bI P i j->Cl (bC P0) B i j
 base:∀i j,B i j->bI P i j
theorem rZ.join{c a:Tb}{B:Nat->Nat->Prop}(b:rZ c B a){u v:Nat}(d:u<a.length)(j:v<a.length)(f:Cl (bC c) B u v):rZ c B (gH a a[u].1.cls a[v].1.cls):=
 ⟨by rw [aI2,b.gr],by rw [lZ,b.len],b.ok.join _ _ (b.ok.cls u d),aI3 b.sound (λ_ _=>Cl.symm) (λ_ _ _=>Cl.trans) d j f,λi k e=>aI4 (b.base i k e)⟩
def kF(a:Tb)(i b:Nat):Prop:=∀(f:i<a.length) (j:b<a.length),a[i].1.cls=a[b].1.cls->aM a[i].1.node=false->aM a[b].1.node=false->a[i].1.node=a[b].1.node/\∀c d e:Nat,a[i].1.parts[c]?=some d->a[b].1.parts[c]?=some e->bI a d e
theorem rZ.done{k P:Tb}{B:Nat->Nat->Prop}(t:rZ k B P)(C:∀i c,c<i->i<P.length->kF P i c):(∀i j,bI P i j↔Cl (bC k) B i j)/\eS (bC k) (Cl (bC k) B):=by
 have E:∀i c,i≠c->(d:i<P.length)->(u:c<P.length)->P[i].1.cls=P[c].1.cls->aM P[i].1.node=false->aM P[c].1.node=false->P[i].1.node=P[c].1.node/\∀o p y:Nat,P[i].1.parts[o]?=some p->P[c].1.parts[o]?=some y->bI P p y:=by
  intro i c l d u A q r;by_cases I:c<i
  ·exact C i c I d d u A q r
  ·obtain ⟨a,b⟩:=C c i (by omega) u u d A.symm r q;exact ⟨a.symm,λo p y e f=>(b o y p f e).symm⟩
 have G:fH (bC k) (bI P):=by
  refine ⟨bI.refl P,λ_ _=>bI.symm,λ_ _ _=>bI.trans,λi j c o p z d s x m=>?_⟩;rw [<-t.gr] at d s x m;obtain ⟨e,q⟩:=qA d;obtain ⟨f,r⟩:=qA s;by_cases l:i=j
  ·subst l;rw [x] at m;simp at m;exact zf m
  ·rw [qY P i e] at x;rw [qY P j f] at m;exact (E i j l e f ((bI.iff e f).1 z) q r).2 c o p x m
 have F:∀i j,bI P i j↔Cl (bC k) B i j:=λi j=>⟨t.sound i j,Cl.le G t.base⟩
 refine ⟨F,λi j z d s=>?_⟩;have H:=(F i j).2 z;rw [<-t.gr] at d s ⊢;obtain ⟨e,q⟩:=qA d;obtain ⟨f,r⟩:=qA s;rw [nK P i e,nK P j f];by_cases l:i=j
 ·subst l;rfl
 ·exact (E i j l e f ((bI.iff e f).1 H) q r).1
theorem rZ.clash{c a:Tb}{B:Nat->Nat->Prop}(d:rZ c B a){i b:Nat}(e:i<a.length)(f:b<a.length)(j:a[i].1.cls=a[b].1.cls)(p:aM a[i].1.node=false)(q:aM a[b].1.node=false)(l:a[i].1.node≠a[b].1.node):¬eS (bC c) (Cl (bC c) B):=by
 intro n;have k:=d.sound i b (zt ⟨e,f,j⟩);rw [<-d.gr] at n;have m:(bC a).named i:=by show aM ((bC a).lab i)=false;rw [nK a i e];exact p
 have o:(bC a).named b:=by show aM ((bC a).lab b)=false;rw [nK a b f];exact q
 have:=n i b (by rw [d.gr];exact k) m o;rw [nK a i e,nK a b f] at this;exact l this
def yJ(n:Nat)(b:List Nat):Nat:=(List.range n).countP λa=>b.contains a
theorem aI5{k:Type}(b:List k)(c d:k->Bool)(e:∀a∈b,c a=true->d a=true)(a:k)(hx:a∈b)(l:c a=false)(m:d a=true):b.countP c<b.countP d:=by
 induction b with
 |nil=>simp at hx
 |cons y r ih=>
  have p:r.countP c<=r.countP d:=List.countP_mono_left λj f=>e j (by simp [f])
  rcases List.mem_cons.1 hx with rfl|hx
  ·rw [zv,zv,l,m];simp;omega
  ·have:=ih (λj f=>e j (by simp [f])) hx;rw [zv,zv];have o:=e y (by simp);cases hpy:c y
   ·cases d y<;>simp<;>omega
   ·rw [o hpy];simp;omega
theorem aS6{a:Tb}(o:hH a){d v:Nat}(r:d<a.length)(p:v<a.length)(m:a[d].1.cls≠a[v].1.cls):yJ a.length ((gH a a[d].1.cls a[v].1.cls).map λb=>b.1.cls)<yJ a.length (a.map λb=>b.1.cls):=by
 unfold yJ;refine aI5 _ _ _ ?_ a[v].1.cls (by simp;exact o.cls v p) ?_ ?_
 ·intro q _ f;simp only [zo,zm] at f ⊢;obtain ⟨b,e,rfl⟩:=f;obtain ⟨k,j,rfl⟩:=zm.1 e;rw [rY];split
  ·exact ⟨a[d],zw _,rfl⟩
  ·exact ⟨k,j,rfl⟩
 ·rw [<-Bool.not_eq_true];simp only [zo,zm];rintro ⟨b,e,c⟩;obtain ⟨k,j,rfl⟩:=zm.1 e;rw [rY] at c;split at c
  ·exact m c
  ·rename_i l;exact l c
 ·simp only [zo,zm];exact ⟨a[v],zw _,rfl⟩
def dn(a:Tb)(D:List Bool)(i:Nat):Bool:=match a[i]? with|some p=>D.getD p.1.cls false|none=>false
theorem yK(a:Tb)(D:List Bool)(i:Nat)(b:i<a.length):dn a D i=D.getD a[i].1.cls false:=by simp [dn,b]
def tL(a:Tb)(D:List Bool):Prop:=∀i,i<a.length->dn a D i=true->bK (bC a) (bI a) i
def aAn(a:Tb)(D:List Bool)(i:Nat):Prop:=dn a D i=true\/∃b,∃d:b<a.length,bI a i b/\aM a[b].1.node=false/\∃c∈a[b].1.parts,dn a D c=false
def yL(a:Tb):Prop:=∀i b,bI a i b->(bC a).named i->(bC a).named b->aO (bI a) ((bC a).ch i) ((bC a).ch b)
theorem aO.mem_right{j b:Type}{c:j->b->Prop}{e:List j}{f:List b}(k:aO c e f){d:b}(hb:d∈f):∃a∈e,c a d:=by
 induction k with
 |nil=>simp at hb
 |cons h1 _ ih=>
  rcases List.mem_cons.1 hb with rfl|hb
  ·exact ⟨_,by simp,h1⟩
  ·obtain ⟨a,l,m⟩:=ih hb;exact ⟨a,by simp [l],m⟩
theorem aI6{a:Tb}(o:yL a):fH (bC a) (bI a):=by
 refine ⟨bI.refl a,λ_ _=>bI.symm,λ_ _ _=>bI.trans,λi k c q r f e j b d=>?_⟩;have p:=o i k f e j;clear f e j;generalize (bC a).ch i=l at *;generalize (bC a).ch k=m at *;induction p generalizing c with
 |nil=>simp at b
 |cons h1 _ ih=>
  cases c with
  |zero=>simp at b d;subst b;subst d;exact h1
  |succ c=>exact ih c (by simpa using b) (by simpa using d)
theorem aAo{a:Tb}(b:i<a.length)(c:aM a[i].1.node=false):(bC a).named i:=by show aM ((bC a).lab i)=false;rw [nK a i b];exact c
theorem aS7{a:Tb}(f:yL a)(A:hH a){D:List Bool}(G:tL a D){i:Nat}(j:i<a.length){r:Int}(u:aHy a a[i].1.cls r)
  (s:∀b:Nat,r=b->∀c:b<a.length,∀p∈a[b].1.parts,dn a D p=true):bK (bC a) (bI a) i:=by
 refine ⟨_,λo k l p C=>?_⟩;obtain ⟨m,y⟩:=qA l;rcases u with ⟨_,z⟩|⟨b,F,c,t,H⟩
 ·exact absurd ⟨((bI.iff j m).1 k).symm,y⟩ (z o m)
 ·have x:bI a i b:=(bI.iff j c).2 t.symm;have q:=f b o (x.symm.trans k) (aAo c H) l;obtain ⟨e,d,E⟩:=q.mem_right C;rw [qY a b c] at d;exact (G e (A.parts b c e d) (s b F c e d)).same (aI6 f) E
theorem tL.set{a:Tb}(e:yL a){D:List Bool}(l:tL a D){i:Nat}(j:i<a.length)(f:bK (bC a) (bI a) i):tL a (D.set a[i].1.cls true):=by
 intro k b d;by_cases c:a[i].1.cls=a[k].1.cls
 ·exact f.same (aI6 e) ((bI.iff j b).2 c)
 ·refine l k b ?_;rw [yK _ _ _ b] at d ⊢;simpa [ze,List.getElem?_set,c] using d
theorem aS8{a:Tb}(o:hH a){D:List Bool}(k:∀i,i<a.length->aAn a D i){i:Nat}(j:bK (bC a) (bI a) i):i<a.length->dn a D i=true:=by
 induction j with
 |mk i _ ih=>
  intro l;rcases k i l with b|⟨d,c,m,p,f,e,b⟩
  ·exact b
  ·have:=ih d m (aAo c p) f (by rw [qY a d c];exact e) (o.parts d c f e);rw [this] at b;cases b
theorem aS9(D:List Bool)(a:Nat)(d:a<D.length)(c:D.getD a false=false):(D.set a true).countP (λb=>!b)<D.countP λb=>!b:=by
 induction D generalizing a with
 |nil=>simp at d
 |cons b r ih=>
  cases a with
  |zero=>
   simp [ze] at c;subst c;simp
  |succ a=>
   have:=ih a (by simpa using d) (by simpa [ze] using c);rw [zz,zv,zv];omega
theorem yM(b:w.ownsRow B 4 1 (.slice (some ⟨g,0,none⟩) n n) n (D.map zb))(d:D.length=n)(a:Nat)(c:a<D.length):w.cell? ⟨g,a,none⟩=some (.bool (D.getD a false)):=by rw [b.cellAt a (by omega)];simp [ze,c]
def aAp(w:World)(g n:Nat):List Bool:=(List.range n).map λi=>match w.cell? ⟨g,i,none⟩ with|some (.bool b)=>b|_=>false
theorem aI7(d:D.length=n)(c:∀a,a<D.length->w.cell? ⟨g,a,none⟩=some (.bool (D.getD a false))):aAp w g n=D:=by
 apply zr;intro a;by_cases b:a<n
 ·have:=c a (by omega);simp [aAp,b,this];simp [show a<D.length by omega]
 ·simp [aAp,b];omega
theorem cU.below{P:Tb}(a:cU w B tp v P)(k:aC w wr):cU wr B tp v P:=
 ⟨by rw [k.block tp (Array.getElem?_eq_some_iff.1 a.box).1,a.box],a.high,bB a.row k (zx _),λp b=>bB (a.parts p b) k (zx _)⟩
structure sA(w:World)(g n:Nat)(D:List Bool)(wr:World):Prop where
 len:D.length=n
 row:wr.ownsRow w.heap.size 4 1 (.slice (some ⟨g,0,none⟩) n n) n (D.map zb)
 low:aC w wr
theorem sA.drewN(a:sA w g n D wr)(d:Nat):sA w g n D (wr.drewN d):=⟨a.len,a.row,a.low.trans ((aL ⟨d,rfl⟩).mono a.low.size)⟩
theorem sA.set(b:sA w g n D wr)(c:w.heap.size<=g)(a:Nat):sA w g n (D.set a true) (wr.setCell ⟨g,a,none⟩ (.bool true)):=by have r:=(b.row.stored a (.bool true)).1;refine ⟨by simp [b.len],?_,b.low.setCell (by simpa using c) _⟩;rw [List.map_set];exact r
theorem aDe:(zs.info? 4).map (λi=>(i.zero,i.size,i.bytes))=some (some (.bool false),1,1):=by kernel_rfl
theorem aSa(n:Nat):(madeCells #[.bool false] (n*1)).toList=(zy n false).map zb:=by
 apply zr;intro b;by_cases a:b<n
 ·simp [madeCells,a,Nat.mod_one]
 ·simp [madeCells,a]
def wQ:Value->Nat
 | .bool true=>1
 |_=>0
def tM(a:Tb)(D:List Bool)(b:List Nat):Bool:=b.all λc=>dn a D c
theorem aSb(c:Tb)(D:List Bool)(a:List Nat)(b:Nat)(d:b<a.length):tM c D (a.take (b+1))=(tM c D (a.take b) && dn c D a[b]):=by simp only [tM,zq d,List.all_append,List.all_cons,List.all_nil,Bool.and_true]
theorem tN{a:List Nat}(e:w.ownsRow B 3 1 v a.length (a.map λx:Nat=>zc .i64 x)):∃c d,v=.slice c a.length d/\∀b (e:b<a.length),∃g,c=some ⟨g,0,none⟩/\w.cell? ⟨g,b,none⟩=some (.int .i64 a[b]):=by
 have j:w.ownsRow B 3 1 v (a.map λx:Nat=>(x:Int)).length ((a.map λx:Nat=>(x:Int)).map (zc .i64)):=by simpa [List.map_map,Function.comp_def] using e
 obtain ⟨c,d,f,m⟩:=aCp j;refine ⟨c,d,by simpa using f,λb o=>?_⟩;obtain ⟨g,k,l⟩:=m b (by simpa using o);exact ⟨g,k,by simpa using l⟩
def aSc(a:Tb)(v:Value):Prop:=∃b:Bool,v=.bool b/\(b=true↔∀i,i<a.length->bK (bC a) (bI a) i)
theorem aSd(B tp:Nat)(v:Value)(a:Tb)(w:World)(d:cU w B tp v a)(g3:a.length<=1000000)(c7:hH a)(c0:yL a)(d1:∀q∈a,q.1.parts.length<=1000000):Calls zs 157 #[.pointer (some ⟨tp,0,none⟩)] w λf h0=>∃v,f=.returned v/\aSc a v/\aC w h0:=by
 obtain ⟨g8,f5,f6,f7,f8⟩:=info_parts aDe;obtain ⟨b8,h4,rfl,_⟩:=d.shape;have h9:=d.cell;have a4:=aA d;have E:=aA c7;have b2:=aA c0;have e3:=aA d1;clear d c7 c0 d1;go_enter Tryz.func157,Tryz.ntmps157;go_wp2_with (first
  |(at_make;refine wpList_make_full _ rfl _ _ 182 rfl w.heap.size 4 g8 (.bool false) 1 Tryz.underlying182 f5 f6 f7 .i64 .i64 _ _ a.length rfl rfl rfl rfl ?m1 ?m2 ?m3 ?_)
  |go_in)
 case m1=>rw [f8];omega
 case m2=>unfold maxLen;omega
 case m3=>simp
 intro h1 a7 c4;have d8:aG (sA w w.heap.size a.length (zy a.length false) h1):=aA (by
  refine ⟨by simp,?_,(Below.refl _ _).grown c4 (zx _) (by simp)⟩;have f:=aSa a.length;rw [Nat.mul_one] at f;rw [f] at a7;exact a7)
 clear a7 c4;have e4:aG (tL a (zy a.length false)):=aA (by
  intro i N k;rw [yK _ _ _ N] at k;simp [ze,E.o.cls i N] at k)
 go_wp2;go_loopw [4] (λQ wr=>∃(j:Bool) (D:List Bool),Q=.bool j/\sA w w.heap.size a.length D wr/\tL a D/\(j=false->∀i,i<a.length->aAn a D i)) (λQ wr=>2*(aAp wr w.heap.size a.length).countP (λj=>!j)+wQ Q);case atStart=>exact ⟨true,_,rfl,d8.o,e4.o,by simp⟩
 case round=>
  obtain ⟨j,D,rfl,p,t,a5⟩:=hrel;cases j with
  |true=>
   have C:=aA p;have a3:=aA t;have J:=aA (aI7 p.len λb P=>yM p.row p.len b P);clear p t a5;rename World=>wo
   go_wp2;go_loopw [4,5] (λQ i S=>∃(j:Bool) (b:Nat) (e:List Bool),b<=a.length/\Q=.bool j/\i=.int .i64 b/\sA w w.heap.size a.length e S/\tL a e/\(j=false->e=D/\∀o,o<b->aAn a D o)/\(j=true->(e.countP λj=>!j)<D.countP λj=>!j)/\((e.countP λj=>!j)<=D.countP λj=>!j)) (λ_ i _=>a.length-(intOf i).toNat);case atStart=>exact ⟨false,0,D,zj _,rfl,rfl,C.o,a3.o,λ_=>⟨rfl,λo d=>by omega⟩,by simp,zx _⟩
   case round=>
    obtain ⟨j,b,e,P,rfl,rfl,p,t,Y,Z,a0⟩:=hrel;have y:=a4.o.below p.low;have e7:=y.cell;by_cases s:b<a.length
    ·have a6:(b:Int)<(a.length:Int):=by omega
     obtain ⟨e6,e8,L,u⟩:=y.shape;obtain ⟨g,rfl,F,G,R,f0⟩:=u b s;simp at L;obtain ⟨rfl,rfl⟩:=L;clear F G R;have g0:=E.o.cls b s;have g4:=p.len;have I:=yM p.row p.len a[b].1.cls (by omega);have c1:=yK a e b s;have b3:=λ(g2:bK (bC a) (bI a) b)=>tL.set b2.o t s g2
     have b5:=λ(d4:Int)=>aS7 (r:=d4) b2.o E.o t s
     have c3:=aS9 e a[b].1.cls (by omega);have b1:=aA u;have d5:=aA (aHz B tp _ a a[b].1.cls wr y g3);have h7:=p.row.frozenAt a[b].1.cls;have e0:=aA (show ∀(d:Nat) (z:d<a.length),a[d].1.cls=a[b].1.cls->bI a b d from λd z f=>(bI.iff s z).2 f.symm);generalize a[b].1.cls=c at *;have r:=aA p;have V:=aA t;have x:=aA Y;have T:=aA Z;have H:=aA a0;have d6:=aA c1;have b4:=aA b3;have b6:=aA b5;have d9:=aA c3;have g1:(c:Int)<(a.length:Int):=by omega
     clear p t Y Z a0 c1 b3 b5 c3 y u;cases k:e.getD c false with
     |true=>
      rw [k] at I;have d7:=aA (d6.o.trans k);clear k;go_wp2;go_roundw;case rel=>
       refine ⟨j,b+1,e,by omega,rfl,by go_num,r.o,V.o,λf=>⟨(x.o f).1,λo c5=>?_⟩,T.o,H.o⟩;by_cases O:o<b
       ·exact (x.o f).2 o O
       ·have:o=b:=by omega
        subst this;rw [<-(x.o f).1];exact zf d7.o
      case measure=>simp [intOf];omega
     |false=>
      rw [k] at I;have b7:=aA (d9.o k);have h3:=aA k;clear k;go_wp2_with (first
       |(go_at_call 158;refine (aB d5).mono ?_)
       |go_in)
      rename World=>S
      rintro f j0 ⟨d4,rfl,g7,e9,rfl⟩;rcases g7 with ⟨rfl,c6⟩|⟨d,rfl,z,u,b0⟩
      ·have a1:=aA (b6.o (-1) (zf ⟨rfl,c6⟩) (λd f=>by omega));clear c6;go_wp2;go_roundw;case rel=>
        have:=b7.o;have:=H.o;exact ⟨true,b+1,e.set c true,by omega,rfl,by go_num,(r.o.drewN e9).set (zx _) c,b4.o a1.o,by simp,λ_=>by omega,by omega⟩
       case measure=>simp [intOf];omega
      ·have i2:(d:Int)<(a.length:Int):=by omega
       obtain ⟨f3,M,F,G,f1,g9⟩:=b1.o d z;simp at M;subst M;clear F G g9;have b9:=a4.o.below r.o.low;have d0:=b9.parts a[d] (zw _);have i5:=e3.o a[d] (zw _);have c9:=E.o.parts d z;have c2:(∀q∈a[d].1.parts,dn a e q=true)->bK (bC a) (bI a) b:=λf9=>b6.o d (zt ⟨d,rfl,z,u,b0⟩) (λf4 f i3=>by
        have:d=f4:=by omega
        subst this;exact f9)
       have a1:=aA c2;clear c2;have a2:=aA (λ(q:Nat) (a8:q∈a[d].1.parts) (k:dn a e q=false)=>(zt ⟨d,z,e0.o d z u,b0,q,a8,k⟩ : aAn a e b));obtain ⟨i8,i9,d2,c8⟩:=tN d0;rw [d2] at f1;generalize a[d].1.parts=l at *;have e1:=aA c8;have e2:=aA c9;clear d0 d2 b9 c8 c9 u b0;go_wp2;go_loopw [8,9] (λb8 q h2=>∃m:Nat,m<=l.length/\q=.int .i64 m/\b8=.bool (tM a e (l.take m))/\∃W,h2=S.drewN W) (λ_ q _=>l.length-(intOf q).toNat);case atStart=>exact ⟨0,zj _,rfl,rfl,_,rfl⟩
       case round=>
        obtain ⟨m,i7,rfl,rfl,W,rfl⟩:=hrel;by_cases d3:m<l.length
        ·have g6:(m:Int)<(l.length:Int):=by omega
         obtain ⟨h8,rfl,h5⟩:=e1.o m d3;have a9:=e2.o l[m] (zw _);obtain ⟨f3,M,F,G,R,h6⟩:=b1.o l[m] a9;simp at M;subst M;have i0:=E.o.cls l[m] a9;have i4:=r.o.len;have f2:=yM r.o.row r.o.len a[l[m]].1.cls (by omega);have U:=aA (aSb a e l m d3);rw [<-yK a e l[m] a9] at f2;generalize a[l[m]].1.cls=cq at *;generalize dn a e l[m]=dq at *;generalize l[m]=pq at *;have i6:(pq:Int)<(a.length:Int):=by omega
         have i1:(cq:Int)<(a.length:Int):=by omega
         clear F G R;cases hpd:tM a e (l.take m) with
         |true=>
          rw [hpd] at U;go_wp2;go_quiet (fail);go_wp2;go_roundw;case rel=>exact ⟨m+1,by omega,by go_num,by rw [U.o];simp,by first|exact jV _ _ _|exact ⟨_,rfl⟩⟩
          case measure=>simp [intOf];omega
         |false=>
          rw [hpd] at U;go_wp2;go_quiet (fail);go_wp2;go_roundw;case rel=>exact ⟨m+1,by omega,by go_num,by rw [U.o];simp,by first|exact jV _ _ _|exact ⟨_,rfl⟩⟩
          case measure=>simp [intOf];omega
        ·have g6:¬((m:Int)<(l.length:Int)):=by omega
         have g5:m=l.length:=by omega
         rw [g5,List.take_length];cases hpd:tM a e l with
         |true=>
          have A:aG (∀q∈l,dn a e q=true):=aA (by simpa [tM] using hpd);clear hpd;go_wp2;go_roundw;case rel=>
           have:=b7.o;have:=H.o;exact ⟨true,b+1,e.set c true,by omega,rfl,by go_num,(r.o.drewN W).set (zx _) c,b4.o (a1.o A.o),by simp,λ_=>by omega,by omega⟩
          case measure=>simp [intOf];omega
         |false=>
          have A:aG (∃q∈l,dn a e q=false):=aA (by simpa [tM] using hpd);clear hpd;go_wp2;go_roundw;case rel=>
           refine ⟨j,b+1,e,by omega,rfl,by go_num,r.o.drewN W,V.o,λf=>⟨(x.o f).1,λo c5=>?_⟩,T.o,H.o⟩;by_cases O:o<b
           ·exact (x.o f).2 o O
           ·have:o=b:=by omega
            subst this;rw [<-(x.o f).1];obtain ⟨q,a8,k⟩:=A.o;exact a2.o q a8 k
          case measure=>simp [intOf];omega
    ·have a6:¬((b:Int)<(a.length:Int)):=by omega
     have r:=aA p;have V:=aA t;have x:=aA Y;have T:=aA Z;have H:=aA a0;clear p t Y Z a0 y;go_wp2;go_roundw;case rel=>exact ⟨j,e,rfl,r.o,V.o,λf i N=>by rw [(x.o f).1];exact (x.o f).2 i (by omega)⟩
     case measure=>
      rw [J.o,aI7 r.o.len λb P=>yM r.o.row r.o.len b P];have:=H.o;cases j with
      |true=>have:=T.o rfl;simp [wQ];omega
      |false=>simp [wQ];omega
  |false=>
   have C:=aA p;have a3:=aA t;have a2:=aA (a5 rfl);have y:=a4.o.below p.low;have e7:=y.cell;clear p t a5;rename World=>wo
   have e5:=aA y;clear y;go_wp2;go_loopw [10] (λi S=>∃b:Nat,b<=a.length/\i=.int .i64 b/\(∀o,o<b->dn a D o=true)/\S=wo) (λi _=>a.length-(intOf i).toNat);case atStart=>exact ⟨0,zj _,rfl,λo d=>by omega,rfl⟩
   case round=>
    obtain ⟨b,P,rfl,X,rfl⟩:=hrel;by_cases s:b<a.length
    ·have a6:(b:Int)<(a.length:Int):=by omega
     obtain ⟨e6,e8,L,u⟩:=e5.o.shape;obtain ⟨g,rfl,F,G,R,f0⟩:=u b s;simp at L;obtain ⟨rfl,rfl⟩:=L;clear F G R;have g0:=E.o.cls b s;have g4:=C.o.len;have I:=yM C.o.row C.o.len a[b].1.cls (by omega);rw [<-yK a D b s] at I;have A:=aA X;generalize a[b].1.cls=c at *;have g1:(c:Int)<(a.length:Int):=by omega
     clear u X;cases k:dn a D b with
     |true=>
      rw [k] at I;have J:=aA k;clear k;go_wp2;go_roundw;case rel=>
       refine ⟨b+1,by omega,by go_num,λo c5=>?_,by first|rfl|trivial⟩;by_cases O:o<b
       ·exact A.o o O
       ·have:o=b:=by omega
        subst this;exact J.o
      case measure=>simp [intOf];omega
     |false=>
      rw [k] at I;have J:=aA k;clear k;go_wp2;go_ret;refine ⟨_,rfl,⟨_,rfl,λf=>by simp at f,λf=>?_⟩,C.o.low⟩;have:=aS8 E.o a2.o (f b s) s;rw [J.o] at this;cases this
    ·have a6:¬((b:Int)<(a.length:Int)):=by omega
     have A:=aA X;clear X;go_wp2;go_ret;exact ⟨_,rfl,⟨_,rfl,λ_ i N=>a3.o i N (A.o i (by omega)),λ_=>rfl⟩,C.o.low⟩
