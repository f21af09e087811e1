import Derived.Test.YtenobhkjiebhaaaGreatDoorChecked
import Derived.WalkKit
import Derived.WalkSpells
import Derived.WalkLawsBesides
import Derived.Laws.StructEq
import Derived.Deep.QuietTactic
import Derived.BigQuiet
import Derived.OwnWalk
import Derived.Laws.AppendOwn
open Bool renaming true->zi,false->z5,eq_iff_iff->z6
open List renaming length->Z,take_succ_eq_append_getElem->zu,take_of_length_le->zs,drop_eq_getElem_cons->zg,length_append->ze,length_take_le->zb,getElem?_cons_succ->z1,length_cons->z2,getElem_mem->z3,all_eq_true->yy,range->yv
open Nat renaming le_refl->zp,zero_le->zh,lt_of_lt_of_le->za,le_trans->z9
open Option renaming some->Y,none->zl
open Or renaming inr->z4,inl->yw
open Prod renaming fst->zq,ext_iff->z8
namespace Go.Proofs.YtenobhkjiebhaaaGreatDoor
open Calls renaming quiet_of->zc
open Go renaming World->zw,Value->U
open _root_.Go.Proofs.Tryz renaming prog->zn,ntmps109->zk,func109->zj,underlying50->z0,underlying36->yz
open Value renaming ownBlock->zt,int->zo
open World renaming ownsRow->V,cell?->zr,grownBy->zm,setCell->zf,ownsRow_nil->zd,drewN_drewN->z7
open Go.RowKit
set_option maxHeartbeats 2000000
set_option maxRecDepth 100000
variable{s:ByteArray}{sn:List Int}{xs:List U}{B B' n:Nat}{a:Option Addr}{p:Prop}{T e:TypeId}{v v':U}{w w' w1 wm:zw}
def aE(p:Prop):Prop:=p
theorem aE.o(b:aE p):p:=b
theorem aE.out{p:Prop}(b:aE p):p:=b
abbrev aB(w w1:zw):Prop:=Below w.heap.size w w1
theorem yV{b:Type}[BEq b][LawfulBEq b]{a c:b}(d:a≠c):(a==c)=false:=beq_eq_false_iff_ne.2 d
theorem gG[Decidable p](b:¬p):decide p=false:=decide_eq_false b
theorem fL[Decidable p](b:p):decide p=true:=decide_eq_true b
theorem aS{b:Prop}{_:Decidable b}(c:¬b){d:Sort _}{t e:d}:ite b t e=e:=if_neg c
theorem aT{b:Prop}{_:Decidable b}(c:b){d:Sort _}{t e:d}:ite b t e=t:=if_pos c
theorem O(b:p):aE p:=b
theorem aD(b:aE p):p:=b
theorem lK{c:IntKind}{a b:Int}(d:a=b):Ending.returned (.int c a)=.returned (.int c b):=by rw[d]
theorem eB{a b:Bool}(c:a=b):Ending.returned (.bool a)=.returned (.bool b):=by rw[c]
theorem dT(w:zw)(n c:Nat):∃b,(w.drewN n).drewN c=w.drewN b:=⟨_,z7 _ _ _⟩
theorem iK{b:zw}(c:∃n,w1=w.drewN n)(d:∃n,b=w1.drewN n):∃n,b=w.drewN n:=by obtain⟨n,rfl⟩:=c;obtain⟨f,rfl⟩:=d;exact⟨_,z7 _ _ _⟩
theorem aN(b:∃n,w1=w.drewN n):aB w w1:=by obtain⟨n,rfl⟩:=b;exact⟨rfl,rfl,rfl,zp _,λ_ _=>rfl⟩
theorem Below.at'(c:Below B w w1)(d:w.heap.size<=B){a:Addr}{v:U}(b:zr w a=Y v):zr w1 a=Y v:=
 (c.cell (za (World.block_lt_of_cell? w a b) d)).trans b
abbrev iQ(x:Int):U:=.int .i64 x
abbrev aQ(g k:Nat):Addr:=⟨g,k,zl⟩
abbrev pQ(g:Nat):U:=.pointer (Y ⟨g,0,zl⟩)
abbrev jZ(b c:Nat):U:=.pointer (Y ⟨b,c,zl⟩)
abbrev sQ(g n b:Nat):U:=.slice (Y ⟨g,0,zl⟩) n b
abbrev nQ:U:=.slice zl 0 0
@[simp] abbrev cQ(w:zw)(g k:Nat)(v:U):Prop:=zr w ⟨g,k,zl⟩=Y v
theorem bA{b:Type}{x:Array b}{i:Nat}{a:b}(c:x[i]?=Y a):i<x.size:=(Array.getElem?_eq_some_iff.1 c).1
theorem eE{c:Type}{x:List c}{b:Nat}{a:c}(d:x[b]?=Y a):b<Z x:=(List.getElem?_eq_some_iff.1 d).1
theorem dP:Below B w w:=Below.refl _ _
theorem aI(w:zw)(b:Obj):Below w.heap.size w (w.alloc b):=(Below.refl _ w).alloc (zp _) b
theorem aC{a:Addr}(c:aB w w1)(b:zr w a=Y v):zr w1 a=Y v:=Below.at' c (zp _) b
theorem bE{c:zw}(b:aB w w1)(k:aB w1 c):aB w c:=b.trans (k.mono b.size)
abbrev Nd:=ByteArray×Int
abbrev Lt:=Bool×List Nd
structure dI(w:zw)(a:Option Addr)(l:List Nd):Prop where
 few:Z l<=5864062014805
 short:∀k (h:k<Z l),l[k].1.size<=140737488355328
 cell:∀k (h:k<Z l),∃b o,a=Y (aQ b o)/\zr w (aQ b (o+k*2))=Y (.string l[k].1)/\zr w (aQ b (o+k*2+1))=Y (iQ l[k].2)
structure bU(w:zw)(a:Option Addr)(c:List Lt):Prop where
 few:Z c<=4398046511104
 cell:∀k (h:k<Z c),∃b o aa cap,a=Y (aQ b o)/\zr w (aQ b (o+k*2))=Y (.bool c[k].1)/\zr w (aQ b (o+k*2+1))=Y (.slice aa c[k].2.length cap)/\dI w aa c[k].2
theorem dI.below{d:List Nd}(b:dI w a d){B:Nat}(k:Below B w w1)(c:w.heap.size<=B):dI w1 a d:=
 ⟨b.few,b.short,λj m=>by obtain⟨f,o,g,i,l⟩:=b.cell j m;exact⟨f,o,g,Below.at' k c i,Below.at' k c l⟩⟩
theorem bU.below{d:List Lt}(c:bU w a d){B:Nat}(k:Below B w w1)(b:w.heap.size<=B):bU w1 a d:=
 ⟨c.few,λj t=>by obtain⟨g,o,f,i,l,m,q,r⟩:=c.cell j t;exact⟨g,o,f,i,l,Below.at' k b m,Below.at' k b q,r.below k b⟩⟩
theorem dI.drawn{b:List Nd}(c:dI w a b)(k:∃n,w1=w.drewN n):dI w1 a b:=c.below (aN k) (zp _)
theorem bU.drawn{b:List Lt}(c:bU w a b)(k:∃n,w1=w.drewN n):bU w1 a b:=c.below (aN k) (zp _)
theorem dI.drewN{b:List Nd}(c:dI w a b)(n:Nat):dI (w.drewN n) a b:=c.drawn ⟨n,rfl⟩
theorem bU.drewN{b:List Lt}(c:bU w a b)(n:Nat):bU (w.drewN n) a b:=c.drawn ⟨n,rfl⟩
theorem aSv:Tryz.prog.stoodInHeld 52=false:=by kernel_rfl
theorem tJ:Tryz.prog.eqGuardType Tryz.prog.depth 52=false:=by kernel_rfl
theorem aSw:Tryz.prog.underlying 52=Y (.struct (Tryz.prog.fieldsOf 52)):=by kernel_rfl
def aCg(s:ByteArray)(a:Int)(c:ByteArray)(b:Int):Bool:=s.toList==c.toList && a==b
theorem xT{b:ByteArray}:s.toList=b.toList↔s=b:=by rw[ByteArray.toList_eq,ByteArray.toList_eq];obtain⟨⟨c⟩⟩:=s;obtain⟨⟨d⟩⟩:=b;simp
theorem rY(b c:ByteArray×Int):aCg b.1 b.2 c.1 c.2=decide (b=c):=by rw[z6];simp[aCg,xT,z8]
theorem rZ(s c:ByteArray)(a b:Int)(w:zw):(Op.equalIn 10000 52 (.agg #[.string s,iQ a]) (.agg #[.string c,iQ b])).run zn w=.ok (aCg s a c b) w:=by unfold aCg;rw[show (10000:Nat)=9999+1 from rfl,run_equalIn_agg w 9999 52 _ _ aSw aSv];simp only[Program.fieldsOf,Tryz.underlying52];go_simp;grind
structure eS(B:Nat)(T:TypeId)(w w':zw):Prop where
 os:w'.os=w.os
 tape:w'.tape=w.tape
 output:w'.output=w.output
 size:w.heap.size<=w'.heap.size
 block:∀k,k<w.heap.size->(k<B\/∀cs fr,w.heap[k]?≠Y (.cells cs T fr))->w'.heap[k]?=w.heap[k]?
theorem eS.refl(B:Nat)(T:TypeId)(w:zw):eS B T w w:=⟨rfl,rfl,rfl,zp _,λ_ _ _=>rfl⟩
theorem eS.trans{B:Nat}{T:TypeId}{a b c:zw}(d:eS B T a b)(k:eS B T b c):eS B T a c:=
 ⟨k.os.trans d.os,k.tape.trans d.tape,k.output.trans d.output,z9 d.size k.size,λi g f=>by
  have e:=d.block i g f;rw[k.block i (za g d.size) (by rw[e];exact f),e]⟩
theorem eS.of_below(b:aB w w'):eS B T w w':=⟨b.os,b.tape,b.output,b.size,λk c _=>b.block k c⟩
theorem eS.below(b:eS B T w w')(d:B<=w.heap.size):Below B w w':=⟨b.os,b.tape,b.output,b.size,λk c=>b.block k (by omega) (yw c)⟩
theorem eS.alloc{a:zw}(c:eS B T a w)(b:Obj):eS B T a (w.alloc b):=c.trans (.of_below (aI _ b))
theorem eS.setCell{a:zw}(b:eS B T a w){p:Addr}(i:a.heap.size<=p.block)(g:U):eS B T a (w.setCell p g):=
 ⟨b.os,b.tape,b.output,by have:=b.size;simpa[zf]using this,λf d c=>by
  rw[Below.heap_setCell _ _ _ _ (by omega)];exact b.block f d c⟩
theorem eS.drawn{a:zw}(b:eS B T a w)(k:∃n,w1=w.drewN n):eS B T a w1:=b.trans (.of_below (aN k))
theorem eS.grownOwn{a:zw}{i:Nat}(c:eS B T a w)(b:zm w w' (zt v))(f:V w B T i v n xs):eS B T a w':=by
 refine c.trans ⟨b.os,b.tape,b.output,b.size,λg d o=>b.block g d ?_⟩;intro e;obtain⟨_,⟨rfl,_⟩|⟨l,j,k,rfl,m,q,_⟩⟩:=f
 .simp[zt]at e
 simp[zt]at e;grind
theorem eS.grownNew{a:zw}{j:Nat}(b:eS B T a w)(c:zm w w' (zt v))(i:V w B' e j v n xs)(o:a.heap.size<=B'):eS B T a w':=by
 refine⟨c.os.trans b.os,c.tape.trans b.tape,c.output.trans b.output,z9 b.size c.size,λf d g=>?_⟩;rw[c.block f (za d b.size) ?_,b.block f d g];intro e;obtain⟨_,⟨rfl,_⟩|⟨m,k,l,rfl,q,r,_⟩⟩:=i
 .simp[zt]at e
 simp[zt]at e;omega
theorem bS{c:Nat}(b:V w B e c v n xs):∀k,zt v=Y k->B<=k/\k<w.heap.size:=World.ownsRow.lt b
theorem eS.own{d:Nat}(j:eS B T w w')(r:e≠T)(o:V w B' e d v n xs):V w' B' e d v n xs:=by
 obtain⟨b,⟨rfl,k⟩|⟨g,f,i,rfl,l,c,q⟩⟩:=o
 .exact⟨b,yw ⟨rfl,k⟩⟩
 refine⟨b,z4 ⟨g,f,i,rfl,l,?_,q⟩⟩;have m:g<w.heap.size:=(bA c);rw[j.block g m (z4 ?_),c];grind
theorem dC{b:TypeId}{g i:Nat}{f:Nat}{j:List U}(c:V w B e g v n xs)(d:V w B' b i v' f j)(x:e≠b):zt v=zl\/zt v≠zt v':=by
 obtain⟨_,⟨rfl,_⟩|⟨q,k,m,rfl,t,y,_⟩⟩:=c
 .exact yw rfl
 obtain⟨_,⟨rfl,_⟩|⟨r,l,o,rfl,u,z,_⟩⟩:=d
 .right;simp[zt]
 right;simp[zt];grind
theorem bF{d:Nat}(i:V w B e d v n xs)(l:Below B' w w')(m:w.heap.size<=B'):V w' B e d v n xs:=by
 obtain⟨b,⟨rfl,j⟩|⟨g,cap,f,rfl,hb,c,k⟩⟩:=i
 .exact⟨b,yw ⟨rfl,j⟩⟩
 refine⟨b,z4 ⟨g,cap,f,rfl,hb,?_,k⟩⟩;have o:g<w.heap.size:=(bA c);rw[l.block g (by omega),c]
theorem fM{c:Nat}(i:V w B e c v n xs)(l:B'<=B):V w B' e c v n xs:=by
 obtain⟨b,⟨rfl,j⟩|⟨g,d,f,rfl,m,k⟩⟩:=i
 .exact⟨b,yw ⟨rfl,j⟩⟩
 exact⟨b,z4 ⟨g,d,f,rfl,by omega,k⟩⟩
def aV(b:List Nd):List U:=b.flatMap λn=>[.string n.1,iQ n.2]
theorem aFf(b:List Nd):Z (aV b)=Z b*2:=by
 induction b with
 |nil=>rfl
 |cons x r ih=>simp[aV]at ih ⊢;omega
theorem sA(c:List Nd)(b:Nd):aV (c++[b])=aV c++[.string b.1,iQ b.2]:=by simp[aV]
theorem yW(c:List Nd):∀b (d:b<Z c),(aV c)[b*2]?=Y (.string c[b].1)/\(aV c)[b*2+1]?=Y (iQ c[b].2):=by
 induction c with
 |nil=>intro b d;simp at d
 |cons x r ih=>
  grind[aV,z1]
theorem wC{b:List Nd}(i:V w B 52 2 v (Z b) (aV b))(j:Z b<=5864062014805)(l:∀c (i:c<Z b),b[c].1.size<=140737488355328):∃a d,v=.slice a (Z b) d/\dI w a b:=by
 obtain⟨o,⟨rfl,q⟩|⟨f,d,m,rfl,r,u,t,x,z,y⟩⟩:=i
 .refine⟨zl,0,by rw[q],⟨j,l,λc g=>by omega⟩⟩
 have k:V w B 52 2 (sQ f (Z b) d) (Z b) (aV b):=⟨o,z4 ⟨f,d,m,rfl,r,u,t,x,z,y⟩⟩;refine⟨_,_,rfl,⟨j,l,λc g=>⟨f,0,rfl,?_,?_⟩⟩⟩
 .rw[Nat.zero_add,k.cellAt (c*2) (by omega),(yW b c g).1]
 rw[Nat.zero_add,k.cellAt (c*2+1) (by omega),(yW b c g).2]
def aG(s:ByteArray)(b:Nat):Nat:=if h:b<s.size then (s[b]'h).toNat else 0
theorem gH(s:ByteArray)(b:Nat)(c:b<s.size):aG s b=(s[b]'c).toNat:=dif_pos c
def eP(b:Nat):Nat:=if b<128 then 1 else if b<194 then 0 else if b<224 then 2 else if b<240 then 3 else if b<245 then 4 else 0
def kJ(b:Nat):Bool:=decide (128<=b) && decide (b<=191)
def sB(b c:Nat):Bool:=(decide (b=224) && decide (c<160)) || (decide (b=237) && decide (159<c)) || (decide (b=240) && decide (c<144)) || (decide (b=244) && decide (143<c))
theorem xU(b c:Nat):sB b c=zi↔(b=224/\c<160)\/(b=237/\159<c)\/(b=240/\c<144)\/(b=244/\143<c):=by simp[sB,or_assoc]
def bV(s:ByteArray)(c:Nat):Nat:=
 let b:=aG s c;let z:=eP b;if z<=1 then z
 else if s.size<c+z then 0
 else if (yv z).all (λd=>d==0 || kJ (aG s (c+d))) && !sB b (aG s (c+1)) then z else 0
theorem uL(s:ByteArray)(p:Nat)(b:eP (aG s p)<=1):bV s p=eP (aG s p):=by simp[bV,b]
theorem aCh(s:ByteArray)(p b:Nat)(f:eP (aG s p)=b)(d:¬b<=1)(c:s.size<p+b):bV s p=0:=by subst f;simp[bV,d,c]
theorem aAn(s:ByteArray)(p c b:Nat)(j:eP (aG s p)=c)(d:¬c<=1)(g:0<b)(i:b<c)(f:kJ (aG s (p+b))=z5):bV s p=0:=by grind[aG,bV,kJ,eP,yy,yv]
theorem aCi(s:ByteArray)(p b:Nat)(i:eP (aG s p)=b)(f:¬b<=1)(d:¬s.size<p+b)(g:∀c,0<c->c<b->kJ (aG s (p+c))=zi):bV s p=if sB (aG s p) (aG s (p+1)) then 0 else b:=by
 grind[sB,aG,bV,kJ,eP,yy,yv]
theorem aAo(s:ByteArray)(p:Nat)(b:p<s.size):p+bV s p<=s.size:=by grind[aG,bV,uL,eP]
theorem aSx(s:ByteArray)(p:Nat)(w:zw)(c:p<s.size)(b:aG s p<128):Calls zn 109 #[.string s,iQ p] w λe w'=>e=.returned (iQ (bV s p))/\w'=w:=by
 have d:eP (aG s p)=1:=by unfold eP;rw[aT b]
 have f:=O (uL s p (by omega));have g:=O d;rw[gH s p c]at b;clear d;have i:((s[p]'c).toNat:Int)<128:=by omega
 go_enter zj,zk;go_wp2;go_ret;exact⟨lK (by rw[f.o,g.o];rfl),rfl⟩
theorem aSy(s:ByteArray)(p:Nat)(w:zw)(b:p<s.size)(c:(128<=aG s p/\aG s p<194)\/245<=aG s p):Calls zn 109 #[.string s,iQ p] w λe w'=>e=.returned (iQ (bV s p))/\w'=w:=by
 have d:eP (aG s p)=0:=by unfold eP;split<;>(try split)<;>(try split)<;>(try split)<;>(try split)<;>omega
 have f:=O (uL s p (by omega));have g:=O d;rw[gH s p b]at c;clear d;have g2:((128:Int)<=((s[p]'b).toNat:Int)/\((s[p]'b).toNat:Int)<194)\/(245:Int)<=((s[p]'b).toNat:Int):=by omega
 clear c;rcases g2 with⟨i,g2⟩|g2;all_goals
  go_enter zj,zk;go_wp2;go_ret;exact⟨lK (by rw[f.o,g.o];rfl),rfl⟩
theorem aSz(s:ByteArray)(p:Nat)(w:zw)(l:p<s.size)(R:s.size<=9223372036854775000)(f:194<=aG s p)(j:aG s p<224):Calls zn 109 #[.string s,iQ p] w λe w'=>e=.returned (iQ (bV s p))/\w'=w:=by
 have A:eP (aG s p)=2:=by unfold eP;split<;>(try split)<;>(try split)<;>(try split)<;>(try split)<;>omega
 have m:=O A;have o:=gH s p l;have C:=O o;rw[o]at f j;clear o A;have I:(194:Int)<=((s[p]'l).toNat:Int):=by omega
 have J:((s[p]'l).toNat:Int)<224:=by omega
 by_cases z:s.size<p+2
 .have g:=O (aCh s p 2 m.o (by omega) z);go_enter zj,zk;go_wp2;go_ret;exact⟨lK (by rw[g.o];rfl),rfl⟩
 go_enter zj,zk;go_wp2;go_loop [7] (λi=>∃b:Nat,1<=b/\b<=2/\i=iQ b/\∀d,0<d->d<b->kJ (aG s (p+d))=zi) (λi=>2-(intOf i).toNat);exact⟨1,by omega,by omega,rfl,λd f j=>by omega⟩;obtain⟨b,N,P,rfl,u⟩:=hrel;have r:=O u;clear u;by_cases H:b<2
 .have c:p+b<s.size:=by omega
  have t:=gH s (p+b) c;have q:=O t;clear t;by_cases x:128<=(s[p+b]'c).toNat/\(s[p+b]'c).toNat<=191
  .obtain⟨E,F⟩:=x;have L:(128:Int)<=((s[p+b]'c).toNat:Int):=by omega
   have M:((s[p+b]'c).toNat:Int)<=191:=by omega
   go_wp2;go_round;case rel=>
    refine⟨b+1,by omega,by omega,by go_num,λd f j=>?_⟩;by_cases G:d=b
    .subst G;rw[q.o];simp[kJ,E,F]
    exact r.o d f (by omega)
   case measure=>simp[intOf];omega
  have g:=O (aAn s p 2 b m.o (by omega) (by omega) H (by rw[q.o];simp[kJ];omega));have hcz:((s[p+b]'c).toNat:Int)<128\/(191:Int)<((s[p+b]'c).toNat:Int):=by omega
  clear x;rcases hcz with hcz|hcz;all_goals
   go_wp2;go_ret;exact⟨lK (by rw[g.o];rfl),rfl⟩
 have y:p+1<s.size:=by omega
 have Q:b=2:=by omega
 have g:=O (aCi s p 2 m.o (by omega) z (λi f j=>r.o i f (by omega)));have D:=O (gH s (p+1) y);go_wp2;all_goals
  go_ret;refine⟨lK ?_,rfl⟩;rw[g.o,C.o,D.o];by_cases k:sB (s[p]'l).toNat (s[p+1]'y).toNat=zi
  .rw[aT k];rw[xU]at k;first|rfl|(exfalso;omega)
  rw[aS k];rw[xU]at k;first|rfl|(exfalso;omega)
theorem aT0(s:ByteArray)(p:Nat)(w:zw)(l:p<s.size)(R:s.size<=9223372036854775000)(f:224<=aG s p)(j:aG s p<240):Calls zn 109 #[.string s,iQ p] w λe w'=>e=.returned (iQ (bV s p))/\w'=w:=by
 have A:eP (aG s p)=3:=by unfold eP;split<;>(try split)<;>(try split)<;>(try split)<;>(try split)<;>omega
 have m:=O A;have o:=gH s p l;have C:=O o;rw[o]at f j;clear o A;have I:(224:Int)<=((s[p]'l).toNat:Int):=by omega
 have J:((s[p]'l).toNat:Int)<240:=by omega
 by_cases z:s.size<p+3
 .have g:=O (aCh s p 3 m.o (by omega) z);go_enter zj,zk;go_wp2;go_ret;exact⟨lK (by rw[g.o];rfl),rfl⟩
 go_enter zj,zk;go_wp2;go_loop [7] (λi=>∃b:Nat,1<=b/\b<=3/\i=iQ b/\∀d,0<d->d<b->kJ (aG s (p+d))=zi) (λi=>3-(intOf i).toNat);exact⟨1,by omega,by omega,rfl,λd f j=>by omega⟩;obtain⟨b,N,P,rfl,u⟩:=hrel;have r:=O u;clear u;by_cases H:b<3
 .have c:p+b<s.size:=by omega
  have t:=gH s (p+b) c;have q:=O t;clear t;by_cases x:128<=(s[p+b]'c).toNat/\(s[p+b]'c).toNat<=191
  .obtain⟨E,F⟩:=x;have L:(128:Int)<=((s[p+b]'c).toNat:Int):=by omega
   have M:((s[p+b]'c).toNat:Int)<=191:=by omega
   go_wp2;go_round;case rel=>
    refine⟨b+1,by omega,by omega,by go_num,λd f j=>?_⟩;by_cases G:d=b
    .subst G;rw[q.o];simp[kJ,E,F]
    exact r.o d f (by omega)
   case measure=>simp[intOf];omega
  have g:=O (aAn s p 3 b m.o (by omega) (by omega) H (by rw[q.o];simp[kJ];omega));have hcz:((s[p+b]'c).toNat:Int)<128\/(191:Int)<((s[p+b]'c).toNat:Int):=by omega
  clear x;rcases hcz with hcz|hcz;all_goals
   go_wp2;go_ret;exact⟨lK (by rw[g.o];rfl),rfl⟩
 have y:p+1<s.size:=by omega
 have Q:b=3:=by omega
 have g:=O (aCi s p 3 m.o (by omega) z (λi f j=>r.o i f (by omega)));have D:=O (gH s (p+1) y);go_wp2;all_goals
  go_ret;refine⟨lK ?_,rfl⟩;rw[g.o,C.o,D.o];by_cases k:sB (s[p]'l).toNat (s[p+1]'y).toNat=zi
  .rw[aT k];rw[xU]at k;first|rfl|(exfalso;omega)
  rw[aS k];rw[xU]at k;first|rfl|(exfalso;omega)
theorem aT1(s:ByteArray)(p:Nat)(w:zw)(l:p<s.size)(R:s.size<=9223372036854775000)(f:240<=aG s p)(j:aG s p<245):Calls zn 109 #[.string s,iQ p] w λe w'=>e=.returned (iQ (bV s p))/\w'=w:=by
 have A:eP (aG s p)=4:=by unfold eP;split<;>(try split)<;>(try split)<;>(try split)<;>(try split)<;>omega
 have m:=O A;have o:=gH s p l;have C:=O o;rw[o]at f j;clear o A;have I:(240:Int)<=((s[p]'l).toNat:Int):=by omega
 have J:((s[p]'l).toNat:Int)<245:=by omega
 by_cases z:s.size<p+4
 .have g:=O (aCh s p 4 m.o (by omega) z);go_enter zj,zk;go_wp2;go_ret;exact⟨lK (by rw[g.o];rfl),rfl⟩
 go_enter zj,zk;go_wp2;go_loop [7] (λi=>∃b:Nat,1<=b/\b<=4/\i=iQ b/\∀d,0<d->d<b->kJ (aG s (p+d))=zi) (λi=>4-(intOf i).toNat);exact⟨1,by omega,by omega,rfl,λd f j=>by omega⟩;obtain⟨b,N,P,rfl,u⟩:=hrel;have r:=O u;clear u;by_cases H:b<4
 .have c:p+b<s.size:=by omega
  have t:=gH s (p+b) c;have q:=O t;clear t;by_cases x:128<=(s[p+b]'c).toNat/\(s[p+b]'c).toNat<=191
  .obtain⟨E,F⟩:=x;have L:(128:Int)<=((s[p+b]'c).toNat:Int):=by omega
   have M:((s[p+b]'c).toNat:Int)<=191:=by omega
   go_wp2;go_round;case rel=>
    refine⟨b+1,by omega,by omega,by go_num,λd f j=>?_⟩;by_cases G:d=b
    .subst G;rw[q.o];simp[kJ,E,F]
    exact r.o d f (by omega)
   case measure=>simp[intOf];omega
  have g:=O (aAn s p 4 b m.o (by omega) (by omega) H (by rw[q.o];simp[kJ];omega));have hcz:((s[p+b]'c).toNat:Int)<128\/(191:Int)<((s[p+b]'c).toNat:Int):=by omega
  clear x;rcases hcz with hcz|hcz;all_goals
   go_wp2;go_ret;exact⟨lK (by rw[g.o];rfl),rfl⟩
 have y:p+1<s.size:=by omega
 have Q:b=4:=by omega
 have g:=O (aCi s p 4 m.o (by omega) z (λi f j=>r.o i f (by omega)));have D:=O (gH s (p+1) y);go_wp2;all_goals
  go_ret;refine⟨lK ?_,rfl⟩;rw[g.o,C.o,D.o];by_cases k:sB (s[p]'l).toNat (s[p+1]'y).toNat=zi
  .rw[aT k];rw[xU]at k;first|rfl|(exfalso;omega)
  rw[aS k];rw[xU]at k;first|rfl|(exfalso;omega)
theorem aFg(s:ByteArray)(p:Nat)(w:zw)(b:p<s.size)(c:s.size<=9223372036854775000):Calls zn 109 #[.string s,iQ p] w λe w'=>e=.returned (iQ (bV s p))/\w'=w:=by
 grind[aG,aSy,aSx,aSz,aT0,aT1]
def iY(s:ByteArray):Nat->Nat->Nat->Bool
 |0,_,m=>decide (1<=m) && decide (m<=20)
 |f+1,p,m=>if p<s.size then (if bV s p=0\/aG s p=10 then false else iY s f (p+bV s p) (m+1)) else decide (1<=m) && decide (m<=20)
def fS(s:ByteArray):Bool:=iY s s.size 0 0
theorem aCj(s:ByteArray)(b p c:Nat)(d:¬p<s.size):iY s b p c=(decide (1<=c) && decide (c<=20)):=by
 cases b with
 |zero=>rfl
 |succ b=>simp[iY,d]
theorem aAp(s:ByteArray)(b p g:Nat)(d:p<s.size)(i:s.size-p<=b)(f:bV s p=0\/aG s p=10):iY s b p g=false:=by obtain⟨c,rfl⟩:∃c,b=c+1:=⟨b-1,by omega⟩;simp only[iY,aT d,aT f]
theorem aJm(s:ByteArray)(c p d:Nat)(f:p<s.size)(i:s.size-p<=c)(g:¬(bV s p=0\/aG s p=10)):∃b,s.size-(p+bV s p)<=b/\iY s c p d=iY s b (p+bV s p) (d+1):=by
 obtain⟨b,rfl⟩:∃b,c=b+1:=⟨c-1,by omega⟩;refine⟨b,by omega,?_⟩;simp only[iY,aT f,aS g]
theorem aJn(s:ByteArray)(w:zw)(z:s.size<=9223372036854775000):Calls zn 108 #[.string s] w λe w'=>e=.returned (.bool (fS s))/\w'=w:=by
 go_enter Tryz.func108,Tryz.ntmps108;go_wp2;go_loop [3,4] (λA q=>∃p d g:Nat,p<=s.size/\d<=p/\q=iQ p/\A=iQ d/\s.size-p<=g/\fS s=iY s g p d) (λ_ q=>s.size-(intOf q).toNat);exact⟨0,0,s.size,by omega,by omega,rfl,rfl,by omega,rfl⟩;obtain⟨p,d,g,D,C,rfl,rfl,m,b⟩:=hrel;by_cases c:p<s.size
 .have i:=aFg s p w c z;have y:=aAo s p c;have j:=gH s p c;by_cases k:bV s p=0
  .rw[aAp s g p d c m (yw k)]at b;rw[k]at i;have f:=O b;clear b j k y;go_wp2_with(go_at_call 109;refine i.mono ?_;rintro e w' ⟨rfl,rfl⟩);go_ret;exact⟨eB f.o.symm,rfl⟩
  generalize hn:bV s p=n at *;have E:((n:Int)==0)=false:=by rw[beq_eq_false_iff_ne];omega
  by_cases l:aG s p=10
  .rw[aAp s g p d c m (z4 l)]at b;have f:=O b;rw[l]at j;have r:((s[p]'c).toNat:Int)=10:=by omega
   have u:(((s[p]'c).toNat:Int)==10)=true:=by rw[beq_iff_eq];exact r
   clear b j hn r;go_wp2_with(go_at_call 109;refine i.mono ?_;rintro e w' ⟨rfl,rfl⟩);go_ret;exact⟨eB f.o.symm,rfl⟩
  obtain⟨t,x,o⟩:=aJm s g p d c m (by rw[hn];omega);rw[hn]at x o;rw[o]at b;have f:=O b;have u:(((s[p]'c).toNat:Int)==10)=false:=by rw[beq_eq_false_iff_ne];omega
  clear b j hn o l;go_wp2_with(go_at_call 109;refine i.mono ?_;rintro e w' ⟨rfl,rfl⟩);go_round;·exact⟨p+n,d+1,t,by omega,by omega,by go_num,by go_num,by omega,f.o⟩
  simp[intOf];omega
 rw[aCj s g p d c]at b;have f:=O b;clear b;go_wp2;all_goals
  go_ret;refine⟨eB ?_,rfl⟩;rw[f.o,z6];simp;omega
def aK(n:Nd):Bool:=n.1.toList.isEmpty
def dQ(n:Nd):Bool:=if aK n then decide (0<=n.2) && decide (n.2<60) else fS n.1 && (decide (0<=n.2) && decide (n.2<=5))
def bI(n:Nd):Nat:=if aK n then 0 else n.2.toNat
def aP:List Nd->Nat->Bool
 |[],q=>decide (q=0)
 |n::r,q=>if q=0 then false else if dQ n then aP r (q-1+bI n) else false
def lL(b:List Nd):Bool:=aP b 1 && decide (Z b<=60)
theorem aAq(c:List Nd)(b:Nat)(d:b<Z c):aP (c.drop b) 0=false:=by rw[zg d];simp[aP]
theorem aJo(c:List Nd)(b g:Nat)(d:b<Z c)(f:dQ c[b]=z5):aP (c.drop b) g=false:=by rw[zg d];simp[aP,f]
theorem aJp(c:List Nd)(b d:Nat)(f:b<Z c)(i:d≠0)(g:dQ c[b]=zi):aP (c.drop b) d=aP (c.drop (b+1)) (d-1+bI c[b]):=by grind[aP,zg]
theorem aCk{c:Nat}{f:List U}{k:TypeId}(g:w.heap[c]?=Y (.cells f.toArray k)):∀b d,f[b]?=Y d->zr w (((aQ c 0):Addr).add b)=Y d:=by
 intro b d i;have e:((aQ c 0):Addr).add b=(aQ c b):=by by_cases j:b=0<;>simp[Addr.add,j]
 rw[e];unfold zr;simp only[g];simpa using i
@[simp] theorem szS(w:zw)(a:Addr)(v:U):(w.setCell a v).heap.size=w.heap.size:=by simp[zf]
theorem aJq{c:Obj}{b:Nat}(d:b=w.heap.size):(w.alloc c).heap[b]?=Y c:=d▸heap_alloc_new ..
theorem eU{q:Array Oper}{r:List Oper}{g:Oper}{a:Act}{l:Exit->Act->zw->Prop}{s x:Operand}{i T:TypeId}{k:U}{b f j m:Nat}{d:List U}(D:(Tryz.prog.info? e).map (λc=>(c.zero,c.size,c.bytes))=Y (Y k,b,f))(J:Tryz.prog.underlying i=Y (.slice e))(G:V w B e b v n xs)
  (t:∀v' w',V w' B e b v' (n+1) (xs++d)->zm w w' (zt v)->(v'=nQ↔v=nQ/\1=0)->wpList zn q l r (a.put g.dst v') w')
  (A:g.guard=none:=by rfl) (F:g.op=.call {callee:=.builtin .append,args:=#[s,x],argTypes:=#[i,i]}:=by rfl) (H:a.eval s=v:=by rfl) (L:a.eval x=sQ j 1 m:=by rfl) (y:w.heap[j]?=Y (.cells d.toArray T):=by exact aJq (by first|rfl|simp)) (R:Z d=b:=by rfl) (u:d.all (λQ=>Q.oneCell')=true:=by rfl) (P:k.cells.size=b:=by rfl) (o:0<b/\0<f:=by decide) (E:(n+1)*f<=140737488355328:=by omega) (z:B<=w.heap.size:=by first|omega|(simp;omega)):wpList zn q l (g::r) a w:=by
 obtain⟨c,C,N,I,M⟩:=info_parts D;have S:=Nat.le_mul_of_pos_right (n+1) o.2;exact wpList_append_own _ A s x i F B e c k b f J C N I M P o.1 v n xs H G (aQ j 0) 1 m d L (by omega) (aCk y) (List.all_eq_true.1 u) (by unfold maxLen;omega) E z t
def wD:List Int->Int->Int
 |[],_=>-1
 |y::r,x=>if y=x then Z r else wD r x
def gW(b:List Int)(c:Int):Int:=wD b.reverse c
theorem aT2(b:Int):gW [] b=-1:=rfl
theorem aCl(b:List Int)(d c:Int):gW (b++[d]) c=if d=c then (Z b:Int) else gW b c:=by simp[gW,wD]
def fH(b:List Nd×List Int)(n:Nd):List Nd×List Int:=
 if aK n then (if gW b.2 n.2<0 then (b.1++[(n.1,(Z b.2:Int))],b.2++[n.2]) else (b.1++[(n.1,gW b.2 n.2)],b.2))
 else (b.1++[n],b.2)
def eF(b:List Nd)(c:List Int):List Nd×List Int:=b.foldl fH ([],c)
theorem aJr(c:List Nd)(d:List Int)(b:Nat)(f:b<Z c):eF (c.take (b+1)) d=fH (eF (c.take b) d) c[b]:=by grind[eF,zu]
theorem xV(b:List Nd)(d:List Int):(eF b d).1.length=Z b/\(eF b d).2.length<=Z d+Z b:=by
 unfold eF;suffices ∀(b:List Nd) (c:List Nd×List Int),(b.foldl fH c).1.length=Z c.1+Z b/\(b.foldl fH c).2.length<=Z c.2+Z b by
  have:=this b ([],d);simpa using this
 intro b;induction b with
 |nil=>intro c;simp
 |cons x r ih=>
  grind[fH,z2]
theorem kK:(Tryz.prog.info? 52).map (λb=>(b.zero,b.size,b.bytes))=Y (Y (.agg #[.string ⟨#[]⟩,iQ 0]),2,24):=by kernel_rfl
theorem mR:(Tryz.prog.info? 3).map (λi=>(i.zero,i.size,i.bytes))=Y (Y (iQ 0),1,8):=by kernel_rfl
theorem aCm(w:zw)(s:U)(x:U)(f:TypeId)(n:Nat)(d:n=w.heap.size):∀j c,[s,x][j]?=Y c->zr (w.alloc (.cells #[s,x] f)) (((aQ n 0):Addr).add j)=Y c:=by
 subst d;intro j c b;match j,b with
 |0,b=>simp at b;subst b;simp[Addr.add]
 |1,b=>simp at b;subst b;simp[Addr.add]
 |j+2,b=>simp at b
theorem aT3(d:Int):∀c∈[iQ d],c.oneCell'=true:=by intro c b;simp at b;subst b;rfl
theorem aFh{b:List Int}(g:V w B 3 1 v (Z b) (b.map (zo .i64))):∃a f,v=.slice a (Z b) f/\∀d (g:d<Z b),∃c,a=Y (aQ c 0)/\zr w (aQ c d)=Y (iQ b[d]):=by
 obtain⟨k,⟨rfl,l⟩|⟨c,f,j,rfl,m,q,o,r,x,u⟩⟩:=g
 .exact⟨zl,0,by rw[l],λd i=>by omega⟩
 have t:V w B 3 1 (sQ c (Z b) f) (Z b) (b.map (zo .i64)):=⟨k,z4 ⟨c,f,j,rfl,m,q,o,r,x,u⟩⟩;refine⟨_,_,rfl,λd i=>⟨c,rfl,?_⟩⟩;rw[t.cellAt d (by omega)];simp[i]
theorem aJs{b:Nat}(d:V w B e b v n xs)(c:Nat):V (w.drewN c) B e b v n xs:=d
theorem aFi{i j:U}{b:List Nd}{c:Int}(f:V wm w.heap.size 52 2 i (Z b) (aV b))(g:V wm B 3 1 j (Z sn) (sn.map (zo .i64)))(k:eS B 3 w wm)
  (l:V w1 w.heap.size 52 2 v' (Z b+1) (aV b++[.string s,iQ c])) (d:zm wm w1 (zt i)):V w1 w.heap.size 52 2 v' (Z (b++[(s,c)])) (aV (b++[(s,c)]))/\V w1 B 3 1 j (Z sn) (sn.map (zo .i64))/\eS B 3 w w1:=by
 refine⟨?_,g.kept d (dC g f (by decide)),k.grownNew d f (zp _)⟩;rw[sA,ze];exact l
theorem aT4{i j:U}{b:List Nd}{c:Int}(f:V wm w.heap.size 52 2 i (Z b) (aV b))(g:V wm B 3 1 j (Z sn) (sn.map (zo .i64)))(k:eS B 3 w wm)
  (l:V w1 B 3 1 v' (Z sn+1) (sn.map (zo .i64)++[iQ c])) (d:zm wm w1 (zt j)):V w1 w.heap.size 52 2 i (Z b) (aV b)/\V w1 B 3 1 v' (Z (sn++[c])) ((sn++[c]).map (zo .i64))/\eS B 3 w w1:=by
 refine⟨f.kept d (dC f g (by decide)),?_,k.grownOwn d g⟩;rw[List.map_append,ze];exact l
theorem cD(w:zw)(p:Addr)(c:U):zm w (w.setCell p c) (Y p.block):=
 ⟨rfl,rfl,rfl,by simp[zf],λk _ b=>Below.heap_setCell _ _ _ _ (λe=>b (by rw[e]))⟩
theorem aT5{b:zw}{r t:U}{i:List Nd}{c:Int}{j:Obj}(o:V b w.heap.size 52 2 r (Z i) (aV i))(q:V b B 3 1 t (Z sn) (sn.map (zo .i64)))(m:eS B 3 w b)
  (y:V w1 B 3 1 v' (Z sn+1) (sn.map (zo .i64)++[iQ c])) (k:zm ((b.alloc (.cells #[.string s,iQ c] 52)).alloc j) w1 (zt t)):b.heap.size<w1.heap.size/\zr w1 (aQ b.heap.size 0)=Y (.string s)/\zr w1 (aQ b.heap.size 1)=Y (iQ c)/\World.frozen? w1 (aQ b.heap.size 1)=z5/\
   ∀d,V (zf w1 (aQ b.heap.size 1) d) w.heap.size 52 2 r (Z i) (aV i)/\V (zf w1 (aQ b.heap.size 1) d) B 3 1 v' (Z (sn++[c])) ((sn++[c]).map (zo .i64))/\eS B 3 w (zf w1 (aQ b.heap.size 1) d):=by
 have u:((b.alloc (.cells #[.string s,iQ c] 52)).alloc j).heap[b.heap.size]?=Y (.cells #[.string s,iQ c] 52):=by show ((b.heap.push _).push j)[b.heap.size]?=_;simp[Array.getElem?_push]
 have E:b.heap.size+2<=w1.heap.size:=by have:=k.size;simpa using this
 have g:w1.heap[b.heap.size]?=Y (.cells #[.string s,iQ c] 52):=by rw[k.block _ (by simp;omega) ?_,u];intro e;have:=bS q _ e.symm;omega
 have f:=aT4 ((o.alloc _).alloc _) ((q.alloc _).alloc _) ((m.alloc _).alloc _) y k;have x:=m.size;refine⟨by omega,by simp[zr,g],by simp[zr,g],by simp[World.frozen?,g],λd=>⟨?_,?_,?_⟩⟩
 .refine f.1.kept (cD _ _ _) (z4 λe=>?_);have:=bS o _ e;simp at this
 .refine f.2.1.kept (cD _ _ _) (z4 λe=>?_);obtain⟨_,⟨rfl,_⟩|⟨C,z,A,rfl,D,l,_⟩⟩:=f.2.1
  .simp[zt]at e
  simp[zt]at e;subst e;rw[g]at l;simp at l
 exact f.2.2.setCell (by simpa using x) d
theorem aT6(B:Nat)(a:Option Addr)(c1:Nat)(b:List Nd)(b9:U)(f:List Int)(S w:zw)(a3:dI S a b)(c6:Below B S w)(a4:S.heap.size<=B)(c5:B<=w.heap.size)
  (d1:V w B 3 1 b9 (Z f) (f.map (zo .i64))) (e5:Z b+Z f<=10000000):Calls zn 110 #[.slice a (Z b) c1,b9] w λe w'=>∃b8 c0,e=.returned (.tuple #[b8,c0])/\V w' w.heap.size 52 2 b8 (eF b f).1.length (aV (eF b f).1)/\
   V w' B 3 1 c0 (eF b f).2.length ((eF b f).2.map (zo .i64))/\eS B 3 w w':=by
 go_enter Tryz.func110,Tryz.ntmps110;go_wp2;go_loopw[1,6,7] (λs d5 Q wr=>∃c:Nat,c<=Z b/\Q=iQ c/\V wr w.heap.size 52 2 d5 (eF (b.take c) f).1.length (aV (eF (b.take c) f).1)/\
   V wr B 3 1 s (eF (b.take c) f).2.length ((eF (b.take c) f).2.map (zo .i64))/\eS B 3 w wr) (λ_ _ Q _=>Z b-(intOf Q).toNat)
 exact⟨0,zh _,rfl,zd _ _ _ _,d1,eS.refl _ _ _⟩;obtain⟨c,e8,rfl,j,k,o⟩:=hrel;have a5:=xV (b.take c) f;have e9:Z (b.take c)<=c:=zb _ _;by_cases a8:c<Z b
 .obtain⟨e0,f4,rfl,a1,a2⟩:=a3.cell c a8;have L:=c6.trans (o.below c5);have c2:=Below.at' L a4 a1;have c3:=Below.at' L a4 a2;have C:=aJr b f c a8;generalize hR:eF (b.take c) f=d at *;generalize b[c]=nd at *;obtain⟨y,sn⟩:=d;obtain⟨s,g⟩:=nd;simp only at c2 c3 j k a5;obtain⟨c7,c8⟩:=a5;have e1:Z y<=c:=by omega
  have e2:Z sn+Z b<=20000000:=by omega
  have e7:=o.size;clear a1 a2 a3 hR L c7 c8;by_cases D:s.toList.isEmpty=zi
  .obtain⟨d6,d7,rfl,b3⟩:=aFh k;have b5:gW sn g<0->eF (b.take (c+1)) f=(y++[(s,(Z sn:Int))],sn++[g]):=λA=>by rw[C];simp[fH,aK,D,A]
   have b6:¬gW sn g<0->eF (b.take (c+1)) f=(y++[(s,gW sn g)],sn):=λA=>by rw[C];simp[fH,aK,D,A]
   have H:=O b5;have z:=O b6;have W:=O b3;clear C b5 b6 b3;go_wp2;go_loopw[9,10] (λd8 R d9=>∃(n:Nat) (p:Int),n<=Z sn/\R=iQ n/\d8=iQ p/\p=gW (sn.take n) g/\-1<=p/\p<n/\∃i,(∃a0,i=wr.drewN a0)/\d9=i.alloc (.cells #[.string s,iQ g] 52)) (λ_ R _=>Z sn-(intOf R).toNat);exact⟨0,-1,zh _,rfl,rfl,rfl,by omega,by omega,wr,⟨0,rfl⟩,rfl⟩;obtain⟨n,p,d0,rfl,rfl,b1,f0,f1,i,u,rfl⟩:=hrel;have x:V i w.heap.size 52 2 u6 (Z y) (aV y):=bF j (aN u) (zp _);have P:V i B 3 1 (.slice d6 (Z sn) d7) (Z sn) (sn.map (zo .i64)):=bF k (aN u) (zp _);have G:eS B 3 w i:=o.drawn u;have e6:=G.size;have b7:wr.heap.size=i.heap.size:=by obtain⟨a0,rfl⟩:=u;rfl
   have X:=O b7;have E:=O u;clear b7;clear u;have I:=O b1;clear b1;by_cases N:n<Z sn
   .obtain⟨c4,rfl,a6⟩:=W.o n N;have e4:zr (i.alloc (.cells #[.string s,iQ g] 52)) (aQ c4 n)=Y (iQ sn[n]):=aC (aI _ _) (aC (aN E.o) a6);have e3:zr (i.alloc (.cells #[.string s,iQ g] 52)) (aQ wr.heap.size 1)=Y (iQ g):=by rw[X.o];exact aCm i _ _ _ _ rfl 1 _ rfl
    clear a6 x P G;go_wp2;go_quiet (fail);go_wp2
    .have M:(sn[n]==g)=true:=by assumption
     exact⟨⟨n+1,n,by omega,by go_num,rfl,by rw[zu N,aCl,aT (by simpa using M),List.length_take,Nat.min_eq_left d0],by omega,by omega,_,iK E.o ⟨_,rfl⟩,rfl⟩,by simp[intOf];omega⟩
    have M:(sn[n]==g)=false:=by assumption
    exact⟨⟨n+1,p,by omega,by go_num,rfl,by rw[zu N,aCl,aS (by simpa using M)];exact I.o,by omega,by omega,_,iK E.o ⟨_,rfl⟩,rfl⟩,by simp[intOf];omega⟩
   have a9:sn.take n=sn:=zs (by omega);have F:aE (p=gW sn g):=by rw[<-a9];exact I.o
   have r:=O G;have t:=O P;clear a9 I W j k o G E;rw[X.o];by_cases A:p<0
   .have l:=O (H.o (by rw[<-F.o];exact A));clear H z F;go_wp2_with(first
     |(at_builtin;refine eU mR Tryz.underlying24 ((P.alloc _).alloc _) ?_)
     |go_in)
    intro v' w1 q m _;obtain⟨f3,d2,d3,d4,d⟩:=aT5 x t.o r.o q m;have b2:=(d (iQ (Z sn))).1;have J:=O (d (iQ (Z sn)));clear q m x d;go_wp2_with(first
     |(at_builtin;refine eU kK z0 (b2.alloc _) ?_)
     |go_in)
    intro f5 f6 b0 a7 _;have d:=aFi (J.o.1.alloc _) (J.o.2.1.alloc _) (J.o.2.2.alloc _) b0 a7;clear b0 a7 b2 d2 d3 d4;go_wp2;exact⟨⟨c+1,by omega,by go_num,by rw[l.o];exact d.1,by rw[l.o];exact d.2.1,d.2.2⟩,by simp[intOf];omega⟩
   have l:=O (z.o (by rw[<-F.o];omega));clear H z;go_wp2_with(first
    |(at_builtin;refine eU kK z0 ((x.alloc _).alloc _) ?_)
    |go_in)
   intro v' w1 q m _;have d:=aFi ((x.alloc _).alloc _) ((t.o.alloc _).alloc _) ((r.o.alloc _).alloc _) q m;clear q m x;go_wp2;exact⟨⟨c+1,by omega,by go_num,by rw[l.o,<-F.o];exact d.1,by rw[l.o];exact d.2.1,d.2.2⟩,by simp[intOf];omega⟩
  have f2:s.toList.isEmpty=false:=by simpa using D
  have b4:eF (b.take (c+1)) f=(y++[(s,g)],sn):=by rw[C];simp[fH,aK,D]
  have l:=O b4;have r:=O o;have t:=O k;clear C b4 D o k;go_wp2_with(first
   |(at_builtin;refine eU kK z0 ((j.alloc _).alloc _) ?_)
   |go_in)
  intro v' w1 q m _;have d:=aFi ((j.alloc _).alloc _) ((t.o.alloc _).alloc _) ((r.o.alloc _).alloc _) q m;clear q m j;go_wp2;exact⟨⟨c+1,by omega,by go_num,by rw[l.o];exact d.1,by rw[l.o];exact d.2.1,d.2.2⟩,by simp[intOf];omega⟩
 have c9:b.take c=b:=zs (by omega);rw[c9]at j k;have z:=O j;have t:=O k;have r:=O o;clear j k o;go_wp2;go_ret2;exact⟨_,_,rfl,z.o,t.o,r.o⟩
theorem aAr(r t:Option Addr)(C D:Nat)(b c:List (ByteArray×Int))(w:zw)(j:dI w r b)(l:dI w t c):Calls zn 24 #[.slice r (Z b) C,.slice t (Z c) D] w λe w'=>e=.returned (.bool (decide (b=c)))/\∃n,w'=w.drewN n:=by
 have H:=j.few;have I:=l.few;by_cases f:Z b=Z c
 .have G:((Z b:Int) != (Z c:Int))=false:=by rw[f];simp
  have q:aE (Z b=Z c):=f;clear f;go_enter Tryz.func24,Tryz.ntmps24;go_wp2;go_loopw[5] (λo wr=>∃k:Nat,k<=Z b/\o=iQ k/\(∃n,wr=w.drewN n)/\b.take k=c.take k) (λo _=>Z b-(intOf o).toNat);exact⟨0,zh _,rfl,⟨0,rfl⟩,rfl⟩;obtain⟨k,Q,rfl,⟨n,rfl⟩,m⟩:=hrel;by_cases x:k<Z b
  .obtain⟨X,S,rfl,J,M⟩:=j.cell k x;have R:(k:Int)<(Z c:Int):=by have:=q.o;omega
   have y:k<Z c:=by omega
   obtain⟨a0,W,rfl,L,N⟩:=l.cell k y;have u:=rY b[k] c[k];have P:=tJ;have a1:=rZ b[k].1 c[k].1 b[k].2 c[k].2;clear j l;by_cases d:b[k]=c[k]
   .rw[fL d]at u;have g:aE (b[k]=c[k]):=d;clear d;go_wp2;go_quiet (fail);go_wp2;exact⟨⟨k+1,by omega,by go_num,(by first|exact dT _ _ _|exact⟨_,rfl⟩),by rw[zu x,zu y,m,g.o]⟩,by simp[intOf];omega⟩
   rw[gG d]at u;have g:aE (¬b[k]=c[k]):=d;clear d;go_wp2;go_quiet (fail);go_wp2;go_ret;refine⟨?_,(by first|exact dT _ _ _|exact⟨_,rfl⟩)⟩;have:¬b=c:=λi=>g.o (by subst i;rfl)
   simp[this]
  go_wp2;go_ret;refine⟨?_,⟨_,rfl⟩⟩;have E:b.take k=b:=zs (by omega);have F:c.take k=c:=zs (by have:=q.o;omega);rw[E,F]at m;simp[m]
 have G:((Z b:Int) != (Z c:Int))=true:=by rw[bne_iff_ne];omega
 have z:¬b=c:=λi=>f (by rw[i])
 have A:aE (¬b=c):=z;clear z f;go_enter Tryz.func24,Tryz.ntmps24;go_wp2;go_ret;exact⟨by simp[A.o],0,rfl⟩
def qI(b c:Lt):Bool:=decide (b.2=c.2) && b.1==c.1
theorem aT7(b c:Lt):qI b c=decide (b=c):=by rw[z6];simp[qI,z8,and_comm]
theorem aAs(A C:Option Addr)(L M:Nat)(c d:List Lt)(w:zw)(j:bU w A c)(k:bU w C d):Calls zn 12 #[.slice A (Z c) L,.slice C (Z d) M] w λe w'=>e=.returned (.bool (decide (c=d)))/\∃n,w'=w.drewN n:=by
 have a0:=j.few;have a1:=k.few;by_cases l:Z c=Z d
 .have X:((Z c:Int) != (Z d:Int))=false:=by rw[l];simp
  have z:aE (Z c=Z d):=l;clear l;go_enter Tryz.func12,Tryz.ntmps12;go_wp2;go_loopw[5] (λx wr=>∃b:Nat,b<=Z c/\x=iQ b/\(∃n,wr=w.drewN n)/\c.take b=d.take b) (λx _=>Z c-(intOf x).toNat);exact⟨0,zh _,rfl,⟨0,rfl⟩,rfl⟩;obtain⟨b,a6,rfl,q,u⟩:=hrel;replace j:=j.drawn q
  replace k:=k.drawn q
  have m:=O q;clear q;by_cases F:b<Z c
  .obtain⟨b0,a8,I,N,rfl,a2,a4,D⟩:=j.cell b F;have a7:(b:Int)<(Z d:Int):=by have:=z.o;omega
   have G:b<Z d:=by omega
   obtain⟨b1,a9,J,P,rfl,a3,a5,E⟩:=k.cell b G;have f:=λy=>aAr I J N P c[b].2 d[b].2 (wr.drewN y) (D.drewN y) (E.drewN y)
   clear j k D E;by_cases g:c[b].2=d[b].2
   .rw[fL g]at f;have r:=O f;have t:=O g;clear f g;go_wp2;go_quiet ((go_at_call 24;exact zc (aD r _)));go_wp2;go_quiet (fail);go_wp2
    .go_ret;refine⟨?_,iK m.o (by first|exact dT _ _ _|exact⟨_,rfl⟩)⟩;have o:(!c[b].1==d[b].1)=true:=by assumption
     have:¬c=d:=λi=>by subst i;simp at o
     simp[this]
    have R:(!c[b].1==d[b].1)=false:=by assumption
    have Q:c[b]=d[b]:=Prod.ext (by simpa using R) t.o;exact⟨⟨b+1,by omega,by go_num,iK m.o (by first|exact dT _ _ _|exact⟨_,rfl⟩),by rw[zu F,zu G,u,Q]⟩,by simp[intOf];omega⟩
   rw[gG g]at f;have r:=O f;have t:=O g;clear f g;go_wp2;go_quiet ((go_at_call 24;exact zc (aD r _)));go_wp2;go_quiet (fail);go_wp2;go_ret;refine⟨?_,iK m.o (by first|exact dT _ _ _|exact⟨_,rfl⟩)⟩;have:¬c=d:=λi=>t.o (by subst i;rfl)
   simp[this]
  go_wp2;go_ret;refine⟨?_,m.o⟩;have S:c.take b=c:=zs (by omega);have W:d.take b=d:=zs (by have:=z.o;omega);rw[S,W]at u;simp[u]
 have X:((Z c:Int) != (Z d:Int))=true:=by rw[bne_iff_ne];omega
 have o:¬c=d:=λi=>l (by rw[i])
 have H:aE (¬c=d):=o;clear o l;go_enter Tryz.func12,Tryz.ntmps12;go_wp2;go_ret;exact⟨by simp[H.o],0,rfl⟩
def aY(b:List Lt):Nat:=(b.map λc=>Z c.2).sum
theorem tK(b:List Lt)(c:Lt):aY (b++[c])=aY b+Z c.2:=by simp[aY]
theorem aJt(b:List Lt)(d:∀c (d:c<Z b),(b[c]).2.length<=5864062014805):aY b<=Z b*5864062014805:=by
 induction b with
 |nil=>simp[aY]
 |cons x r ih=>
  have f:=d 0 (by simp);have i:=ih (λc g=>by have:=d (c+1) (by simpa using g);simpa using this);simp[aY]at f i ⊢;omega
theorem yX(b:List Lt)(c:Nat):aY (b.take c)<=aY b:=by grind[aY,List.take_append_drop]
theorem aT8(a:Option Addr)(l:Nat)(b:List Lt)(w:zw)(d:bU w a b)(o:Z b<=8):Calls zn 73 #[.slice a (Z b) l] w λe w'=>e=.returned (iQ (aY b))/\w'=w:=by
 have y:aY b<=8*5864062014805:=z9 (aJt b λc i=>by obtain⟨_,_,_,_,_,_,_,m⟩:=d.cell c i;exact m.few) (Nat.mul_le_mul_right _ o);go_enter Tryz.func73,Tryz.ntmps73;go_wp2;go_loop [3,4] (λs f=>∃c:Nat,c<=Z b/\f=iQ c/\s=iQ (aY (b.take c))) (λ_ f=>Z b-(intOf f).toNat);exact⟨0,zh _,rfl,rfl⟩;obtain⟨c,i,rfl,rfl⟩:=hrel;have z:=yX b c;by_cases j:c<Z b
 .obtain⟨D,C,r,t,rfl,u,x,g⟩:=d.cell c j;have A:=g.few;have k:aE (aY (b.take (c+1))=aY (b.take c)+b[c].2.length):=by
   rw[zu j,tK];exact rfl
  clear d g;go_wp2;go_round;·exact⟨c+1,by omega,by go_num,by rw[k.o];go_num⟩
  simp[intOf];omega
 go_wp2;go_ret;have q:b.take c=b:=zs (by omega);rw[q];exact⟨rfl,rfl⟩
def bN(c:List Lt):Bool:=decide (Z c<=8) && decide (aY c<=60)
theorem aAt(a:Option Addr)(d:Nat)(b:List Lt)(w:zw)(f:bU w a b):Calls zn 42 #[.slice a (Z b) d] w λe w'=>e=.returned (.bool (bN b))/\w'=w:=by
 have k:=f.few;by_cases c:Z b<=8
 .have j:=aT8 a d b w f c;have i:=O (show bN b=decide ((aY b:Int)<=60) by simp[bN,c];omega);go_enter Tryz.func42,Tryz.ntmps42;go_wp2_with(go_at_call 73;refine j.mono ?_;rintro e w' ⟨rfl,rfl⟩);go_ret;exact⟨eB i.o.symm,rfl⟩
 have g:bN b=false:=by simp[bN,c]
 rw[g];clear g;go_enter Tryz.func42,Tryz.ntmps42;go_wp2;go_ret;exact⟨rfl,rfl⟩
def fE(b:List Lt)(x:Lt):Bool:=b.any λc=>decide (c=x)
theorem aAu(b:List Lt)(c:Lt):fE b c=zi↔c∈b:=by simp[fE]
theorem aFj(c:List Lt)(d b:Lt):fE (c++[d]) b=(fE c b || decide (d=b)):=by simp[fE]
def jH(b:List Lt)(x:Lt):List Lt:=if fE b x then b else b++[x]
def eG(c:List Lt):List Lt:=c.foldl jH []
theorem aJu(b:List Lt)(c:Nat)(d:c<Z b):eG (b.take (c+1))=jH (eG (b.take c)) b[c]:=by grind[eG,zu]
theorem sC(c:List Lt):Z (eG c)<=Z c/\aY (eG c)<=aY c/\∀d∈eG c,d∈c:=by
 suffices ∀(c:List Lt) (b:List Lt),Z (c.foldl jH b)<=Z b+Z c/\aY (c.foldl jH b)<=aY b+aY c/\∀d∈c.foldl jH b,d∈b\/d∈c by
  grind[aY,eG]
 intro c;induction c with
 |nil=>intro b;simp[aY]
 |cons d r ih=>
  intro b;have g:=ih (jH b d);have i:Z (jH b d)<=Z b+1/\aY (jH b d)<=aY b+Z d.2/\∀f∈jH b d,f∈b\/f=d:=by grind[aY,jH]
  grind[aY,z2]
def iZ(b:List Lt×List Int)(c:Lt):List Lt×List Int:=(b.1++[(c.1,(eF c.2 b.2).1)],(eF c.2 b.2).2)
def dY(b:List Lt):List Lt×List Int:=b.foldl iZ ([],[])
def bB(b:List Lt):List Lt:=(dY (eG b)).1
theorem aJv(b:List Lt)(c:Nat)(d:c<Z b):dY (b.take (c+1))=iZ (dY (b.take c)) b[c]:=by grind[dY,zu]
theorem sD(b:List Lt):(dY b).1.length=Z b/\(dY b).2.length<=aY b:=by
 suffices ∀(b:List Lt) (c:List Lt×List Int),(b.foldl iZ c).1.length=Z c.1+Z b/\(b.foldl iZ c).2.length<=Z c.2+aY b by
  have d:=this b ([],[]);simpa[dY]using d
 intro b;induction b with
 |nil=>intro c;simp[aY]
 |cons x r ih=>
  grind[aY,iZ,xV,z2]
theorem xW(b:List Lt)(c:Lt)(d:c∈b):Z c.2<=aY b:=by
 induction b with
 |nil=>simp at d
 |cons y r ih=>
  grind[aY]
def bH(P:List (Lt×U)):List U:=P.flatMap λp=>[.bool p.1.1,p.2]
theorem aAv(b:List (Lt×U)):Z (bH b)=Z b*2:=by
 induction b with
 |nil=>rfl
 |cons x r ih=>simp[bH]at ih ⊢;omega
theorem yY(c:List (Lt×U))(b:Lt×U):bH (c++[b])=bH c++[.bool b.1.1,b.2]:=by simp[bH]
theorem yZ(b:List (Lt×U)):∀c (d:c<Z b),(bH b)[c*2]?=Y (.bool b[c].1.1)/\(bH b)[c*2+1]?=Y b[c].2:=by
 induction b with
 |nil=>intro c d;simp at d
 |cons x r ih=>
  grind[bH,z1]
theorem tL{b:List (Lt×U)}(i:V w B 55 2 v (Z b) (bH b)):∃a f,v=.slice a (Z b) f/\∀c (i:c<Z b),∃d,a=Y (aQ d 0)/\zr w (aQ d (c*2))=Y (.bool b[c].1.1)/\zr w (aQ d (c*2+1))=Y b[c].2:=by
 obtain⟨l,⟨rfl,m⟩|⟨d,f,k,rfl,o,r,q,t,x,u⟩⟩:=i
 .exact⟨zl,0,by rw[m],λc g=>by omega⟩
 have j:V w B 55 2 (sQ d (Z b) f) (Z b) (bH b):=⟨l,z4 ⟨d,f,k,rfl,o,r,q,t,x,u⟩⟩;refine⟨_,_,rfl,λc g=>⟨d,rfl,?_,?_⟩⟩
 .rw[j.cellAt (c*2) (by omega),(yZ b c g).1]
 rw[j.cellAt (c*2+1) (by omega),(yZ b c g).2]
theorem aZ{c:Nat}(b:V w B e c v n xs):∃a cap,v=.slice a n cap:=by
 obtain⟨_,⟨rfl,rfl⟩|⟨f,cap,d,rfl,_⟩⟩:=b
 .exact⟨_,_,rfl⟩
 exact⟨_,_,rfl⟩
def fN(w:zw)(v:U)(b:List Nd):Prop:=∃a c,v=.slice a (Z b) c/\dI w a b
theorem qJ:(Tryz.prog.info? 55).map (λb=>(b.zero,b.size,b.bytes))=Y (Y (.agg #[.bool z5,nQ]),2,32):=by kernel_rfl
theorem aFk(d:Bool)(a:Option Addr)(n f:Nat):∀c∈[Value.bool d,Value.slice a n f],c.oneCell'=true:=by intro c b;simp at b;rcases b with rfl|rfl<;>rfl
theorem aJw{b:List (Lt×U)}{c:Lt}(d:∀p∈b,fN w p.2 p.1.2)(f:fN w v c.2):∀p∈b++[(c,v)],fN w p.2 p.1.2:=by grind
theorem aT9(c b:Bool)(f d:List Nd)(g:f=d):(c==b)=(z5 || decide ((c,f)=(b,d))):=by subst g;cases c<;>cases b<;>simp
theorem aTa{k s:U}{c:List (Lt×U)}{x:Lt}(g:∀b∈c,V wm B 52 2 b.2 (Z b.1.2) (aV b.1.2))(f:V wm B 55 2 k (Z c) (bH c))(i:V wm B 3 1 s (Z sn) (sn.map (zo .i64)))
  (j:V wm B 52 2 v (Z x.2) (aV x.2)) (l:V w1 B 55 2 v' (Z c+1) (bH c++[.bool x.1,v])) (d:zm wm w1 (zt k)):(∀b∈c++[(x,v)],V w1 B 52 2 b.2 (Z b.1.2) (aV b.1.2))/\V w1 B 55 2 v' (Z (c++[(x,v)])) (bH (c++[(x,v)]))/\V w1 B 3 1 s (Z sn) (sn.map (zo .i64)):=by
 refine⟨λb hq=>?_,?_,i.kept d (dC i f (by decide))⟩
 .rcases List.mem_append.1 hq with hq|hq
  .exact(g b hq).kept d (dC (g b hq) f (by decide))
  simp at hq;subst hq;exact j.kept d (dC j f (by decide))
 rw[yY,ze];exact l
theorem aJx{d:U}{b:List (Lt×U)}{x:Lt}(g:V wm w.heap.size 55 2 d (Z b) (bH b))(c:aB w wm)
  (i:V w1 w.heap.size 55 2 v' (Z b+1) (bH b++[.bool x.1,v])) (f:zm wm w1 (zt d)):V w1 w.heap.size 55 2 v' (Z (b++[(x,v)])) (bH (b++[(x,v)]))/\aB w w1:=by
 refine⟨?_,c.grown f c.size λj e=>(bS g j e).1⟩;rw[yY,ze];exact i
theorem aFl(a:Option Addr)(f6:Nat)(d:List Lt)(w:zw)(a5:bU w a d)(i1:aY d<=1000000):Calls zn 72 #[.slice a (Z d) f6] w λe w'=>∃v g,e=.returned v/\g.map zq=bB d/\V w' w.heap.size 55 2 v (Z g) (bH g)/\
   (∀f∈g,V w' w.heap.size 52 2 f.2 (Z f.1.2) (aV f.1.2))/\aB w w':=by
 have i0:=a5.few;go_enter Tryz.func72,Tryz.ntmps72;go_wp2;go_loopw[3,4] (λd4 E wr=>∃(c:Nat) (b:List (Lt×U)),c<=Z d/\E=iQ c/\b.map zq=eG (d.take c)/\(∀p∈b,fN w p.2 p.1.2)/\V wr w.heap.size 55 2 d4 (Z b) (bH b)/\aB w wr)
  (λ_ E _=>Z d-(intOf E).toNat)
 exact⟨0,[],zh _,rfl,rfl,λp g3=>by simp at g3,zd _ _ _ _,dP⟩;obtain⟨c,b,i2,rfl,l,a6,W,q⟩:=hrel;have h8:Z b<=c:=by
  have e4:=(sC (d.take c)).1;have c4:Z b=Z (eG (d.take c)):=by rw[<-l];simp
  have c5:Z (d.take c)<=c:=zb _ _;omega
 by_cases e6:c<Z d
 .obtain⟨h7,f,c0,c1,rfl,e2,e3,c3⟩:=a5.cell c e6;have M:=aC q e2;have N:=aC q e3;have D:=aJu d c e6;rw[<-l]at D;generalize d[c]=x at *;obtain⟨k,j⟩:=x;simp only at M N c3;obtain⟨g5,g6,rfl,a0⟩:=tL W;have a4:=O a0;have u:=O D;have J:=O a6;have h5:=O l;have e0:=O c3;have F:=O q;have Q:=q.size;clear e2 e3 a5 D l a6 a0 q c3;go_wp2;go_loopw[5,6] (λb1 d2 h4=>∃n:Nat,n<=Z b/\d2=iQ n/\b1=.bool (fE ((b.map zq).take n) (k,j))/\∃f7,h4=wr.drewN f7) (λ_ d2 _=>Z b-(intOf d2).toNat);exact⟨0,zh _,rfl,rfl,0,rfl⟩;obtain⟨n,g2,rfl,rfl,i⟩:=hrel;by_cases S:n<Z b
  .obtain⟨f8,rfl,z,r⟩:=a4.o n S;obtain⟨d5,d6,a2,A⟩:=J.o b[n] (z3 _);rw[a2]at r;have b5:=O (show fE ((b.map zq).take (n+1)) (k,j)=(fE ((b.map zq).take n) (k,j) || decide (b[n].1=(k,j))) by
    rw[zu (by simpa using S),aFj];simp)
   generalize b[n].1=y at *;obtain⟨b3,t⟩:=y;simp only at z r A;have g7:=aC (aN i) z;have g8:=aC (aN i) r;have g9:=aC (aN i) M;have h0:=aC (aN i) N;have G:=λd3=>aAr d5 c0 d6 c1 t j (wr.drewN d3) (((A.below F.o (zp _)).drawn i).drewN d3) (((e0.o.below F.o (zp _)).drawn i).drewN d3)
   have b4:=O i;clear i z r a2 A M N;generalize hkn:fE ((b.map zq).take n) (k,j)=b1 at *;clear hkn;by_cases I:t=j
   .rw[fL I]at G;have a3:=O G;have b8:=O I;clear G I;cases b1
    .go_wp2;go_quiet ((go_at_call 24;exact zc (aD a3 _)));go_wp2;go_quiet (fail);go_wp2;exact⟨⟨n+1,by omega,by go_num,by rw[b5.o];exact congrArg Value.bool (aT9 _ _ _ _ b8.o),iK b4.o (by first|exact dT _ _ _|exact⟨_,rfl⟩)⟩,by simp[intOf];omega⟩
    go_wp2;go_quiet ((go_at_call 24;exact zc (aD a3 _)));go_wp2;go_quiet (fail);go_wp2;exact⟨⟨n+1,by omega,by go_num,by rw[b5.o];simp,iK b4.o (by first|exact dT _ _ _|exact⟨_,rfl⟩)⟩,by simp[intOf];omega⟩
   rw[gG I]at G;have a3:=O G;have b8:=O I;clear G I;cases b1;all_goals
    go_wp2;go_quiet ((go_at_call 24;exact zc (aD a3 _)));go_wp2;go_quiet (fail);go_wp2;exact⟨⟨n+1,by omega,by go_num,by rw[b5.o];simp[z8,b8.o],iK b4.o (by first|exact dT _ _ _|exact⟨_,rfl⟩)⟩,by simp[intOf];omega⟩
  have P:(b.map zq).take n=b.map zq:=zs (by simp;omega);rw[P];clear P a4;have g9:=aC (aN i) M;have h0:=aC (aN i) N;have a1:=bF W (aN i) (zp _);have c8:=F.o.trans ((aN i).mono Q);have d9:=O c8;have g0:=c8.size;clear i M N W c8;cases hkn:fE (b.map zq) (k,j)
  .have b9:aE (eG (d.take (c+1))=b.map zq++[(k,j)]):=O (by rw[u.o];simp[jH,hkn]);have b6:=O a1;clear hkn u;go_wp2_with(first
    |(at_builtin;refine eU qJ yz (a1.alloc _) ?_)
    |go_in)
   intro v' w1 X H _;have L:=aJx (x:=(k,j)) (b6.o.alloc _) (d9.o.alloc g0 _) X H;clear X H a1;go_wp2;exact⟨⟨c+1,b++[((k,j),.slice c0 (Z j) c1)],by omega,by go_num,by rw[b9.o];simp,aJw J.o ⟨c0,c1,rfl,e0.o⟩,L.1,L.2⟩,by simp[intOf];omega⟩
  have b9:aE (eG (d.take (c+1))=b.map zq):=O (by rw[u.o];simp[jH,hkn]);have b6:=O a1;clear hkn u a1;go_wp2;exact⟨⟨c+1,b,by omega,by go_num,b9.o.symm,J.o,b6.o,d9.o⟩,by simp[intOf];omega⟩
 have e5:d.take c=d:=zs (by omega);rw[e5]at l;have c6:=sC d;rw[<-l]at c6;obtain⟨g5,g6,rfl,a0⟩:=tL W;have a4:=O a0;have f1:aE (bB d=(dY (b.map zq)).1):=by unfold bB;rw[<-l];exact rfl
 have J:=O a6;have F:=O q;have e1:=O c6;have Q:=q.size;clear e5 l c6 a0 a6 q W a5;go_wp2;go_loopw[8,9,10] (λd4 s E b2=>∃(n:Nat) (g:List (Lt×U)),n<=Z b/\E=iQ n/\g.map zq=(dY ((b.map zq).take n)).1/\(∀f∈g,V b2 wr.heap.size 52 2 f.2 (Z f.1.2) (aV f.1.2))/\
   V b2 wr.heap.size 55 2 d4 (Z g) (bH g)/\V b2 wr.heap.size 3 1 s (dY ((b.map zq).take n)).2.length ((dY ((b.map zq).take n)).2.map (zo .i64))/\aB wr b2)
  (λ_ _ E _=>Z b-(intOf E).toNat)
 exact⟨0,[],zh _,rfl,rfl,λf C=>by simp at C,zd _ _ _ _,zd _ _ _ _,dP⟩;obtain⟨n,g,g2,rfl,m,a7,c7,a9,o⟩:=hrel;have h9:Z g<=n:=by
  have e4:=(sD ((b.map zq).take n)).1;have c4:Z g=(dY ((b.map zq).take n)).1.length:=by rw[<-m];simp
  have c5:Z ((b.map zq).take n)<=n:=zb _ _;omega
 have g4:(dY ((b.map zq).take n)).2.length<=1000000:=by have e4:=(sD ((b.map zq).take n)).2;have c4:=yX (b.map zq) n;have c5:=e1.o.2.1;omega
 by_cases S:n<Z b
 .obtain⟨f8,rfl,z,r⟩:=a4.o n S;obtain⟨d5,d6,a2,A⟩:=J.o b[n] (z3 _);rw[a2]at r;have D:=aJv (b.map zq) n (by simpa using S);have g1:b[n].1.2.length<=1000000:=by
   have c4:=xW (b.map zq) b[n].1 (List.mem_map.2 ⟨b[n],z3 _,rfl⟩);have c5:=e1.o.2.1;omega
  rw[List.getElem_map]at D;generalize b[n].1=y at *;obtain⟨b3,t⟩:=y;generalize dY ((b.map zq).take n)=ST at *;obtain⟨h1,sn⟩:=ST;simp only at z r A m a9 g4 g1;have g7:=aC o z;have g8:=aC o r;have e7:=A.below F.o (zp _);have a8:=o.size;have c2:=aT6 _ d5 d6 t u9 sn _ wr e7 o (zp _) a8 a9 (by omega);have d0:dY ((b.map zq).take (n+1))=(h1++[(b3,(eF t sn).1)],(eF t sn).2):=D;have c9:=xV t sn;generalize eF t sn=RL at *;obtain⟨d7,i4⟩:=RL;simp only at c2 d0 c9;have u:=O d0;have f2:=O m;have f5:=O c2;have f3:=O a7;have h6:=O c9;clear c9 D d0 a2 A e7 m c2 a9 a7;go_wp2_with(first
   |(go_at_call 110;refine(aD f5).mono ?_;rintro e i7 ⟨i5,i6,rfl,d1,e8,R⟩;obtain⟨h2,h3,rfl⟩:=aZ d1;have i3:=aC (o.trans (R.below a8)) z;have b0:=R.own (by decide) c7;have d8:=O (o.trans (R.below a8));have f9:=d8.o.size;have f4:=O (λf C=>R.own (by decide) (f3.o f C));clear R)
   |(at_builtin;refine eU qJ yz (b0.alloc _) ?_)
   |go_in)
  intro v' w1 X H _;have L:=aTa (x:=(b3,d7)) (λf C=>(f4.o f C).alloc _) (b0.alloc _) (e8.alloc _) ((fM d1 a8).alloc _) X H;have f0:=O ((d8.o.alloc f9 _).grown H (by simp;omega) λc e=>(bS b0 c e).1);have b7:=O L;clear X H b0 e8 d1 L;go_wp2;exact⟨⟨n+1,g++[((b3,d7),.slice h2 (Z d7) h3)],by omega,by go_num,by rw[u.o,List.map_append,f2.o];rfl,b7.o.1,b7.o.2.1,by rw[u.o];exact b7.o.2.2,f0.o⟩,by simp[intOf];omega⟩
 have P:(b.map zq).take n=b.map zq:=zs (by simp;omega);rw[P]at m;rw[<-f1.o]at m;have e9:=O (And.intro m (And.intro (fM c7 Q) (And.intro (λf C=>fM (a7 f C) Q) (F.o.trans (o.mono Q)))));clear m a7 c7 a9 o P;go_wp2;go_ret;exact⟨_,g,rfl,e9.o⟩
