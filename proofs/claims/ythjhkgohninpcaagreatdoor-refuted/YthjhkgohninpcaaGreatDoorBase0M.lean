import Derived.Test.YthjhkgohninpcaaGreatDoorChecked
import Derived.WalkKit
import Derived.WalkSpells
import Derived.WalkLawsBesides
import Derived.Laws.StructEq
import Derived.Deep.QuietTactic
import Derived.BigQuiet
open List renaming take_succ_eq_append_getElem→zv,drop_eq_getElem_cons→zs,take_of_length_le→zn,length_append→zl,all_eq_true→zj,range→zg
open Nat renaming le_refl→zw,lt_of_lt_of_le→zr
open Or renaming inr→zm,inl→zh
namespace Go.Proofs.YthjhkgohninpcaaGreatDoor
open _root_.Go.Proofs.Tryz renaming prog→zz,ntmps116→zu,func116→zt,underlying53→zp
open Value renaming int→zy,ownBlock→zx
open World renaming setCell→zo,drewN_drewN→zk
open Go.RowKit
set_option maxHeartbeats 2000000
set_option maxRecDepth 100000
variable{s:ByteArray}{sn:List Int}{xs:List Value}{B B' n:Nat}{a:Option Addr}{p:Prop}{T e:TypeId}{sv v v':Value}{w w' w1:World}
def aG(p:Prop):Prop:=p
theorem aG.o(b:aG p):p:=b
theorem aG.out(b:aG p):p:=b
abbrev aC(w w1:World):Prop:=Below w.heap.size w w1
theorem kT{b:Type}[BEq b][LawfulBEq b]{a c:b}(d:a≠c):(a==c)=false:=beq_eq_false_iff_ne.2 d
theorem dE[Decidable p](b:¬p):decide p=false:=decide_eq_false b
theorem eI[Decidable p](b:p):decide p=true:=decide_eq_true b
theorem aI{c:Prop}{_:Decidable c}(b:¬c){d:Sort _}{t e:d}:ite c t e=e:=if_neg b
theorem aJ{b:Prop}{_:Decidable b}(c:b){d:Sort _}{t e:d}:ite b t e=t:=if_pos c
theorem aA(b:p):aG p:=b
theorem aB(b:aG p):p:=b
theorem kU{c:IntKind}{a b:Int}(d:a=b):Ending.returned (.int c a)=.returned (.int c b):=by rw [d]
theorem bM{a b:Bool}(c:a=b):Ending.returned (.bool a)=.returned (.bool b):=by rw [c]
theorem jV(w:World)(n c:Nat):∃b,(w.drewN n).drewN c=w.drewN b:=⟨_,zk _ _ _⟩
theorem gY{b:World}(c:∃n,w1=w.drewN n)(d:∃n,b=w1.drewN n):∃n,b=w.drewN n:=by obtain ⟨n,rfl⟩:=c;obtain ⟨f,rfl⟩:=d;exact ⟨_,zk _ _ _⟩
theorem aL(b:∃n,w1=w.drewN n):aC w w1:=by obtain ⟨n,rfl⟩:=b;exact ⟨rfl,rfl,rfl,zw _,λ_ _=>rfl⟩
theorem Below.at'(c:Below B w w1)(d:w.heap.size<=B){a:Addr}{v:Value}(b:w.cell? a=some v):w1.cell? a=some v:=
 (c.cell (zr (World.block_lt_of_cell? w a b) d)).trans b
theorem aD{a:Addr}(c:aC w w1)(b:w.cell? a=some v):w1.cell? a=some v:=Below.at' c (zw _) b
theorem aV{c:World}(b:aC w w1)(k:aC w1 c):aC w c:=b.trans (k.mono b.size)
abbrev Nd:=ByteArray×Int
abbrev Lt:=Bool×List Nd
structure dO(w:World)(a:Option Addr)(l:List Nd):Prop where
 few:l.length<=5864062014805
 short:∀k (h:k<l.length),l[k].1.size<=140737488355328
 cell:∀k (h:k<l.length),∃b o,a=some ⟨b,o,none⟩/\w.cell? ⟨b,o+k*2,none⟩=some (.string l[k].1)/\w.cell? ⟨b,o+k*2+1,none⟩=some (.int .i64 l[k].2)
structure bD(w:World)(a:Option Addr)(c:List Lt):Prop where
 few:c.length<=4398046511104
 cell:∀k (h:k<c.length),∃b o aa cap,a=some ⟨b,o,none⟩/\w.cell? ⟨b,o+k*2,none⟩=some (.bool c[k].1)/\w.cell? ⟨b,o+k*2+1,none⟩=some (.slice aa c[k].2.length cap)/\dO w aa c[k].2
theorem dO.below{d:List Nd}(b:dO w a d){B:Nat}(k:Below B w w1)(c:w.heap.size<=B):dO w1 a d:=
 ⟨b.few,b.short,λj m=>by obtain ⟨f,o,g,i,l⟩:=b.cell j m;exact ⟨f,o,g,Below.at' k c i,Below.at' k c l⟩⟩
theorem bD.below{d:List Lt}(c:bD w a d){B:Nat}(k:Below B w w1)(b:w.heap.size<=B):bD w1 a d:=
 ⟨c.few,λj r=>by obtain ⟨g,t,f,i,l,m,o,q⟩:=c.cell j r;exact ⟨g,t,f,i,l,Below.at' k b m,Below.at' k b o,q.below k b⟩⟩
theorem dO.drawn{b:List Nd}(c:dO w a b)(d:∃n,w1=w.drewN n):dO w1 a b:=c.below (aL d) (zw _)
theorem bD.drawn{b:List Lt}(c:bD w a b)(d:∃n,w1=w.drewN n):bD w1 a b:=c.below (aL d) (zw _)
theorem dO.drewN{b:List Nd}(c:dO w a b)(n:Nat):dO (w.drewN n) a b:=c.drawn ⟨n,rfl⟩
theorem bD.drewN{b:List Lt}(c:bD w a b)(n:Nat):bD (w.drewN n) a b:=c.drawn ⟨n,rfl⟩
theorem aNa:zz.stoodInHeld 106=false:=by kernel_rfl
theorem xX:zz.eqGuardType zz.depth 106=false:=by kernel_rfl
theorem aNb:zz.underlying 106=some (.struct (zz.fieldsOf 106)):=by kernel_rfl
def zY(s:ByteArray)(a:Int)(c:ByteArray)(b:Int):Bool:=s.toList==c.toList && a==b
theorem wB{b:ByteArray}:s.toList=b.toList↔s=b:=by rw [ByteArray.toList_eq,ByteArray.toList_eq];obtain ⟨⟨c⟩⟩:=s;obtain ⟨⟨d⟩⟩:=b;simp
theorem wC(b c:ByteArray×Int):zY b.1 b.2 c.1 c.2=decide (b=c):=by rw [Bool.eq_iff_iff];simp [zY,wB,Prod.ext_iff]
theorem wD(s c:ByteArray)(a b:Int)(w:World):(Op.equalIn 10000 106 (.agg #[.string s,.int .i64 a]) (.agg #[.string c,.int .i64 b])).run zz w=.ok (zY s a c b) w:=by unfold zY;rw [show (10000:Nat)=9999+1 from rfl,run_equalIn_agg w 9999 106 _ _ aNb aNa];simp only [Program.fieldsOf,Tryz.underlying106];go_simp;cases h1:(s.toList==c.toList)<;>cases h2:(a==b)<;>simp_all
structure dQ(B:Nat)(T:TypeId)(w w':World):Prop where
 os:w'.os=w.os
 tape:w'.tape=w.tape
 output:w'.output=w.output
 size:w.heap.size<=w'.heap.size
 block:∀k,k<w.heap.size->(k<B\/∀cs fr,w.heap[k]?≠some (.cells cs T fr))->w'.heap[k]?=w.heap[k]?
theorem dQ.refl(B:Nat)(T:TypeId)(w:World):dQ B T w w:=⟨rfl,rfl,rfl,zw _,λ_ _ _=>rfl⟩
theorem dQ.trans{B:Nat}{T:TypeId}{a b d:World}(c:dQ B T a b)(k:dQ B T b d):dQ B T a d:=
 ⟨k.os.trans c.os,k.tape.trans c.tape,k.output.trans c.output,Nat.le_trans c.size k.size,λi g f=>by
  have e:=c.block i g f;rw [k.block i (zr g c.size) (by rw [e];exact f),e]⟩
theorem dQ.of_below(b:aC w w'):dQ B T w w':=⟨b.os,b.tape,b.output,b.size,λk c _=>b.block k c⟩
theorem dQ.below(b:dQ B T w w')(d:B<=w.heap.size):Below B w w':=⟨b.os,b.tape,b.output,b.size,λk c=>b.block k (by omega) (zh c)⟩
theorem dQ.alloc{a:World}(c:dQ B T a w)(b:Obj):dQ B T a (w.alloc b):=c.trans (.of_below ((Below.refl _ _).alloc (zw _) b))
theorem dQ.setCell{a:World}(b:dQ B T a w){p:Addr}(f:a.heap.size<=p.block)(u:Value):dQ B T a (w.setCell p u):=
 ⟨b.os,b.tape,b.output,by have:=b.size;simpa [zo] using this,λk d c=>by
  rw [Below.heap_setCell _ _ _ _ (by omega)];exact b.block k d c⟩
theorem dQ.drawn{a:World}(b:dQ B T a w)(c:∃n,w1=w.drewN n):dQ B T a w1:=b.trans (.of_below (aL c))
theorem dQ.grownOwn{a:World}{j:Nat}(c:dQ B T a w)(b:w.grownBy w' v.ownBlock)(g:w.ownsRow B T j v n xs):dQ B T a w':=by
 refine c.trans ⟨b.os,b.tape,b.output,b.size,λi f hc=>b.block i f ?_⟩;intro e;obtain ⟨_,⟨rfl,_⟩|⟨m,k,l,rfl,o,d,_⟩⟩:=g
 ·simp [zx] at e
 ·simp [zx] at e;subst e;rcases hc with hc|hc
  ·omega
  ·exact hc _ _ d
theorem dQ.grownNew{a:World}{j:Nat}(b:dQ B T a w)(c:w.grownBy w' v.ownBlock)(i:w.ownsRow B' e j v n xs)(o:a.heap.size<=B'):dQ B T a w':=by
 refine ⟨c.os.trans b.os,c.tape.trans b.tape,c.output.trans b.output,Nat.le_trans b.size c.size,λf d g=>?_⟩;rw [c.block f (zr d b.size) ?_,b.block f d g];intro e;obtain ⟨_,⟨rfl,_⟩|⟨m,k,l,rfl,q,r,_⟩⟩:=i
 ·simp [zx] at e
 ·simp [zx] at e;omega
theorem bL{d:Nat}(c:w.ownsRow B e d v n xs):∀b,v.ownBlock=some b->B<=b/\b<w.heap.size:=World.ownsRow.lt c
theorem dQ.own{f:Nat}(k:dQ B T w w')(o:e≠T)(r:w.ownsRow B' e f v n xs):w'.ownsRow B' e f v n xs:=by
 obtain ⟨d,⟨rfl,l⟩|⟨g,i,j,rfl,m,b,t⟩⟩:=r
 ·exact ⟨d,zh ⟨rfl,l⟩⟩
 ·refine ⟨d,zm ⟨g,i,j,rfl,m,?_,t⟩⟩;have q:g<w.heap.size:=(Array.getElem?_eq_some_iff.1 b).1;rw [k.block g q (zm ?_),b];intro u x c;rw [b] at c;simp at c;exact o c.2.1
theorem bW{c:TypeId}{k l:Nat}{j:Nat}{m:List Value}(d:w.ownsRow B e k v n xs)(f:w.ownsRow B' c l v' j m)(g:e≠c):v.ownBlock=none\/v.ownBlock≠v'.ownBlock:=by
 obtain ⟨_,⟨rfl,_⟩|⟨u,o,r,rfl,y,i,_⟩⟩:=d
 ·exact zh rfl
 ·obtain ⟨_,⟨rfl,_⟩|⟨x,q,t,rfl,z,b,_⟩⟩:=f
  ·right;simp [zx]
  ·right;simp [zx];rintro rfl;rw [i] at b;simp at b;exact g b.2
theorem bB{d:Nat}(i:w.ownsRow B e d v n xs)(m:Below B' w w')(o:w.heap.size<=B'):w'.ownsRow B e d v n xs:=by
 obtain ⟨b,⟨rfl,j⟩|⟨g,cap,f,rfl,k,c,l⟩⟩:=i
 ·exact ⟨b,zh ⟨rfl,j⟩⟩
 ·refine ⟨b,zm ⟨g,cap,f,rfl,k,?_,l⟩⟩;have q:g<w.heap.size:=(Array.getElem?_eq_some_iff.1 c).1;rw [m.block g (by omega),c]
theorem eJ{c:Nat}(i:w.ownsRow B e c v n xs)(l:B'<=B):w.ownsRow B' e c v n xs:=by
 obtain ⟨b,⟨rfl,j⟩|⟨g,d,f,rfl,m,k⟩⟩:=i
 ·exact ⟨b,zh ⟨rfl,j⟩⟩
 ·exact ⟨b,zm ⟨g,d,f,rfl,by omega,k⟩⟩
def aP(b:List Nd):List Value:=b.flatMap λn=>[.string n.1,.int .i64 n.2]
theorem aCn(b:List Nd):(aP b).length=b.length*2:=by
 induction b with
 |nil=>rfl
 |cons x r ih=>simp [aP] at ih ⊢;omega
theorem pT(c:List Nd)(b:Nd):aP (c++[b])=aP c++[.string b.1,.int .i64 b.2]:=by simp [aP]
theorem uI(c:List Nd):∀b (d:b<c.length),(aP c)[b*2]?=some (.string c[b].1)/\(aP c)[b*2+1]?=some (.int .i64 c[b].2):=by
 induction c with
 |nil=>intro b d;simp at d
 |cons x r ih=>
  intro b d;cases b with
  |zero=>simp [aP]
  |succ b=>
   have:=ih b (by simpa using d);have f:(b+1)*2=b*2+2:=by omega
   have g:(b+1)*2+1=b*2+1+2:=by omega
   rw [f];simp only [aP,List.flatMap_cons,List.cons_append,List.nil_append,List.getElem?_cons_succ,List.getElem_cons_succ] at this ⊢;exact this
theorem tA{b:List Nd}(i:w.ownsRow B 106 2 v b.length (aP b))(j:b.length<=5864062014805)(l:∀c (i:c<b.length),b[c].1.size<=140737488355328):∃a d,v=.slice a b.length d/\dO w a b:=by
 obtain ⟨o,⟨rfl,q⟩|⟨f,d,m,rfl,r,u,t,x,z,y⟩⟩:=i
 ·refine ⟨none,0,by rw [q],⟨j,l,λc g=>by omega⟩⟩
 ·have k:w.ownsRow B 106 2 (.slice (some ⟨f,0,none⟩) b.length d) b.length (aP b):=⟨o,zm ⟨f,d,m,rfl,r,u,t,x,z,y⟩⟩;refine ⟨_,_,rfl,⟨j,l,λc g=>⟨f,0,rfl,?_,?_⟩⟩⟩
  ·rw [Nat.zero_add,k.cellAt (c*2) (by omega),(uI b c g).1]
  ·rw [Nat.zero_add,k.cellAt (c*2+1) (by omega),(uI b c g).2]
def aE(s:ByteArray)(b:Nat):Nat:=if h:b<s.size then (s[b]'h).toNat else 0
theorem fP(s:ByteArray)(b:Nat)(c:b<s.size):aE s b=(s[b]'c).toNat:=dif_pos c
def dK(b:Nat):Nat:=if b<128 then 1 else if b<194 then 0 else if b<224 then 2 else if b<240 then 3 else if b<245 then 4 else 0
def iH(b:Nat):Bool:=decide (128<=b) && decide (b<=191)
def qV(b c:Nat):Bool:=(decide (b=224) && decide (c<160)) || (decide (b=237) && decide (159<c)) || (decide (b=240) && decide (c<144)) || (decide (b=244) && decide (143<c))
theorem uJ(b c:Nat):qV b c=true↔(b=224/\c<160)\/(b=237/\159<c)\/(b=240/\c<144)\/(b=244/\143<c):=by simp [qV,or_assoc]
def bF(s:ByteArray)(c:Nat):Nat:=
 let b:=aE s c;let z:=dK b;if z<=1 then z
 else if s.size<c+z then 0
 else if (zg z).all (λd=>d==0 || iH (aE s (c+d))) && !qV b (aE s (c+1)) then z else 0
theorem rQ(s:ByteArray)(p:Nat)(b:dK (aE s p)<=1):bF s p=dK (aE s p):=by simp [bF,b]
theorem zZ(s:ByteArray)(p b:Nat)(f:dK (aE s p)=b)(d:¬b<=1)(c:s.size<p+b):bF s p=0:=by subst f;simp [bF,d,c]
theorem xY(s:ByteArray)(p c b:Nat)(j:dK (aE s p)=c)(f:¬c<=1)(k:0<b)(i:b<c)(g:iH (aE s (p+b))=false):bF s p=0:=by
 subst j;have:((zg (dK (aE s p))).all (λb=>b==0 || iH (aE s (p+b))))=false:=by rw [Bool.eq_false_iff];intro d;rw [zj] at d;have:=d b (by simpa using i);simp [g] at this;omega
 simp [bF,f,this]
theorem aA0(s:ByteArray)(p c:Nat)(k:dK (aE s p)=c)(g:¬c<=1)(d:¬s.size<p+c)(i:∀b,0<b->b<c->iH (aE s (p+b))=true):bF s p=if qV (aE s p) (aE s (p+1)) then 0 else c:=by
 subst k;have:((zg (dK (aE s p))).all (λb=>b==0 || iH (aE s (p+b))))=true:=by
  rw [zj];intro b j;by_cases f:b=0
  ·simp [f]
  ·simp [i b (by omega) (by simpa using j)]
 simp only [bF,aI g,aI d,this,Bool.true_and];cases qV (aE s p) (aE s (p+1))<;>simp
theorem xZ(s:ByteArray)(p:Nat)(c:p<s.size):p+bF s p<=s.size:=by
 by_cases b:dK (aE s p)<=1
 ·rw [rQ s p b];omega
 ·simp only [bF,aI b];split
  ·omega
  ·split<;>omega
theorem aNc(s:ByteArray)(p:Nat)(w:World)(c:p<s.size)(b:aE s p<128):Calls zz 116 #[.string s,.int .i64 p] w λe w'=>e=.returned (.int .i64 (bF s p))/\w'=w:=by
 have d:dK (aE s p)=1:=by unfold dK;rw [aJ b]
 have f:=aA (rQ s p (by omega));have g:=aA d;rw [fP s p c] at b;clear d;have i:((s[p]'c).toNat:Int)<128:=by omega
 go_enter zt,zu;go_wp2;go_ret;exact ⟨kU (by rw [f.o,g.o];rfl),rfl⟩
theorem aNd(s:ByteArray)(p:Nat)(w:World)(b:p<s.size)(c:(128<=aE s p/\aE s p<194)\/245<=aE s p):Calls zz 116 #[.string s,.int .i64 p] w λe w'=>e=.returned (.int .i64 (bF s p))/\w'=w:=by
 have d:dK (aE s p)=0:=by unfold dK;split<;>(try split)<;>(try split)<;>(try split)<;>(try split)<;>omega
 have f:=aA (rQ s p (by omega));have g:=aA d;rw [fP s p b] at c;clear d;have g2:((128:Int)<=((s[p]'b).toNat:Int)/\((s[p]'b).toNat:Int)<194)\/(245:Int)<=((s[p]'b).toNat:Int):=by omega
 clear c;rcases g2 with ⟨i,g2⟩|g2;all_goals
  go_enter zt,zu;go_wp2;go_ret;exact ⟨kU (by rw [f.o,g.o];rfl),rfl⟩
theorem aNe(s:ByteArray)(p:Nat)(w:World)(l:p<s.size)(Q:s.size<=9223372036854775000)(f:194<=aE s p)(j:aE s p<224):Calls zz 116 #[.string s,.int .i64 p] w λe w'=>e=.returned (.int .i64 (bF s p))/\w'=w:=by
 have A:dK (aE s p)=2:=by unfold dK;split<;>(try split)<;>(try split)<;>(try split)<;>(try split)<;>omega
 have m:=aA A;have o:=fP s p l;have C:=aA o;rw [o] at f j;clear o A;have I:(194:Int)<=((s[p]'l).toNat:Int):=by omega
 have J:((s[p]'l).toNat:Int)<224:=by omega
 by_cases z:s.size<p+2
 ·have g:=aA (zZ s p 2 m.o (by omega) z);go_enter zt,zu;go_wp2;go_ret;exact ⟨kU (by rw [g.o];rfl),rfl⟩
 ·go_enter zt,zu;go_wp2;go_loop [7] (λi=>∃b:Nat,1<=b/\b<=2/\i=.int .i64 b/\∀d,0<d->d<b->iH (aE s (p+d))=true) (λi=>2-(intOf i).toNat);case atStart=>exact ⟨1,by omega,by omega,rfl,λd f j=>by omega⟩
  case round=>
   obtain ⟨b,N,O,rfl,u⟩:=hrel;have r:=aA u;clear u;by_cases H:b<2
   ·have c:p+b<s.size:=by omega
    have t:=fP s (p+b) c;have q:=aA t;clear t;by_cases x:128<=(s[p+b]'c).toNat/\(s[p+b]'c).toNat<=191
    ·obtain ⟨E,F⟩:=x;have L:(128:Int)<=((s[p+b]'c).toNat:Int):=by omega
     have M:((s[p+b]'c).toNat:Int)<=191:=by omega
     go_wp2;go_round;case rel=>
      refine ⟨b+1,by omega,by omega,by go_num,λd f j=>?_⟩;by_cases G:d=b
      ·subst G;rw [q.o];simp [iH,E,F]
      ·exact r.o d f (by omega)
     case measure=>simp [intOf];omega
    ·have g:=aA (xY s p 2 b m.o (by omega) (by omega) H (by rw [q.o];simp [iH];omega));have hcz:((s[p+b]'c).toNat:Int)<128\/(191:Int)<((s[p+b]'c).toNat:Int):=by omega
     clear x;rcases hcz with hcz|hcz;all_goals
      go_wp2;go_ret;exact ⟨kU (by rw [g.o];rfl),rfl⟩
   ·have y:p+1<s.size:=by omega
    have P:b=2:=by omega
    have g:=aA (aA0 s p 2 m.o (by omega) z (λi f j=>r.o i f (by omega)));have D:=aA (fP s (p+1) y);go_wp2;all_goals
     go_ret;refine ⟨kU ?_,rfl⟩;rw [g.o,C.o,D.o];by_cases k:qV (s[p]'l).toNat (s[p+1]'y).toNat=true
     ·rw [aJ k];rw [uJ] at k;first|rfl|(exfalso;omega)
     ·rw [aI k];rw [uJ] at k;first|rfl|(exfalso;omega)
theorem aNf(s:ByteArray)(p:Nat)(w:World)(l:p<s.size)(Q:s.size<=9223372036854775000)(f:224<=aE s p)(j:aE s p<240):Calls zz 116 #[.string s,.int .i64 p] w λe w'=>e=.returned (.int .i64 (bF s p))/\w'=w:=by
 have A:dK (aE s p)=3:=by unfold dK;split<;>(try split)<;>(try split)<;>(try split)<;>(try split)<;>omega
 have m:=aA A;have o:=fP s p l;have C:=aA o;rw [o] at f j;clear o A;have I:(224:Int)<=((s[p]'l).toNat:Int):=by omega
 have J:((s[p]'l).toNat:Int)<240:=by omega
 by_cases z:s.size<p+3
 ·have g:=aA (zZ s p 3 m.o (by omega) z);go_enter zt,zu;go_wp2;go_ret;exact ⟨kU (by rw [g.o];rfl),rfl⟩
 ·go_enter zt,zu;go_wp2;go_loop [7] (λi=>∃b:Nat,1<=b/\b<=3/\i=.int .i64 b/\∀d,0<d->d<b->iH (aE s (p+d))=true) (λi=>3-(intOf i).toNat);case atStart=>exact ⟨1,by omega,by omega,rfl,λd f j=>by omega⟩
  case round=>
   obtain ⟨b,N,O,rfl,u⟩:=hrel;have r:=aA u;clear u;by_cases H:b<3
   ·have c:p+b<s.size:=by omega
    have t:=fP s (p+b) c;have q:=aA t;clear t;by_cases x:128<=(s[p+b]'c).toNat/\(s[p+b]'c).toNat<=191
    ·obtain ⟨E,F⟩:=x;have L:(128:Int)<=((s[p+b]'c).toNat:Int):=by omega
     have M:((s[p+b]'c).toNat:Int)<=191:=by omega
     go_wp2;go_round;case rel=>
      refine ⟨b+1,by omega,by omega,by go_num,λd f j=>?_⟩;by_cases G:d=b
      ·subst G;rw [q.o];simp [iH,E,F]
      ·exact r.o d f (by omega)
     case measure=>simp [intOf];omega
    ·have g:=aA (xY s p 3 b m.o (by omega) (by omega) H (by rw [q.o];simp [iH];omega));have hcz:((s[p+b]'c).toNat:Int)<128\/(191:Int)<((s[p+b]'c).toNat:Int):=by omega
     clear x;rcases hcz with hcz|hcz;all_goals
      go_wp2;go_ret;exact ⟨kU (by rw [g.o];rfl),rfl⟩
   ·have y:p+1<s.size:=by omega
    have P:b=3:=by omega
    have g:=aA (aA0 s p 3 m.o (by omega) z (λi f j=>r.o i f (by omega)));have D:=aA (fP s (p+1) y);go_wp2;all_goals
     go_ret;refine ⟨kU ?_,rfl⟩;rw [g.o,C.o,D.o];by_cases k:qV (s[p]'l).toNat (s[p+1]'y).toNat=true
     ·rw [aJ k];rw [uJ] at k;first|rfl|(exfalso;omega)
     ·rw [aI k];rw [uJ] at k;first|rfl|(exfalso;omega)
theorem aNg(s:ByteArray)(p:Nat)(w:World)(l:p<s.size)(Q:s.size<=9223372036854775000)(f:240<=aE s p)(j:aE s p<245):Calls zz 116 #[.string s,.int .i64 p] w λe w'=>e=.returned (.int .i64 (bF s p))/\w'=w:=by
 have A:dK (aE s p)=4:=by unfold dK;split<;>(try split)<;>(try split)<;>(try split)<;>(try split)<;>omega
 have m:=aA A;have o:=fP s p l;have C:=aA o;rw [o] at f j;clear o A;have I:(240:Int)<=((s[p]'l).toNat:Int):=by omega
 have J:((s[p]'l).toNat:Int)<245:=by omega
 by_cases z:s.size<p+4
 ·have g:=aA (zZ s p 4 m.o (by omega) z);go_enter zt,zu;go_wp2;go_ret;exact ⟨kU (by rw [g.o];rfl),rfl⟩
 ·go_enter zt,zu;go_wp2;go_loop [7] (λi=>∃b:Nat,1<=b/\b<=4/\i=.int .i64 b/\∀d,0<d->d<b->iH (aE s (p+d))=true) (λi=>4-(intOf i).toNat);case atStart=>exact ⟨1,by omega,by omega,rfl,λd f j=>by omega⟩
  case round=>
   obtain ⟨b,N,O,rfl,u⟩:=hrel;have r:=aA u;clear u;by_cases H:b<4
   ·have c:p+b<s.size:=by omega
    have t:=fP s (p+b) c;have q:=aA t;clear t;by_cases x:128<=(s[p+b]'c).toNat/\(s[p+b]'c).toNat<=191
    ·obtain ⟨E,F⟩:=x;have L:(128:Int)<=((s[p+b]'c).toNat:Int):=by omega
     have M:((s[p+b]'c).toNat:Int)<=191:=by omega
     go_wp2;go_round;case rel=>
      refine ⟨b+1,by omega,by omega,by go_num,λd f j=>?_⟩;by_cases G:d=b
      ·subst G;rw [q.o];simp [iH,E,F]
      ·exact r.o d f (by omega)
     case measure=>simp [intOf];omega
    ·have g:=aA (xY s p 4 b m.o (by omega) (by omega) H (by rw [q.o];simp [iH];omega));have hcz:((s[p+b]'c).toNat:Int)<128\/(191:Int)<((s[p+b]'c).toNat:Int):=by omega
     clear x;rcases hcz with hcz|hcz;all_goals
      go_wp2;go_ret;exact ⟨kU (by rw [g.o];rfl),rfl⟩
   ·have y:p+1<s.size:=by omega
    have P:b=4:=by omega
    have g:=aA (aA0 s p 4 m.o (by omega) z (λi f j=>r.o i f (by omega)));have D:=aA (fP s (p+1) y);go_wp2;all_goals
     go_ret;refine ⟨kU ?_,rfl⟩;rw [g.o,C.o,D.o];by_cases k:qV (s[p]'l).toNat (s[p+1]'y).toNat=true
     ·rw [aJ k];rw [uJ] at k;first|rfl|(exfalso;omega)
     ·rw [aI k];rw [uJ] at k;first|rfl|(exfalso;omega)
theorem aCo(s:ByteArray)(p:Nat)(w:World)(b:p<s.size)(c:s.size<=9223372036854775000):Calls zz 116 #[.string s,.int .i64 p] w λe w'=>e=.returned (.int .i64 (bF s p))/\w'=w:=by
 rcases (show aE s p<128\/((128<=aE s p/\aE s p<194)\/245<=aE s p)\/(194<=aE s p/\aE s p<224)\/(224<=aE s p/\aE s p<240)\/(240<=aE s p/\aE s p<245) by omega) with h|h|h|h|h
 ·exact aNc s p w b h
 ·exact aNd s p w b h
 ·exact aNe s p w b c h.1 h.2
 ·exact aNf s p w b c h.1 h.2
 ·exact aNg s p w b c h.1 h.2
def iJ(s:ByteArray):Nat->Nat->Nat->Bool
 |0,_,m=>decide (1<=m) && decide (m<=20)
 |f+1,p,m=>if p<s.size then (if bF s p=0\/aE s p=10 then false else iJ s f (p+bF s p) (m+1)) else decide (1<=m) && decide (m<=20)
def gE(s:ByteArray):Bool:=iJ s s.size 0 0
theorem aA1(s:ByteArray)(b p c:Nat)(d:¬p<s.size):iJ s b p c=(decide (1<=c) && decide (c<=20)):=by
 cases b with
 |zero=>rfl
 |succ b=>simp [iJ,d]
theorem yA(s:ByteArray)(b p g:Nat)(d:p<s.size)(i:s.size-p<=b)(f:bF s p=0\/aE s p=10):iJ s b p g=false:=by obtain ⟨c,rfl⟩ : ∃c,b=c+1:=⟨b-1,by omega⟩;simp only [iJ,aJ d,aJ f]
theorem aFz(s:ByteArray)(c p d:Nat)(f:p<s.size)(i:s.size-p<=c)(g:¬(bF s p=0\/aE s p=10)):∃b,s.size-(p+bF s p)<=b/\iJ s c p d=iJ s b (p+bF s p) (d+1):=by
 obtain ⟨b,rfl⟩ : ∃b,c=b+1:=⟨c-1,by omega⟩;refine ⟨b,by omega,?_⟩;simp only [iJ,aJ f,aI g]
theorem aG0(s:ByteArray)(w:World)(z:s.size<=9223372036854775000):Calls zz 115 #[.string s] w λe w'=>e=.returned (.bool (gE s))/\w'=w:=by
 go_enter Tryz.func115,Tryz.ntmps115;go_wp2;go_loop [3,4] (λA q=>∃p d g:Nat,p<=s.size/\d<=p/\q=.int .i64 p/\A=.int .i64 d/\s.size-p<=g/\gE s=iJ s g p d) (λ_ q=>s.size-(intOf q).toNat);case atStart=>exact ⟨0,0,s.size,by omega,by omega,rfl,rfl,by omega,rfl⟩
 case round=>
  obtain ⟨p,d,g,D,C,rfl,rfl,m,b⟩:=hrel;by_cases c:p<s.size
  ·have i:=aCo s p w c z;have y:=xZ s p c;have j:=fP s p c;by_cases k:bF s p=0
   ·rw [yA s g p d c m (zh k)] at b;rw [k] at i;have f:=aA b;clear b j k y;go_wp2_with (go_at_call 116;refine i.mono ?_;rintro e w' ⟨rfl,rfl⟩);go_ret;exact ⟨bM f.o.symm,rfl⟩
   ·generalize hn:bF s p=n at *;have E:((n:Int)==0)=false:=by rw [beq_eq_false_iff_ne];omega
    by_cases l:aE s p=10
    ·rw [yA s g p d c m (zm l)] at b;have f:=aA b;rw [l] at j;have r:((s[p]'c).toNat:Int)=10:=by omega
     have u:(((s[p]'c).toNat:Int)==10)=true:=by rw [beq_iff_eq];exact r
     clear b j hn r;go_wp2_with (go_at_call 116;refine i.mono ?_;rintro e w' ⟨rfl,rfl⟩);go_ret;exact ⟨bM f.o.symm,rfl⟩
    ·obtain ⟨t,x,o⟩:=aFz s g p d c m (by rw [hn];omega);rw [hn] at x o;rw [o] at b;have f:=aA b;have u:(((s[p]'c).toNat:Int)==10)=false:=by rw [beq_eq_false_iff_ne];omega
     clear b j hn o l;go_wp2_with (go_at_call 116;refine i.mono ?_;rintro e w' ⟨rfl,rfl⟩);go_round;case rel=>exact ⟨p+n,d+1,t,by omega,by omega,by go_num,by go_num,by omega,f.o⟩
     case measure=>simp [intOf];omega
  ·rw [aA1 s g p d c] at b;have f:=aA b;clear b;go_wp2;all_goals
    go_ret;refine ⟨bM ?_,rfl⟩;rw [f.o,Bool.eq_iff_iff];simp;omega
def aM(n:Nd):Bool:=n.1.toList.isEmpty
def dU(n:Nd):Bool:=if aM n then decide (0<=n.2) && decide (n.2<60) else gE n.1 && (decide (0<=n.2) && decide (n.2<=5))
def bP(n:Nd):Nat:=if aM n then 0 else n.2.toNat
def bA:List Nd->Nat->Bool
 |[],q=>decide (q=0)
 |n::r,q=>if q=0 then false else if dU n then bA r (q-1+bP n) else false
def fQ(b:List Nd):Bool:=bA b 1 && decide (b.length<=60)
theorem aG1(c:List Nd)(b:Nat)(d:b<c.length):bA (c.drop b) 0=false:=by rw [zs d];simp [bA]
theorem aG2(c:List Nd)(b g:Nat)(d:b<c.length)(f:dU c[b]=false):bA (c.drop b) g=false:=by rw [zs d];simp [bA,f]
theorem aG3(c:List Nd)(b d:Nat)(f:b<c.length)(i:d≠0)(g:dU c[b]=true):bA (c.drop b) d=bA (c.drop (b+1)) (d-1+bP c[b]):=by rw [zs f];simp [bA,g,i]
def tB:List Int->Int->Int
 |[],_=>-1
 |y::r,x=>if y=x then r.length else tB r x
def eK(b:List Int)(c:Int):Int:=tB b.reverse c
theorem aG4(b:Int):eK [] b=-1:=rfl
theorem yB(b:List Int)(d c:Int):eK (b++[d]) c=if d=c then (b.length:Int) else eK b c:=by simp [eK,tB]
def cZ(b:List Nd×List Int)(n:Nd):List Nd×List Int:=
 if aM n then (if eK b.2 n.2<0 then (b.1++[(n.1,(b.2.length:Int))],b.2++[n.2]) else (b.1++[(n.1,eK b.2 n.2)],b.2))
 else (b.1++[n],b.2)
def dF(b:List Nd)(c:List Int):List Nd×List Int:=b.foldl cZ ([],c)
theorem aG5(c:List Nd)(d:List Int)(b:Nat)(f:b<c.length):dF (c.take (b+1)) d=cZ (dF (c.take b) d) c[b]:=by rw [zv f];simp only [dF,List.foldl_append,List.foldl_cons,List.foldl_nil]
theorem uK(b:List Nd)(d:List Int):(dF b d).1.length=b.length/\(dF b d).2.length<=d.length+b.length:=by
 unfold dF;suffices ∀(b:List Nd) (c:List Nd×List Int),(b.foldl cZ c).1.length=c.1.length+b.length/\(b.foldl cZ c).2.length<=c.2.length+b.length by
  have:=this b ([],d);simpa using this
 intro b;induction b with
 |nil=>intro c;simp
 |cons x r ih=>
  intro c;have f:=ih (cZ c x);have g:(cZ c x).1.length=c.1.length+1/\(cZ c x).2.length<=c.2.length+1:=by
   unfold cZ;split
   ·split<;>simp
   ·simp
  simp only [List.foldl_cons,List.length_cons];omega
theorem nB:(zz.info? 106).map (λb=>(b.zero,b.size,b.bytes))=some (some (.agg #[.string ⟨#[]⟩,.int .i64 0]),2,24):=by kernel_rfl
theorem rR:(zz.info? 3).map (λi=>(i.zero,i.size,i.bytes))=some (some (.int .i64 0),1,8):=by kernel_rfl
theorem fS(w:World)(s:Value)(x:Value)(f:TypeId)(n:Nat)(d:n=w.heap.size):∀j c,[s,x][j]?=some c->(w.alloc (.cells #[s,x] f)).cell? ((⟨n,0,none⟩ : Addr).add j)=some c:=by
 subst d;intro j c b;match j,b with
 |0,b=>simp at b;subst b;simp [Addr.add]
 |1,b=>simp at b;subst b;simp [Addr.add]
 |j+2,b=>simp at b
theorem nC(w:World)(s:Value)(f:TypeId)(n:Nat)(d:n=w.heap.size):∀j c,[s][j]?=some c->(w.alloc (.cells #[s] f)).cell? ((⟨n,0,none⟩ : Addr).add j)=some c:=by
 subst d;intro j c b;match j,b with
 |0,b=>simp at b;subst b;simp [Addr.add]
 |j+1,b=>simp at b
theorem pU(s:ByteArray)(d:Int):∀c∈[Value.string s,zy .i64 d],c.oneCell'=true:=by intro c b;simp at b;rcases b with rfl|rfl<;>rfl
theorem aA2(d:Int):∀c∈[zy .i64 d],c.oneCell'=true:=by intro c b;simp at b;subst b;rfl
theorem aCp{b:List Int}(g:w.ownsRow B 3 1 v b.length (b.map (zy .i64))):∃a f,v=.slice a b.length f/\∀d (g:d<b.length),∃c,a=some ⟨c,0,none⟩/\w.cell? ⟨c,d,none⟩=some (.int .i64 b[d]):=by
 obtain ⟨k,⟨rfl,l⟩|⟨c,f,j,rfl,m,q,o,r,x,u⟩⟩:=g
 ·exact ⟨none,0,by rw [l],λd i=>by omega⟩
 ·have t:w.ownsRow B 3 1 (.slice (some ⟨c,0,none⟩) b.length f) b.length (b.map (zy .i64)):=⟨k,zm ⟨c,f,j,rfl,m,q,o,r,x,u⟩⟩;refine ⟨_,_,rfl,λd i=>⟨c,rfl,?_⟩⟩;rw [t.cellAt d (by omega)];simp [i]
theorem aG6{b:Nat}(d:w.ownsRow B e b v n xs)(c:Nat):(w.drewN c).ownsRow B e b v n xs:=d
theorem aCq{c:World}{j:Value}{b:List Nd}{d:Int}(g:c.ownsRow w.heap.size 106 2 j b.length (aP b))(i:c.ownsRow B 3 1 sv sn.length (sn.map (zy .i64)))(k:dQ B 3 w c)
  (l:w1.ownsRow w.heap.size 106 2 v' (b.length+1) (aP b++[.string s,.int .i64 d])) (f:c.grownBy w1 j.ownBlock):w1.ownsRow w.heap.size 106 2 v' (b++[(s,d)]).length (aP (b++[(s,d)]))/\w1.ownsRow B 3 1 sv sn.length (sn.map (zy .i64))/\dQ B 3 w w1:=by
 refine ⟨?_,i.kept f (bW i g (by decide)),k.grownNew f g (zw _)⟩;rw [pT,zl];exact l
theorem aNh{c:World}{j:Value}{b:List Nd}{d:Int}(g:c.ownsRow w.heap.size 106 2 j b.length (aP b))(i:c.ownsRow B 3 1 sv sn.length (sn.map (zy .i64)))(k:dQ B 3 w c)
  (l:w1.ownsRow B 3 1 v' (sn.length+1) (sn.map (zy .i64)++[.int .i64 d])) (f:c.grownBy w1 sv.ownBlock):w1.ownsRow w.heap.size 106 2 j b.length (aP b)/\w1.ownsRow B 3 1 v' (sn++[d]).length ((sn++[d]).map (zy .i64))/\dQ B 3 w w1:=by
 refine ⟨g.kept f (bW g i (by decide)),?_,k.grownOwn f i⟩;rw [List.map_append,zl];exact l
theorem bX(w:World)(p:Addr)(c:Value):w.grownBy (w.setCell p c) (some p.block):=
 ⟨rfl,rfl,rfl,by simp [zo],λd _ b=>Below.heap_setCell _ _ _ _ (λe=>b (by rw [e]))⟩
theorem aNi{b:World}{r:Value}{i:List Nd}{c:Int}{j:Obj}(o:b.ownsRow w.heap.size 106 2 r i.length (aP i))(q:b.ownsRow B 3 1 sv sn.length (sn.map (zy .i64)))(m:dQ B 3 w b)
  (x:w1.ownsRow B 3 1 v' (sn.length+1) (sn.map (zy .i64)++[.int .i64 c])) (k:((b.alloc (.cells #[.string s,.int .i64 c] 106)).alloc j).grownBy w1 sv.ownBlock):b.heap.size<w1.heap.size/\w1.cell? ⟨b.heap.size,0,none⟩=some (.string s)/\w1.cell? ⟨b.heap.size,1,none⟩=some (.int .i64 c)/\w1.frozen? ⟨b.heap.size,1,none⟩=false/\
   ∀d,(w1.setCell ⟨b.heap.size,1,none⟩ d).ownsRow w.heap.size 106 2 r i.length (aP i)/\(w1.setCell ⟨b.heap.size,1,none⟩ d).ownsRow B 3 1 v' (sn++[c]).length ((sn++[c]).map (zy .i64))/\dQ B 3 w (w1.setCell ⟨b.heap.size,1,none⟩ d):=by
 have t:((b.alloc (.cells #[.string s,.int .i64 c] 106)).alloc j).heap[b.heap.size]?=some (.cells #[.string s,.int .i64 c] 106):=by show ((b.heap.push _).push j)[b.heap.size]?=_;simp [Array.getElem?_push]
 have D:b.heap.size+2<=w1.heap.size:=by have:=k.size;simpa using this
 have g:w1.heap[b.heap.size]?=some (.cells #[.string s,.int .i64 c] 106):=by rw [k.block _ (by simp;omega) ?_,t];intro e;have:=bL q _ e.symm;omega
 have f:=aNh ((o.alloc _).alloc _) ((q.alloc _).alloc _) ((m.alloc _).alloc _) x k;have u:=m.size;refine ⟨by omega,by simp [World.cell?,g],by simp [World.cell?,g],by simp [World.frozen?,g],λd=>⟨?_,?_,?_⟩⟩
 ·refine f.1.kept (bX _ _ _) (zm λe=>?_);have:=bL o _ e;simp at this
 ·refine f.2.1.kept (bX _ _ _) (zm λe=>?_);obtain ⟨_,⟨rfl,_⟩|⟨A,y,z,rfl,C,l,_⟩⟩:=f.2.1
  ·simp [zx] at e
  ·simp [zx] at e;subst e;rw [g] at l;simp at l
 ·exact f.2.2.setCell (by simpa using u) d
theorem aNj(B:Nat)(a:Option Addr)(d0:Nat)(b:List Nd)(c8:Value)(f:List Int)(X w:World)(a2:dO X a b)(e3:Below B X w)(a3:X.heap.size<=B)(d8:B<=w.heap.size)
  (e8:w.ownsRow B 3 1 c8 f.length (f.map (zy .i64))) (g8:b.length+f.length<=10000000):Calls zz 117 #[.slice a b.length d0,c8] w λe w'=>∃c7 c9,e=.returned (.tuple #[c7,c9])/\w'.ownsRow w.heap.size 106 2 c7 (dF b f).1.length (aP (dF b f).1)/\
   w'.ownsRow B 3 1 c9 (dF b f).2.length ((dF b f).2.map (zy .i64))/\dQ B 3 w w':=by
 obtain ⟨V,L,M,N,O⟩:=info_parts nB;obtain ⟨f7,d9,e0,e1,e2⟩:=info_parts rR;go_enter Tryz.func117,Tryz.ntmps117;go_wp2;go_loopw [1,6,7] (λs f8 U wr=>∃c:Nat,c<=b.length/\U=.int .i64 c/\wr.ownsRow w.heap.size 106 2 f8 (dF (b.take c) f).1.length (aP (dF (b.take c) f).1)/\
   wr.ownsRow B 3 1 s (dF (b.take c) f).2.length ((dF (b.take c) f).2.map (zy .i64))/\dQ B 3 w wr) (λ_ _ U _=>b.length-(intOf U).toNat)
 case atStart=>exact ⟨0,Nat.zero_le _,rfl,World.ownsRow_nil _ _ _ _,e8,dQ.refl _ _ _⟩
 case round=>
  obtain ⟨c,h1,rfl,j,k,o⟩:=hrel;have a4:=uK (b.take c) f;have h2:(b.take c).length<=c:=List.length_take_le _ _;by_cases a7:c<b.length
  ·obtain ⟨g3,h7,rfl,a1,f1⟩:=a2.cell c a7;have P:=e3.trans (o.below d8);have d6:=Below.at' P a3 a1;have f2:=Below.at' P a3 f1;have C:=aG5 b f c a7;generalize hR:dF (b.take c) f=d at *;generalize b[c]=nd at *;obtain ⟨y,sn⟩:=d;obtain ⟨s,g⟩:=nd;simp only at d6 f2 j k a4;obtain ⟨e4,e5⟩:=a4;have g4:y.length<=c:=by omega
   have g5:sn.length+b.length<=20000000:=by omega
   have h0:=o.size;clear a1 f1 a2 hR P e4 e5;by_cases D:s.toList.isEmpty=true
   ·obtain ⟨f9,g0,rfl,b7⟩:=aCp k;have b9:eK sn g<0->dF (b.take (c+1)) f=(y++[(s,(sn.length:Int))],sn++[g]):=λA=>by rw [C];simp [cZ,aM,D,A]
    have c0:¬eK sn g<0->dF (b.take (c+1)) f=(y++[(s,eK sn g)],sn):=λA=>by rw [C];simp [cZ,aM,D,A]
    have H:=aA b9;have z:=aA c0;have Y:=aA b7;clear C b9 c0 b7;go_wp2;go_loopw [9,10] (λg1 W g2=>∃(n:Nat) (p:Int),n<=sn.length/\W=.int .i64 n/\g1=.int .i64 p/\p=eK (sn.take n) g/\-1<=p/\p<n/\∃i,(∃a0,i=wr.drewN a0)/\g2=i.alloc (.cells #[.string s,.int .i64 g] 106)) (λ_ W _=>sn.length-(intOf W).toNat);case atStart=>exact ⟨0,-1,Nat.zero_le _,rfl,rfl,rfl,by omega,by omega,wr,⟨0,rfl⟩,rfl⟩
    case round=>
     obtain ⟨n,p,e7,rfl,rfl,b0,h3,h4,i,u,rfl⟩:=hrel;have x:i.ownsRow w.heap.size 106 2 u6 y.length (aP y):=bB j (aL u) (zw _);have S:i.ownsRow B 3 1 (.slice f9 sn.length g0) sn.length (sn.map (zy .i64)):=bB k (aL u) (zw _);have G:dQ B 3 w i:=o.drawn u;have g9:=G.size;have c6:wr.heap.size=i.heap.size:=by obtain ⟨a0,rfl⟩:=u;rfl
     have Z:=aA c6;have E:=aA u;clear c6;clear u;have I:=aA b0;clear b0;by_cases R:n<sn.length
     ·obtain ⟨d7,rfl,a5⟩:=Y.o n R;have g7:(i.alloc (.cells #[.string s,.int .i64 g] 106)).cell? ⟨d7,n,none⟩=some (.int .i64 sn[n]):=aD ((Below.refl _ _).alloc (zw _) _) (aD (aL E.o) a5);have g6:(i.alloc (.cells #[.string s,.int .i64 g] 106)).cell? ⟨wr.heap.size,1,none⟩=some (.int .i64 g):=by rw [Z.o];exact fS i _ _ _ _ rfl 1 _ rfl
      clear a5 x S G;go_wp2;go_quiet (fail);go_wp2
      ·have Q:(sn[n]==g)=true:=by assumption
       go_roundw;case rel=>exact ⟨n+1,n,by omega,by go_num,rfl,by rw [zv R,yB,aJ (by simpa using Q),List.length_take,Nat.min_eq_left e7],by omega,by omega,_,gY E.o ⟨_,rfl⟩,rfl⟩
       case measure=>simp [intOf];omega
      ·have Q:(sn[n]==g)=false:=by assumption
       go_roundw;case rel=>exact ⟨n+1,p,by omega,by go_num,rfl,by rw [zv R,yB,aI (by simpa using Q)];exact I.o,by omega,by omega,_,gY E.o ⟨_,rfl⟩,rfl⟩
       case measure=>simp [intOf];omega
     ·have a8:sn.take n=sn:=zn (by omega);have F:aG (p=eK sn g):=by rw [<-a8];exact I.o
      have r:=aA G;have t:=aA S;clear a8 I Y j k o G E;rw [Z.o];by_cases A:p<0
      ·have l:=aA (H.o (by rw [<-F.o];exact A));clear H z F;go_wp2_with (first
        |(at_builtin;refine wpList_append_own _ rfl (.tmp 42) (.tmp 45) 25 rfl B 3 f7 (.int .i64 0) 1 8 Tryz.underlying25 d9 e0 e1 e2 rfl (by decide) _ _ _ rfl ((S.alloc _).alloc _) ⟨i.heap.size+1,0,none⟩ 1 1 [.int .i64 g] rfl rfl ?d1 ?d2 ?d3 ?d4 ?d5 ?_)
        |go_in)
       case d1=>exact nC _ _ _ _ (by simp)
       case d2=>exact aA2 _
       case d3=>unfold maxLen;omega
       case d4=>omega
       case d5=>simp;omega
       intro v' w1 q m _;obtain ⟨h6,e9,f0,f6,d⟩:=aNi x t.o r.o q m;have b6:=(d (.int .i64 sn.length)).1;have J:=aA (d (.int .i64 sn.length));clear q m x d;go_wp2_with (first
        |(at_builtin;refine wpList_append_own _ rfl (.tmp 49) (.tmp 51) 53 rfl w.heap.size 106 V (.agg #[.string ⟨#[]⟩,.int .i64 0]) 2 24 zp L M N O rfl (by decide) _ _ _ rfl (b6.alloc _) ⟨w1.heap.size,0,none⟩ 1 1 [.string s,.int .i64 sn.length] rfl rfl ?f1 ?f2 ?f3 ?f4 ?f5 ?_)
        |go_in)
       case f1=>exact fS _ _ _ _ _ (by simp [zo])
       case f2=>first|exact pU _ _|exact ⟨rfl,rfl⟩
       case f3=>unfold maxLen;omega
       case f4=>omega
       case f5=>first|omega|(simp [zo];omega)
       intro h8 h9 a9 a6 _;have d:=aCq (J.o.1.alloc _) (J.o.2.1.alloc _) (J.o.2.2.alloc _) a9 a6;clear a9 a6 b6 e9 f0 f6;go_wp2;go_roundw;case rel=>exact ⟨c+1,by omega,by go_num,by rw [l.o];exact d.1,by rw [l.o];exact d.2.1,d.2.2⟩
       case measure=>simp [intOf];omega
      ·have l:=aA (z.o (by rw [<-F.o];omega));clear H z;go_wp2_with (first
        |(at_builtin;refine wpList_append_own _ rfl (.tmp 49) (.tmp 51) 53 rfl w.heap.size 106 V (.agg #[.string ⟨#[]⟩,.int .i64 0]) 2 24 zp L M N O rfl (by decide) _ _ _ rfl ((x.alloc _).alloc _) ⟨i.heap.size+1,0,none⟩ 1 1 [.string s,.int .i64 p] rfl rfl ?b1 ?b2 ?b3 ?b4 ?b5 ?_)
        |go_in)
       try case b1=>exact fS _ _ _ _ _ (by simp)
       case b2=>first|exact pU _ _|exact ⟨rfl,rfl⟩
       case b3=>unfold maxLen;omega
       case b4=>omega
       case b5=>first|omega|(simp;omega)
       intro v' w1 q m _;have d:=aCq ((x.alloc _).alloc _) ((t.o.alloc _).alloc _) ((r.o.alloc _).alloc _) q m;clear q m x;go_wp2;go_roundw;case rel=>exact ⟨c+1,by omega,by go_num,by rw [l.o,<-F.o];exact d.1,by rw [l.o];exact d.2.1,d.2.2⟩
       case measure=>simp [intOf];omega
   ·have h5:s.toList.isEmpty=false:=by simpa using D
    have b8:dF (b.take (c+1)) f=(y++[(s,g)],sn):=by rw [C];simp [cZ,aM,D]
    have l:=aA b8;have r:=aA o;have t:=aA k;clear C b8 D o k;go_wp2_with (first
     |(at_builtin;refine wpList_append_own _ rfl _ _ 53 rfl w.heap.size 106 V (.agg #[.string ⟨#[]⟩,.int .i64 0]) 2 24 zp L M N O rfl (by decide) _ _ _ rfl ((j.alloc _).alloc _) ⟨wr.heap.size+1,0,none⟩ 1 1 [.string s,.int .i64 g] rfl rfl ?c1 ?c2 ?c3 ?c4 ?c5 ?_)
     |go_in)
    case c1=>exact fS _ _ _ _ _ (by simp)
    case c2=>exact pU _ _
    case c3=>unfold maxLen;omega
    case c4=>omega
    case c5=>simp;omega
    intro v' w1 q m _;have d:=aCq ((j.alloc _).alloc _) ((t.o.alloc _).alloc _) ((r.o.alloc _).alloc _) q m;clear q m j;go_wp2;go_roundw;case rel=>exact ⟨c+1,by omega,by go_num,by rw [l.o];exact d.1,by rw [l.o];exact d.2.1,d.2.2⟩
    case measure=>simp [intOf];omega
  ·have e6:b.take c=b:=zn (by omega);rw [e6] at j k;have z:=aA j;have t:=aA k;have r:=aA o;clear j k o;go_wp2;go_ret2;exact ⟨_,_,rfl,z.o,t.o,r.o⟩
