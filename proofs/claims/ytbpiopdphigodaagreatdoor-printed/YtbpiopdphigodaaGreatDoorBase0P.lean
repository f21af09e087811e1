import Derived.Test.YtbpiopdphigodaaGreatDoorChecked
import Derived.WalkKit
import Derived.WalkSpells
import Derived.WalkLawsBesides
import Derived.Laws.StructEq
import Derived.Deep.QuietTactic
import Derived.BigQuiet
open List renaming take_succ_eq_append_getElem→zz,foldl_cons→zy,drop_eq_getElem_cons→zx,foldl_append→zv,getElem?_cons_succ→zu,length_cons→zt,getElem_cons_succ→zs,foldl_nil→zr,flatMap_cons→zq,all_eq_true→zp,cons_append→zn,range→zj
open Or renaming inr→zo,inl→zi
namespace Go.Proofs.YtbpiopdphigodaaGreatDoor
open _root_.Go.Proofs.Tryz renaming prog→zw
open Go.RowKit
set_option maxRecDepth 100000
variable{xs:List Value}{B n size:Nat}{a:Option Addr}{p:Prop}{e:TypeId}{v:Value}{w w1:World}
def aI(p:Prop):Prop:=p
theorem aI.o(b:aI p):p:=b
theorem aI.out(b:aI p):p:=b
abbrev aB(w w1:World):Prop:=Below w.heap.size w w1
theorem nbQ{b:Type}[BEq b][LawfulBEq b]{a c:b}(d:a≠c):(a==c)=false:=beq_eq_false_iff_ne.2 d
theorem gH[Decidable p](b:¬p):decide p=false:=decide_eq_false b
theorem fH[Decidable p](b:p):decide p=true:=decide_eq_true b
theorem aF{c:Prop}{_:Decidable c}(b:¬c){d:Sort _}{t e:d}:ite c t e=e:=if_neg b
theorem aG{b:Prop}{_:Decidable b}(c:b){d:Sort _}{t e:d}:ite b t e=t:=if_pos c
theorem aA(b:p):aI p:=b
theorem aC(b:aI p):p:=b
theorem vB{c:IntKind}{a b:Int}(d:a=b):Ending.returned (.int c a)=.returned (.int c b):=by rw [d]
theorem cX{a b:Bool}(c:a=b):Ending.returned (.bool a)=.returned (.bool b):=by rw [c]
theorem kG(w:World)(n c:Nat):∃b,(w.drewN n).drewN c=w.drewN b:=⟨_,World.drewN_drewN _ _ _⟩
theorem aQ(b:∃n,w1=w.drewN n):aB w w1:=by obtain ⟨n,rfl⟩:=b;exact ⟨rfl,rfl,rfl,Nat.le_refl _,λ_ _=>rfl⟩
theorem Below.at'(c:Below B w w1)(d:w.heap.size<=B){a:Addr}{v:Value}(b:w.cell? a=some v):w1.cell? a=some v:=
 (c.cell (Nat.lt_of_lt_of_le (World.block_lt_of_cell? w a b) d)).trans b
theorem aD{a:Addr}(c:aB w w1)(b:w.cell? a=some v):w1.cell? a=some v:=Below.at' c (Nat.le_refl _) b
theorem aZ{c:World}(b:aB w w1)(k:aB w1 c):aB w c:=b.trans (k.mono b.size)
def aE(s:ByteArray)(b:Nat):Nat:=if h:b<s.size then (s[b]'h).toNat else 0
theorem kZ(c:ByteArray)(b:Nat)(d:b<c.size):aE c b=(c[b]'d).toNat:=dif_pos d
def cM(b:Nat):Nat:=if b<128 then 1 else if b<194 then 0 else if b<224 then 2 else if b<240 then 3 else if b<245 then 4 else 0
def lO(b:Nat):Bool:=decide (128<=b) && decide (b<=191)
def sG(b c:Nat):Bool:=(decide (b=224) && decide (c<160)) || (decide (b=237) && decide (159<c)) || (decide (b=240) && decide (c<144)) || (decide (b=244) && decide (143<c))
theorem aLk(b c:Nat):sG b c=true↔(b=224/\c<160)\/(b=237/\159<c)\/(b=240/\c<144)\/(b=244/\143<c):=by simp [sG,or_assoc]
def bB(d:ByteArray)(c:Nat):Nat:=
 let b:=aE d c;let z:=cM b;if z<=1 then z
 else if d.size<c+z then 0
 else if (zj z).all (λf=>f==0 || lO (aE d (c+f))) && !sG b (aE d (c+1)) then z else 0
theorem pY(b:ByteArray)(p:Nat)(c:cM (aE b p)<=1):bB b p=cM (aE b p):=by simp [bB,c]
theorem aLl(b:ByteArray)(p c:Nat)(g:cM (aE b p)=c)(f:¬c<=1)(d:b.size<p+c):bB b p=0:=by subst g;simp [bB,f,d]
theorem aE8(c:ByteArray)(p d b:Nat)(k:cM (aE c p)=d)(g:¬d<=1)(l:0<b)(j:b<d)(i:lO (aE c (p+b))=false):bB c p=0:=by
 subst k;have:((zj (cM (aE c p))).all (λb=>b==0 || lO (aE c (p+b))))=false:=by rw [Bool.eq_false_iff];intro f;rw [zp] at f;have:=f b (by simpa using j);simp [i] at this;omega
 simp [bB,g,this]
theorem aLm(b:ByteArray)(p d:Nat)(l:cM (aE b p)=d)(i:¬d<=1)(f:¬b.size<p+d)(j:∀c,0<c->c<d->lO (aE b (p+c))=true):bB b p=if sG (aE b p) (aE b (p+1)) then 0 else d:=by
 subst l;have:((zj (cM (aE b p))).all (λc=>c==0 || lO (aE b (p+c))))=true:=by
  rw [zp];intro c k;by_cases g:c=0
  ·simp [g]
  ·simp [j c (by omega) (by simpa using k)]
 simp only [bB,aF i,aF f,this,Bool.true_and];cases sG (aE b p) (aE b (p+1))<;>simp
theorem xM(b:ByteArray)(p:Nat)(d:p<b.size):p+bB b p<=b.size:=by
 by_cases c:cM (aE b p)<=1
 ·rw [pY b p c];omega
 ·simp only [bB,aF c];split
  ·omega
  ·split<;>omega
def eY(b:ByteArray):Nat->Nat->Nat->Bool
 |0,_,m=>decide (1<=m) && decide (m<=20)
 |f+1,p,m=>if p<b.size then (if bB b p=0\/aE b p=10 then false else eY b f (p+bB b p) (m+1)) else decide (1<=m) && decide (m<=20)
def dL(b:ByteArray):Bool:=eY b b.size 0 0
theorem sH(d:ByteArray)(b p c:Nat)(f:¬p<d.size):eY d b p c=(decide (1<=c) && decide (c<=20)):=by
 cases b with
 |zero=>rfl
 |succ b=>simp [eY,f]
theorem aAc(b:ByteArray)(c p i:Nat)(f:p<b.size)(j:b.size-p<=c)(g:bB b p=0\/aE b p=10):eY b c p i=false:=by obtain ⟨d,rfl⟩ : ∃d,c=d+1:=⟨c-1,by omega⟩;simp only [eY,aG f,aG g]
theorem aLn(b:ByteArray)(d p f:Nat)(g:p<b.size)(j:b.size-p<=d)(i:¬(bB b p=0\/aE b p=10)):∃c,b.size-(p+bB b p)<=c/\eY b d p f=eY b c (p+bB b p) (f+1):=by
 obtain ⟨c,rfl⟩ : ∃c,d=c+1:=⟨d-1,by omega⟩;refine ⟨c,by omega,?_⟩;simp only [eY,aG g,aF i]
abbrev Nd:=ByteArray×Int
abbrev Lt:=Bool×List Nd
structure cS(w:World)(a:Option Addr)(l:List Nd):Prop where
 few:l.length<=5864062014805
 short:∀k (h:k<l.length),l[k].1.size<=140737488355328
 cell:∀k (h:k<l.length),∃b o,a=some ⟨b,o,none⟩/\w.cell? ⟨b,o+k*2,none⟩=some (.string l[k].1)/\w.cell? ⟨b,o+k*2+1,none⟩=some (.int .i64 l[k].2)
structure bP(w:World)(a:Option Addr)(c:List Lt):Prop where
 few:c.length<=4398046511104
 cell:∀k (h:k<c.length),∃b o aa cap,a=some ⟨b,o,none⟩/\w.cell? ⟨b,o+k*2,none⟩=some (.bool c[k].1)/\w.cell? ⟨b,o+k*2+1,none⟩=some (.slice aa c[k].2.length cap)/\cS w aa c[k].2
theorem cS.below{f:List Nd}(c:cS w a f){B:Nat}(k:Below B w w1)(d:w.heap.size<=B):cS w1 a f:=
 ⟨c.few,c.short,λj m=>by obtain ⟨b,o,g,i,l⟩:=c.cell j m;exact ⟨b,o,g,Below.at' k d i,Below.at' k d l⟩⟩
theorem bP.below{f:List Lt}(d:bP w a f){B:Nat}(k:Below B w w1)(c:w.heap.size<=B):bP w1 a f:=
 ⟨d.few,λj r=>by obtain ⟨b,s,g,i,l,m,o,q⟩:=d.cell j r;exact ⟨b,s,g,i,l,Below.at' k c m,Below.at' k c o,q.below k c⟩⟩
theorem bP.drawn{b:List Lt}(c:bP w a b)(d:∃n,w1=w.drewN n):bP w1 a b:=c.below (aQ d) (Nat.le_refl _)
theorem bP.drewN{b:List Lt}(c:bP w a b)(n:Nat):bP (w.drewN n) a b:=c.drawn ⟨n,rfl⟩
theorem aLo:zw.stoodInHeld 43=false:=by kernel_rfl
theorem tO:zw.eqGuardType zw.depth 43=false:=by kernel_rfl
theorem aLp:zw.underlying 43=some (.struct (zw.fieldsOf 43)):=by kernel_rfl
def xN(c:ByteArray)(a:Int)(d:ByteArray)(b:Int):Bool:=c.toList==d.toList && a==b
theorem xO{b c:ByteArray}:b.toList=c.toList↔b=c:=by rw [ByteArray.toList_eq,ByteArray.toList_eq];obtain ⟨⟨d⟩⟩:=b;obtain ⟨⟨f⟩⟩:=c;simp
theorem tP(b c:ByteArray×Int):xN b.1 b.2 c.1 c.2=decide (b=c):=by rw [Bool.eq_iff_iff];simp [xN,xO,Prod.ext_iff]
theorem tQ(c d:ByteArray)(a b:Int)(w:World):(Op.equalIn 10000 43 (.agg #[.string c,.int .i64 a]) (.agg #[.string d,.int .i64 b])).run zw w=.ok (xN c a d b) w:=by unfold xN;rw [show (10000:Nat)=9999+1 from rfl,run_equalIn_agg w 9999 43 _ _ aLp aLo];simp only [Program.fieldsOf,Tryz.underlying43];go_simp;cases h1:(c.toList==d.toList)<;>cases h2:(a==b)<;>simp_all
def aM(n:Nd):Bool:=n.1.toList.isEmpty
def dE(n:Nd):Bool:=if aM n then decide (0<=n.2) && decide (n.2<60) else dL n.1 && (decide (0<=n.2) && decide (n.2<=5))
def aX(n:Nd):Nat:=if aM n then 0 else n.2.toNat
def aN:List Nd->Nat->Bool
 |[],q=>decide (q=0)
 |n::r,q=>if q=0 then false else if dE n then aN r (q-1+aX n) else false
def jI(b:List Nd):Bool:=aN b 1 && decide (b.length<=60)
theorem aAd(c:List Nd)(b:Nat)(d:b<c.length):aN (c.drop b) 0=false:=by rw [zx d];simp [aN]
theorem aLq(c:List Nd)(b g:Nat)(d:b<c.length)(f:dE c[b]=false):aN (c.drop b) g=false:=by rw [zx d];simp [aN,f]
theorem aLr(c:List Nd)(b d:Nat)(f:b<c.length)(i:d≠0)(g:dE c[b]=true):aN (c.drop b) d=aN (c.drop (b+1)) (d-1+aX c[b]):=by rw [zx f];simp [aN,g,i]
theorem cL(c:w.ownsRow B e size v n xs):∀b,v.ownBlock=some b->B<=b/\b<w.heap.size:=World.ownsRow.lt c
theorem fQ{f:Nat}{c:TypeId}{m:Nat}{d:Value}{l:Nat}{o:List Value}(g:w.ownsRow B e size v n xs)(i:w.ownsRow f c m d l o)(j:e≠c):v.ownBlock=none\/v.ownBlock≠d.ownBlock:=by
 obtain ⟨_,⟨rfl,_⟩|⟨u,q,s,rfl,y,k,_⟩⟩:=g
 ·exact zi rfl
 ·obtain ⟨_,⟨rfl,_⟩|⟨x,r,t,rfl,z,b,_⟩⟩:=i
  ·right;simp [Value.ownBlock]
  ·right;simp [Value.ownBlock];rintro rfl;rw [k] at b;simp at b;exact j b.2
theorem bF{d:World}{B':Nat}(j:w.ownsRow B e size v n xs)(o:Below B' w d)(q:w.heap.size<=B'):d.ownsRow B e size v n xs:=by
 obtain ⟨b,⟨rfl,k⟩|⟨g,f,i,rfl,l,c,m⟩⟩:=j
 ·exact ⟨b,zi ⟨rfl,k⟩⟩
 ·refine ⟨b,zo ⟨g,f,i,rfl,l,?_,m⟩⟩;have r:g<w.heap.size:=(Array.getElem?_eq_some_iff.1 c).1;rw [o.block g (by omega),c]
theorem gS{B':Nat}(f:w.ownsRow B e size v n xs)(k:B'<=B):w.ownsRow B' e size v n xs:=by
 obtain ⟨b,⟨rfl,i⟩|⟨g,c,d,rfl,l,j⟩⟩:=f
 ·exact ⟨b,zi ⟨rfl,i⟩⟩
 ·exact ⟨b,zo ⟨g,c,d,rfl,by omega,j⟩⟩
def aV(b:List Nd):List Value:=b.flatMap λn=>[.string n.1,.int .i64 n.2]
theorem aLs(b:List Nd):(aV b).length=b.length*2:=by
 induction b with
 |nil=>rfl
 |cons x r ih=>simp [aV] at ih ⊢;omega
theorem vD(c:List Nd)(b:Nd):aV (c++[b])=aV c++[.string b.1,.int .i64 b.2]:=by simp [aV]
theorem vE(c:List Nd):∀b (d:b<c.length),(aV c)[b*2]?=some (.string c[b].1)/\(aV c)[b*2+1]?=some (.int .i64 c[b].2):=by
 induction c with
 |nil=>intro b d;simp at d
 |cons x r ih=>
  intro b d;cases b with
  |zero=>simp [aV]
  |succ b=>
   have:=ih b (by simpa using d);have f:(b+1)*2=b*2+2:=by omega
   have g:(b+1)*2+1=b*2+1+2:=by omega
   rw [f];simp only [aV,zq,zn,List.nil_append,zu,zs] at this ⊢;exact this
theorem tR{b:List Nd}(i:w.ownsRow B 43 2 v b.length (aV b))(j:b.length<=5864062014805)(l:∀c (i:c<b.length),b[c].1.size<=140737488355328):∃a d,v=.slice a b.length d/\cS w a b:=by
 obtain ⟨o,⟨rfl,q⟩|⟨f,d,m,rfl,r,t,s,u,y,x⟩⟩:=i
 ·refine ⟨none,0,by rw [q],⟨j,l,λc g=>by omega⟩⟩
 ·have k:w.ownsRow B 43 2 (.slice (some ⟨f,0,none⟩) b.length d) b.length (aV b):=⟨o,zo ⟨f,d,m,rfl,r,t,s,u,y,x⟩⟩;refine ⟨_,_,rfl,⟨j,l,λc g=>⟨f,0,rfl,?_,?_⟩⟩⟩
  ·rw [Nat.zero_add,k.cellAt (c*2) (by omega),(vE b c g).1]
  ·rw [Nat.zero_add,k.cellAt (c*2+1) (by omega),(vE b c g).2]
def rD:List Int->Int->Int
 |[],_=>-1
 |y::r,x=>if y=x then r.length else rD r x
def eQ(b:List Int)(c:Int):Int:=rD b.reverse c
theorem aE9(b:Int):eQ [] b=-1:=rfl
theorem aAe(b:List Int)(d c:Int):eQ (b++[d]) c=if d=c then (b.length:Int) else eQ b c:=by simp [eQ,rD]
def cD(b:List Nd×List Int)(n:Nd):List Nd×List Int:=
 if aM n then (if eQ b.2 n.2<0 then (b.1++[(n.1,(b.2.length:Int))],b.2++[n.2]) else (b.1++[(n.1,eQ b.2 n.2)],b.2))
 else (b.1++[n],b.2)
def dY(b:List Nd)(c:List Int):List Nd×List Int:=b.foldl cD ([],c)
theorem aLt(c:List Nd)(d:List Int)(b:Nat)(f:b<c.length):dY (c.take (b+1)) d=cD (dY (c.take b) d) c[b]:=by rw [zz f];simp only [dY,zv,zy,zr]
theorem vF(b:List Nd)(d:List Int):(dY b d).1.length=b.length/\(dY b d).2.length<=d.length+b.length:=by
 unfold dY;suffices ∀(b:List Nd) (c:List Nd×List Int),(b.foldl cD c).1.length=c.1.length+b.length/\(b.foldl cD c).2.length<=c.2.length+b.length by
  have:=this b ([],d);simpa using this
 intro b;induction b with
 |nil=>intro c;simp
 |cons x r ih=>
  intro c;have f:=ih (cD c x);have g:(cD c x).1.length=c.1.length+1/\(cD c x).2.length<=c.2.length+1:=by
   unfold cD;split
   ·split<;>simp
   ·simp
  simp only [zy,zt];omega
theorem rE:(zw.info? 43).map (λb=>(b.zero,b.size,b.bytes))=some (some (.agg #[.string ⟨#[]⟩,.int .i64 0]),2,24):=by kernel_rfl
theorem sI:(zw.info? 3).map (λi=>(i.zero,i.size,i.bytes))=some (some (.int .i64 0),1,8):=by kernel_rfl
theorem kH(w:World)(d:Value)(x:Value)(g:TypeId)(n:Nat)(f:n=w.heap.size):∀j c,[d,x][j]?=some c->(w.alloc (.cells #[d,x] g)).cell? ((⟨n,0,none⟩ : Addr).add j)=some c:=by
 subst f;intro j c b;match j,b with
 |0,b=>simp at b;subst b;simp [Addr.add]
 |1,b=>simp at b;subst b;simp [Addr.add]
 |j+2,b=>simp at b
theorem tS(w:World)(d:Value)(g:TypeId)(n:Nat)(f:n=w.heap.size):∀j c,[d][j]?=some c->(w.alloc (.cells #[d] g)).cell? ((⟨n,0,none⟩ : Addr).add j)=some c:=by
 subst f;intro j c b;match j,b with
 |0,b=>simp at b;subst b;simp [Addr.add]
 |j+1,b=>simp at b
theorem aAf(d:ByteArray)(f:Int):∀c∈[Value.string d,Value.int .i64 f],c.oneCell'=true:=by intro c b;simp at b;rcases b with rfl|rfl<;>rfl
theorem aEa(d:Int):∀c∈[Value.int .i64 d],c.oneCell'=true:=by intro c b;simp at b;subst b;rfl
theorem aEb{b:List Int}(g:w.ownsRow B 3 1 v b.length (b.map (Value.int .i64))):∃a f,v=.slice a b.length f/\∀d (g:d<b.length),∃c,a=some ⟨c,0,none⟩/\w.cell? ⟨c,d,none⟩=some (.int .i64 b[d]):=by
 obtain ⟨k,⟨rfl,l⟩|⟨c,f,j,rfl,m,q,o,r,u,t⟩⟩:=g
 ·exact ⟨none,0,by rw [l],λd i=>by omega⟩
 ·have s:w.ownsRow B 3 1 (.slice (some ⟨c,0,none⟩) b.length f) b.length (b.map (Value.int .i64)):=⟨k,zo ⟨c,f,j,rfl,m,q,o,r,u,t⟩⟩;refine ⟨_,_,rfl,λd i=>⟨c,rfl,?_⟩⟩;rw [s.cellAt d (by omega)];simp [i]
theorem cJ(w:World)(p:Addr)(c:Value):w.grownBy (w.setCell p c) (some p.block):=
 ⟨rfl,rfl,rfl,by simp [World.setCell],λd _ b=>Below.heap_setCell _ _ _ _ (λe=>b (by rw [e]))⟩
def lP(b c:Lt):Bool:=decide (b.2=c.2) && b.1==c.1
theorem aEc(b c:Lt):lP b c=decide (b=c):=by rw [Bool.eq_iff_iff];simp [lP,Prod.ext_iff,and_comm]
def aS(b:List Lt):Nat:=(b.map λc=>c.2.length).sum
theorem pZ(b:List Lt)(c:Lt):aS (b++[c])=aS b+c.2.length:=by simp [aS]
theorem aLu(b:List Lt)(d:∀c (d:c<b.length),(b[c]).2.length<=5864062014805):aS b<=b.length*5864062014805:=by
 induction b with
 |nil=>simp [aS]
 |cons x r ih=>
  have f:=d 0 (by simp);have i:=ih (λc g=>by have:=d (c+1) (by simpa using g);simpa using this);simp [aS] at f i ⊢;omega
theorem tT(b:List Lt)(c:Nat):aS (b.take c)<=aS b:=by have d:=congrArg aS (List.take_append_drop c b);simp only [aS,List.map_append,List.sum_append] at d ⊢;omega
def cZ(b:List Lt):Bool:=decide (b.length<=8) && decide (aS b<=60)
def fI(b:List Lt)(c:Lt):Bool:=b.any λd=>decide (d=c)
theorem xP(b:List Lt)(c:Lt):fI b c=true↔c∈b:=by simp [fI]
theorem aLv(c:List Lt)(d b:Lt):fI (c++[d]) b=(fI c b || decide (d=b)):=by simp [fI]
def eE(b:List Lt)(c:Lt):List Lt:=if fI b c then b else b++[c]
def bV(c:List Lt):List Lt:=c.foldl eE []
theorem aLw(b:List Lt)(c:Nat)(d:c<b.length):bV (b.take (c+1))=eE (bV (b.take c)) b[c]:=by rw [zz d];simp only [bV,zv,zy,zr]
theorem rF(c:List Lt):(bV c).length<=c.length/\aS (bV c)<=aS c/\∀d∈bV c,d∈c:=by
 suffices ∀(c:List Lt) (b:List Lt),(c.foldl eE b).length<=b.length+c.length/\aS (c.foldl eE b)<=aS b+aS c/\∀d∈c.foldl eE b,d∈b\/d∈c by
  have h:=this c [];exact ⟨by have:=h.1;simpa [bV] using this,by have:=h.2.1;simpa [aS,bV] using this,λd i=>by rcases h.2.2 d i with h|h<;>simp_all⟩
 intro c;induction c with
 |nil=>intro b;simp [aS]
 |cons d r ih=>
  intro b;have h:=ih (eE b d);have g:(eE b d).length<=b.length+1/\aS (eE b d)<=aS b+d.2.length/\∀f∈eE b d,f∈b\/f=d:=by
   unfold eE;split
   ·exact ⟨by omega,by omega,λf hy=>zi hy⟩
   ·exact ⟨by simp,by simp [aS],λf hy=>by simpa using hy⟩
  have j:aS (d::r)=d.2.length+aS r:=by simp [aS]
  simp only [zy,zt];refine ⟨by omega,by omega,λf hy=>?_⟩;rcases h.2.2 f hy with hy|hy
  ·rcases g.2.2 f hy with hy|rfl
   ·exact zi hy
   ·exact zo (by simp)
  ·exact zo (by simp [hy])
def dM(b:List Lt×List Int)(c:Lt):List Lt×List Int:=(b.1++[(c.1,(dY c.2 b.2).1)],(dY c.2 b.2).2)
def dB(b:List Lt):List Lt×List Int:=b.foldl dM ([],[])
def aT(b:List Lt):List Lt:=(dB (bV b)).1
theorem aLx(b:List Lt)(c:Nat)(d:c<b.length):dB (b.take (c+1))=dM (dB (b.take c)) b[c]:=by rw [zz d];simp only [dB,zv,zy,zr]
theorem rG(b:List Lt):(dB b).1.length=b.length/\(dB b).2.length<=aS b:=by
 suffices ∀(b:List Lt) (c:List Lt×List Int),(b.foldl dM c).1.length=c.1.length+b.length/\(b.foldl dM c).2.length<=c.2.length+aS b by
  have d:=this b ([],[]);simpa [dB] using d
 intro b;induction b with
 |nil=>intro c;simp [aS]
 |cons x r ih=>
  intro c;have d:=ih (dM c x);have f:=vF x.2 c.2;have g:aS (x::r)=x.2.length+aS r:=by simp [aS]
  simp only [zy,zt];have i:(dM c x).1.length=c.1.length+1:=by simp [dM]
  have j:(dM c x).2.length<=c.2.length+x.2.length:=f.2;exact ⟨by omega,by omega⟩
theorem xQ(b:List Lt)(c:Lt)(h:c∈b):c.2.length<=aS b:=by
 induction b with
 |nil=>simp at h
 |cons y r ih=>
  simp only [aS,List.map_cons,List.sum_cons] at ih ⊢;rcases List.mem_cons.1 h with rfl|h
  ·omega
  ·have:=ih h;omega
def bC(P:List (Lt×Value)):List Value:=P.flatMap λp=>[.bool p.1.1,p.2]
theorem aAg(b:List (Lt×Value)):(bC b).length=b.length*2:=by
 induction b with
 |nil=>rfl
 |cons x r ih=>simp [bC] at ih ⊢;omega
theorem xR(c:List (Lt×Value))(b:Lt×Value):bC (c++[b])=bC c++[.bool b.1.1,b.2]:=by simp [bC]
theorem vG(c:List (Lt×Value)):∀b (d:b<c.length),(bC c)[b*2]?=some (.bool c[b].1.1)/\(bC c)[b*2+1]?=some c[b].2:=by
 induction c with
 |nil=>intro b d;simp at d
 |cons x r ih=>
  intro b d;cases b with
  |zero=>simp [bC]
  |succ b=>
   have:=ih b (by simpa using d);have f:(b+1)*2=b*2+2:=by omega
   have g:(b+1)*2+1=b*2+1+2:=by omega
   rw [f];simp only [bC,zq,zn,List.nil_append,zu,zs] at this ⊢;exact this
theorem sJ{b:List (Lt×Value)}(i:w.ownsRow B 41 2 v b.length (bC b)):∃a f,v=.slice a b.length f/\∀c (i:c<b.length),∃d,a=some ⟨d,0,none⟩/\w.cell? ⟨d,c*2,none⟩=some (.bool b[c].1.1)/\w.cell? ⟨d,c*2+1,none⟩=some b[c].2:=by
 obtain ⟨l,⟨rfl,m⟩|⟨d,f,k,rfl,o,r,q,s,u,t⟩⟩:=i
 ·exact ⟨none,0,by rw [m],λc g=>by omega⟩
 ·have j:w.ownsRow B 41 2 (.slice (some ⟨d,0,none⟩) b.length f) b.length (bC b):=⟨l,zo ⟨d,f,k,rfl,o,r,q,s,u,t⟩⟩;refine ⟨_,_,rfl,λc g=>⟨d,rfl,?_,?_⟩⟩
  ·rw [j.cellAt (c*2) (by omega),(vG b c g).1]
  ·rw [j.cellAt (c*2+1) (by omega),(vG b c g).2]
theorem aY(b:w.ownsRow B e size v n xs):∃a cap,v=.slice a n cap:=by
 obtain ⟨_,⟨rfl,rfl⟩|⟨d,cap,c,rfl,_⟩⟩:=b
 ·exact ⟨_,_,rfl⟩
 ·exact ⟨_,_,rfl⟩
def kI(w:World)(v:Value)(b:List Nd):Prop:=∃a c,v=.slice a b.length c/\cS w a b
theorem sK:(zw.info? 41).map (λb=>(b.zero,b.size,b.bytes))=some (some (.agg #[.bool false,.slice none 0 0]),2,32):=by kernel_rfl
theorem sL(d:Bool)(a:Option Addr)(n f:Nat):∀c∈[Value.bool d,Value.slice a n f],c.oneCell'=true:=by intro c b;simp at b;rcases b with rfl|rfl<;>rfl
theorem aLy{b:List (Lt×Value)}{c:Lt}(d:∀p∈b,kI w p.2 p.1.2)(f:kI w v c.2):∀p∈b++[(c,v)],kI w p.2 p.1.2:=by
 intro p hp;rcases List.mem_append.1 hp with hp|hp
 ·exact d p hp
 ·simp at hp;subst hp;exact f
theorem aLz{c:World}{f g:Value}{b:List (Lt×Value)}{x:Lt}(j:c.ownsRow w.heap.size 41 2 f b.length (bC b))(d:aB w c)
  (k:w1.ownsRow w.heap.size 41 2 g (b.length+1) (bC b++[.bool x.1,v])) (i:c.grownBy w1 f.ownBlock):w1.ownsRow w.heap.size 41 2 g (b++[(x,v)]).length (bC (b++[(x,v)]))/\aB w w1:=by
 refine ⟨?_,d.grown i d.size λl e=>(cL j l e).1⟩;rw [xR,List.length_append];exact k
