import Derived.Test.YtmelidkanelpbaaGreatDoorChecked
import Derived.WalkKit
import Derived.WalkSpells
import Derived.WalkLawsBesides
import Derived.Laws.StructEq
import Derived.Deep.QuietTactic
import Derived.BigQuiet
open List renaming take_succ_eq_append_getElem→zz,foldl_cons→zy,drop_eq_getElem_cons→zx,foldl_append→zv,getElem?_cons_succ→zu,length_cons→zt,getElem_cons_succ→zs,foldl_nil→zr,flatMap_cons→zq,all_eq_true→zp,cons_append→zn,range→zj
open Or renaming inr→zo,inl→zi
namespace Go.Proofs.YtmelidkanelpbaaGreatDoor
open _root_.Go.Proofs.Tryz renaming prog→zw
open Go.RowKit
set_option maxRecDepth 100000
variable{xs:List Value}{B n size:Nat}{a:Option Addr}{p:Prop}{e:TypeId}{v:Value}{w w1:World}
def aM(p:Prop):Prop:=p
theorem aM.o(b:aM p):p:=b
theorem aM.out(b:aM p):p:=b
abbrev aB(w w1:World):Prop:=Below w.heap.size w w1
theorem zW{b:Type}[BEq b][LawfulBEq b]{a c:b}(d:a≠c):(a==c)=false:=beq_eq_false_iff_ne.2 d
theorem gB[Decidable p](b:¬p):decide p=false:=decide_eq_false b
theorem fC[Decidable p](b:p):decide p=true:=decide_eq_true b
theorem aI{b:Prop}{_:Decidable b}(c:¬b){d:Sort _}{t e:d}:ite b t e=e:=if_neg c
theorem aH{b:Prop}{_:Decidable b}(c:b){d:Sort _}{t e:d}:ite b t e=t:=if_pos c
theorem aA(b:p):aM p:=b
theorem aD(b:aM p):p:=b
theorem xO{c:IntKind}{a b:Int}(d:a=b):Ending.returned (.int c a)=.returned (.int c b):=by rw [d]
theorem dL{a b:Bool}(c:a=b):Ending.returned (.bool a)=.returned (.bool b):=by rw [c]
theorem mG(w:World)(n c:Nat):∃b,(w.drewN n).drewN c=w.drewN b:=⟨_,World.drewN_drewN _ _ _⟩
theorem aU(b:∃n,w1=w.drewN n):aB w w1:=by obtain ⟨n,rfl⟩:=b;exact ⟨rfl,rfl,rfl,Nat.le_refl _,λ_ _=>rfl⟩
theorem Below.at'(c:Below B w w1)(d:w.heap.size<=B){a:Addr}{v:Value}(b:w.cell? a=some v):w1.cell? a=some v:=
 (c.cell (Nat.lt_of_lt_of_le (World.block_lt_of_cell? w a b) d)).trans b
theorem aC{a:Addr}(c:aB w w1)(b:w.cell? a=some v):w1.cell? a=some v:=Below.at' c (Nat.le_refl _) b
theorem bK{c:World}(b:aB w w1)(k:aB w1 c):aB w c:=b.trans (k.mono b.size)
def aF(s:ByteArray)(b:Nat):Nat:=if h:b<s.size then (s[b]'h).toNat else 0
theorem nF(c:ByteArray)(b:Nat)(d:b<c.size):aF c b=(c[b]'d).toNat:=dif_pos d
def dE(b:Nat):Nat:=if b<128 then 1 else if b<194 then 0 else if b<224 then 2 else if b<240 then 3 else if b<245 then 4 else 0
def nG(b:Nat):Bool:=decide (128<=b) && decide (b<=191)
def tV(b c:Nat):Bool:=(decide (b=224) && decide (c<160)) || (decide (b=237) && decide (159<c)) || (decide (b=240) && decide (c<144)) || (decide (b=244) && decide (143<c))
theorem aP9(b c:Nat):tV b c=true↔(b=224/\c<160)\/(b=237/\159<c)\/(b=240/\c<144)\/(b=244/\143<c):=by simp [tV,or_assoc]
def bP(d:ByteArray)(c:Nat):Nat:=
 let b:=aF d c;let z:=dE b;if z<=1 then z
 else if d.size<c+z then 0
 else if (zj z).all (λf=>f==0 || nG (aF d (c+f))) && !tV b (aF d (c+1)) then z else 0
theorem sO(b:ByteArray)(p:Nat)(c:dE (aF b p)<=1):bP b p=dE (aF b p):=by simp [bP,c]
theorem aPa(b:ByteArray)(p c:Nat)(g:dE (aF b p)=c)(f:¬c<=1)(d:b.size<p+c):bP b p=0:=by subst g;simp [bP,f,d]
theorem aGo(c:ByteArray)(p d b:Nat)(k:dE (aF c p)=d)(g:¬d<=1)(l:0<b)(j:b<d)(i:nG (aF c (p+b))=false):bP c p=0:=by
 subst k;have:((zj (dE (aF c p))).all (λb=>b==0 || nG (aF c (p+b))))=false:=by rw [Bool.eq_false_iff];intro f;rw [zp] at f;have:=f b (by simpa using j);simp [i] at this;omega
 simp [bP,g,this]
theorem aPb(b:ByteArray)(p d:Nat)(l:dE (aF b p)=d)(i:¬d<=1)(f:¬b.size<p+d)(j:∀c,0<c->c<d->nG (aF b (p+c))=true):bP b p=if tV (aF b p) (aF b (p+1)) then 0 else d:=by
 subst l;have:((zj (dE (aF b p))).all (λc=>c==0 || nG (aF b (p+c))))=true:=by
  rw [zp];intro c k;by_cases g:c=0
  ·simp [g]
  ·simp [j c (by omega) (by simpa using k)]
 simp only [bP,aI i,aI f,this,Bool.true_and];cases tV (aF b p) (aF b (p+1))<;>simp
theorem aCe(b:ByteArray)(p:Nat)(d:p<b.size):p+bP b p<=b.size:=by
 by_cases c:dE (aF b p)<=1
 ·rw [sO b p c];omega
 ·simp only [bP,aI c];split
  ·omega
  ·split<;>omega
def gD(b:ByteArray):Nat->Nat->Nat->Bool
 |0,_,m=>decide (1<=m) && decide (m<=20)
 |f+1,p,m=>if p<b.size then (if bP b p=0\/aF b p=10 then false else gD b f (p+bP b p) (m+1)) else decide (1<=m) && decide (m<=20)
def eM(b:ByteArray):Bool:=gD b b.size 0 0
theorem aCf(d:ByteArray)(b p c:Nat)(f:¬p<d.size):gD d b p c=(decide (1<=c) && decide (c<=20)):=by
 cases b with
 |zero=>rfl
 |succ b=>simp [gD,f]
theorem aCg(b:ByteArray)(c p i:Nat)(f:p<b.size)(j:b.size-p<=c)(g:bP b p=0\/aF b p=10):gD b c p i=false:=by obtain ⟨d,rfl⟩ : ∃d,c=d+1:=⟨c-1,by omega⟩;simp only [gD,aH f,aH g]
theorem aPc(b:ByteArray)(d p f:Nat)(g:p<b.size)(j:b.size-p<=d)(i:¬(bP b p=0\/aF b p=10)):∃c,b.size-(p+bP b p)<=c/\gD b d p f=gD b c (p+bP b p) (f+1):=by
 obtain ⟨c,rfl⟩ : ∃c,d=c+1:=⟨d-1,by omega⟩;refine ⟨c,by omega,?_⟩;simp only [gD,aH g,aI i]
abbrev Nd:=ByteArray×Int
abbrev Lt:=Bool×List Nd
structure dW(w:World)(a:Option Addr)(l:List Nd):Prop where
 few:l.length<=5864062014805
 short:∀k (h:k<l.length),l[k].1.size<=140737488355328
 cell:∀k (h:k<l.length),∃b o,a=some ⟨b,o,none⟩/\w.cell? ⟨b,o+k*2,none⟩=some (.string l[k].1)/\w.cell? ⟨b,o+k*2+1,none⟩=some (.int .i64 l[k].2)
structure cH(w:World)(a:Option Addr)(c:List Lt):Prop where
 few:c.length<=4398046511104
 cell:∀k (h:k<c.length),∃b o aa cap,a=some ⟨b,o,none⟩/\w.cell? ⟨b,o+k*2,none⟩=some (.bool c[k].1)/\w.cell? ⟨b,o+k*2+1,none⟩=some (.slice aa c[k].2.length cap)/\dW w aa c[k].2
theorem dW.below{d:List Nd}(b:dW w a d){B:Nat}(k:Below B w w1)(c:w.heap.size<=B):dW w1 a d:=
 ⟨b.few,b.short,λj m=>by obtain ⟨f,o,g,i,l⟩:=b.cell j m;exact ⟨f,o,g,Below.at' k c i,Below.at' k c l⟩⟩
theorem cH.below{d:List Lt}(c:cH w a d){B:Nat}(k:Below B w w1)(b:w.heap.size<=B):cH w1 a d:=
 ⟨c.few,λj r=>by obtain ⟨g,s,f,i,l,m,o,q⟩:=c.cell j r;exact ⟨g,s,f,i,l,Below.at' k b m,Below.at' k b o,q.below k b⟩⟩
theorem cH.drawn{b:List Lt}(c:cH w a b)(d:∃n,w1=w.drewN n):cH w1 a b:=c.below (aU d) (Nat.le_refl _)
theorem cH.drewN{b:List Lt}(c:cH w a b)(n:Nat):cH (w.drewN n) a b:=c.drawn ⟨n,rfl⟩
theorem aPd:zw.stoodInHeld 117=false:=by kernel_rfl
theorem xP:zw.eqGuardType zw.depth 117=false:=by kernel_rfl
theorem aPe:zw.underlying 117=some (.struct (zw.fieldsOf 117)):=by kernel_rfl
def zX(c:ByteArray)(a:Int)(d:ByteArray)(b:Int):Bool:=c.toList==d.toList && a==b
theorem zY{b c:ByteArray}:b.toList=c.toList↔b=c:=by rw [ByteArray.toList_eq,ByteArray.toList_eq];obtain ⟨⟨d⟩⟩:=b;obtain ⟨⟨f⟩⟩:=c;simp
theorem xQ(b c:ByteArray×Int):zX b.1 b.2 c.1 c.2=decide (b=c):=by rw [Bool.eq_iff_iff];simp [zX,zY,Prod.ext_iff]
theorem xR(c d:ByteArray)(a b:Int)(w:World):(Op.equalIn 10000 117 (.agg #[.string c,.int .i64 a]) (.agg #[.string d,.int .i64 b])).run zw w=.ok (zX c a d b) w:=by unfold zX;rw [show (10000:Nat)=9999+1 from rfl,run_equalIn_agg w 9999 117 _ _ aPe aPd];simp only [Program.fieldsOf,Tryz.underlying117];go_simp;cases h1:(c.toList==d.toList)<;>cases h2:(a==b)<;>simp_all
def aL(n:Nd):Bool:=n.1.toList.isEmpty
def dC(n:Nd):Bool:=if aL n then decide (0<=n.2) && decide (n.2<60) else eM n.1 && (decide (0<=n.2) && decide (n.2<=5))
def aY(n:Nd):Nat:=if aL n then 0 else n.2.toNat
def aQ:List Nd->Nat->Bool
 |[],q=>decide (q=0)
 |n::r,q=>if q=0 then false else if dC n then aQ r (q-1+aY n) else false
def iZ(b:List Nd):Bool:=aQ b 1 && decide (b.length<=60)
theorem aCh(c:List Nd)(b:Nat)(d:b<c.length):aQ (c.drop b) 0=false:=by rw [zx d];simp [aQ]
theorem aPf(c:List Nd)(b g:Nat)(d:b<c.length)(f:dC c[b]=false):aQ (c.drop b) g=false:=by rw [zx d];simp [aQ,f]
theorem aPg(c:List Nd)(b d:Nat)(f:b<c.length)(i:d≠0)(g:dC c[b]=true):aQ (c.drop b) d=aQ (c.drop (b+1)) (d-1+aY c[b]):=by rw [zx f];simp [aQ,g,i]
theorem cU(c:w.ownsRow B e size v n xs):∀b,v.ownBlock=some b->B<=b/\b<w.heap.size:=World.ownsRow.lt c
theorem gE{f:Nat}{c:TypeId}{m:Nat}{d:Value}{l:Nat}{o:List Value}(g:w.ownsRow B e size v n xs)(i:w.ownsRow f c m d l o)(j:e≠c):v.ownBlock=none\/v.ownBlock≠d.ownBlock:=by
 obtain ⟨_,⟨rfl,_⟩|⟨u,q,s,rfl,y,k,_⟩⟩:=g
 ·exact zi rfl
 ·obtain ⟨_,⟨rfl,_⟩|⟨x,r,t,rfl,z,b,_⟩⟩:=i
  ·right;simp [Value.ownBlock]
  ·right;simp [Value.ownBlock];rintro rfl;rw [k] at b;simp at b;exact j b.2
theorem bG{d:World}{B':Nat}(j:w.ownsRow B e size v n xs)(o:Below B' w d)(q:w.heap.size<=B'):d.ownsRow B e size v n xs:=by
 obtain ⟨b,⟨rfl,k⟩|⟨g,f,i,rfl,l,c,m⟩⟩:=j
 ·exact ⟨b,zi ⟨rfl,k⟩⟩
 ·refine ⟨b,zo ⟨g,f,i,rfl,l,?_,m⟩⟩;have r:g<w.heap.size:=(Array.getElem?_eq_some_iff.1 c).1;rw [o.block g (by omega),c]
theorem iP{B':Nat}(f:w.ownsRow B e size v n xs)(k:B'<=B):w.ownsRow B' e size v n xs:=by
 obtain ⟨b,⟨rfl,i⟩|⟨g,c,d,rfl,l,j⟩⟩:=f
 ·exact ⟨b,zi ⟨rfl,i⟩⟩
 ·exact ⟨b,zo ⟨g,c,d,rfl,by omega,j⟩⟩
def bB(b:List Nd):List Value:=b.flatMap λn=>[.string n.1,.int .i64 n.2]
theorem aPh(b:List Nd):(bB b).length=b.length*2:=by
 induction b with
 |nil=>rfl
 |cons x r ih=>simp [bB] at ih ⊢;omega
theorem xS(c:List Nd)(b:Nd):bB (c++[b])=bB c++[.string b.1,.int .i64 b.2]:=by simp [bB]
theorem xT(c:List Nd):∀b (d:b<c.length),(bB c)[b*2]?=some (.string c[b].1)/\(bB c)[b*2+1]?=some (.int .i64 c[b].2):=by
 induction c with
 |nil=>intro b d;simp at d
 |cons x r ih=>
  intro b d;cases b with
  |zero=>simp [bB]
  |succ b=>
   have:=ih b (by simpa using d);have f:(b+1)*2=b*2+2:=by omega
   have g:(b+1)*2+1=b*2+1+2:=by omega
   rw [f];simp only [bB,zq,zn,List.nil_append,zu,zs] at this ⊢;exact this
theorem vL{b:List Nd}(i:w.ownsRow B 117 2 v b.length (bB b))(j:b.length<=5864062014805)(l:∀c (i:c<b.length),b[c].1.size<=140737488355328):∃a d,v=.slice a b.length d/\dW w a b:=by
 obtain ⟨o,⟨rfl,q⟩|⟨f,d,m,rfl,r,t,s,u,y,x⟩⟩:=i
 ·refine ⟨none,0,by rw [q],⟨j,l,λc g=>by omega⟩⟩
 ·have k:w.ownsRow B 117 2 (.slice (some ⟨f,0,none⟩) b.length d) b.length (bB b):=⟨o,zo ⟨f,d,m,rfl,r,t,s,u,y,x⟩⟩;refine ⟨_,_,rfl,⟨j,l,λc g=>⟨f,0,rfl,?_,?_⟩⟩⟩
  ·rw [Nat.zero_add,k.cellAt (c*2) (by omega),(xT b c g).1]
  ·rw [Nat.zero_add,k.cellAt (c*2+1) (by omega),(xT b c g).2]
def sP:List Int->Int->Int
 |[],_=>-1
 |y::r,x=>if y=x then r.length else sP r x
def eS(b:List Int)(c:Int):Int:=sP b.reverse c
theorem aGp(b:Int):eS [] b=-1:=rfl
theorem aCi(b:List Int)(d c:Int):eS (b++[d]) c=if d=c then (b.length:Int) else eS b c:=by simp [eS,sP]
def cI(b:List Nd×List Int)(n:Nd):List Nd×List Int:=
 if aL n then (if eS b.2 n.2<0 then (b.1++[(n.1,(b.2.length:Int))],b.2++[n.2]) else (b.1++[(n.1,eS b.2 n.2)],b.2))
 else (b.1++[n],b.2)
def dY(b:List Nd)(c:List Int):List Nd×List Int:=b.foldl cI ([],c)
theorem aPi(c:List Nd)(d:List Int)(b:Nat)(f:b<c.length):dY (c.take (b+1)) d=cI (dY (c.take b) d) c[b]:=by rw [zz f];simp only [dY,zv,zy,zr]
theorem xU(b:List Nd)(d:List Int):(dY b d).1.length=b.length/\(dY b d).2.length<=d.length+b.length:=by
 unfold dY;suffices ∀(b:List Nd) (c:List Nd×List Int),(b.foldl cI c).1.length=c.1.length+b.length/\(b.foldl cI c).2.length<=c.2.length+b.length by
  have:=this b ([],d);simpa using this
 intro b;induction b with
 |nil=>intro c;simp
 |cons x r ih=>
  intro c;have f:=ih (cI c x);have g:(cI c x).1.length=c.1.length+1/\(cI c x).2.length<=c.2.length+1:=by
   unfold cI;split
   ·split<;>simp
   ·simp
  simp only [zy,zt];omega
theorem sQ:(zw.info? 117).map (λb=>(b.zero,b.size,b.bytes))=some (some (.agg #[.string ⟨#[]⟩,.int .i64 0]),2,24):=by kernel_rfl
theorem tW:(zw.info? 3).map (λi=>(i.zero,i.size,i.bytes))=some (some (.int .i64 0),1,8):=by kernel_rfl
theorem kZ(w:World)(d:Value)(x:Value)(g:TypeId)(n:Nat)(f:n=w.heap.size):∀j c,[d,x][j]?=some c->(w.alloc (.cells #[d,x] g)).cell? ((⟨n,0,none⟩ : Addr).add j)=some c:=by
 subst f;intro j c b;match j,b with
 |0,b=>simp at b;subst b;simp [Addr.add]
 |1,b=>simp at b;subst b;simp [Addr.add]
 |j+2,b=>simp at b
theorem tX(w:World)(d:Value)(g:TypeId)(n:Nat)(f:n=w.heap.size):∀j c,[d][j]?=some c->(w.alloc (.cells #[d] g)).cell? ((⟨n,0,none⟩ : Addr).add j)=some c:=by
 subst f;intro j c b;match j,b with
 |0,b=>simp at b;subst b;simp [Addr.add]
 |j+1,b=>simp at b
theorem aCj(d:ByteArray)(f:Int):∀c∈[Value.string d,Value.int .i64 f],c.oneCell'=true:=by intro c b;simp at b;rcases b with rfl|rfl<;>rfl
theorem aGq(d:Int):∀c∈[Value.int .i64 d],c.oneCell'=true:=by intro c b;simp at b;subst b;rfl
theorem aGr{b:List Int}(g:w.ownsRow B 3 1 v b.length (b.map (Value.int .i64))):∃a f,v=.slice a b.length f/\∀d (g:d<b.length),∃c,a=some ⟨c,0,none⟩/\w.cell? ⟨c,d,none⟩=some (.int .i64 b[d]):=by
 obtain ⟨k,⟨rfl,l⟩|⟨c,f,j,rfl,m,q,o,r,u,t⟩⟩:=g
 ·exact ⟨none,0,by rw [l],λd i=>by omega⟩
 ·have s:w.ownsRow B 3 1 (.slice (some ⟨c,0,none⟩) b.length f) b.length (b.map (Value.int .i64)):=⟨k,zo ⟨c,f,j,rfl,m,q,o,r,u,t⟩⟩;refine ⟨_,_,rfl,λd i=>⟨c,rfl,?_⟩⟩;rw [s.cellAt d (by omega)];simp [i]
theorem cN(w:World)(p:Addr)(c:Value):w.grownBy (w.setCell p c) (some p.block):=
 ⟨rfl,rfl,rfl,by simp [World.setCell],λd _ b=>Below.heap_setCell _ _ _ _ (λe=>b (by rw [e]))⟩
def mH(b c:Lt):Bool:=decide (b.2=c.2) && b.1==c.1
theorem aGs(b c:Lt):mH b c=decide (b=c):=by rw [Bool.eq_iff_iff];simp [mH,Prod.ext_iff,and_comm]
def aR(c:List Lt):Nat:=(c.map λb=>b.2.length).sum
theorem rH(b:List Lt)(c:Lt):aR (b++[c])=aR b+c.2.length:=by simp [aR]
theorem aPj(b:List Lt)(d:∀c (d:c<b.length),(b[c]).2.length<=5864062014805):aR b<=b.length*5864062014805:=by
 induction b with
 |nil=>simp [aR]
 |cons x r ih=>
  have f:=d 0 (by simp);have i:=ih (λc g=>by have:=d (c+1) (by simpa using g);simpa using this);simp [aR] at f i ⊢;omega
theorem xV(b:List Lt)(c:Nat):aR (b.take c)<=aR b:=by have d:=congrArg aR (List.take_append_drop c b);simp only [aR,List.map_append,List.sum_append] at d ⊢;omega
def bL(c:List Lt):Bool:=decide (c.length<=8) && decide (aR c<=60)
def fO(b:List Lt)(c:Lt):Bool:=b.any λd=>decide (d=c)
theorem vN(b:List Lt)(c:Lt):fO b c=true↔c∈b:=by simp [fO]
theorem aPk(c:List Lt)(d b:Lt):fO (c++[d]) b=(fO c b || decide (d=b)):=by simp [fO]
def eG(b:List Lt)(c:Lt):List Lt:=if fO b c then b else b++[c]
def bT(c:List Lt):List Lt:=c.foldl eG []
theorem aPl(b:List Lt)(c:Nat)(d:c<b.length):bT (b.take (c+1))=eG (bT (b.take c)) b[c]:=by rw [zz d];simp only [bT,zv,zy,zr]
theorem jW(c:List Lt):(bT c).length<=c.length/\aR (bT c)<=aR c/\∀d∈bT c,d∈c:=by
 suffices ∀(c:List Lt) (b:List Lt),(c.foldl eG b).length<=b.length+c.length/\aR (c.foldl eG b)<=aR b+aR c/\∀d∈c.foldl eG b,d∈b\/d∈c by
  have h:=this c [];exact ⟨by have:=h.1;simpa [bT] using this,by have:=h.2.1;simpa [aR,bT] using this,λd i=>by rcases h.2.2 d i with h|h<;>simp_all⟩
 intro c;induction c with
 |nil=>intro b;simp [aR]
 |cons d r ih=>
  intro b;have h:=ih (eG b d);have g:(eG b d).length<=b.length+1/\aR (eG b d)<=aR b+d.2.length/\∀f∈eG b d,f∈b\/f=d:=by
   unfold eG;split
   ·exact ⟨by omega,by omega,λf hy=>zi hy⟩
   ·exact ⟨by simp,by simp [aR],λf hy=>by simpa using hy⟩
  have j:aR (d::r)=d.2.length+aR r:=by simp [aR]
  simp only [zy,zt];refine ⟨by omega,by omega,λf hy=>?_⟩;rcases h.2.2 f hy with hy|hy
  ·rcases g.2.2 f hy with hy|rfl
   ·exact zi hy
   ·exact zo (by simp)
  ·exact zo (by simp [hy])
def dM(b:List Lt×List Int)(c:Lt):List Lt×List Int:=(b.1++[(c.1,(dY c.2 b.2).1)],(dY c.2 b.2).2)
def cW(b:List Lt):List Lt×List Int:=b.foldl dM ([],[])
def aV(c:List Lt):List Lt:=(cW (bT c)).1
theorem aPm(b:List Lt)(c:Nat)(d:c<b.length):cW (b.take (c+1))=dM (cW (b.take c)) b[c]:=by rw [zz d];simp only [cW,zv,zy,zr]
theorem pJ(b:List Lt):(cW b).1.length=b.length/\(cW b).2.length<=aR b:=by
 suffices ∀(b:List Lt) (c:List Lt×List Int),(b.foldl dM c).1.length=c.1.length+b.length/\(b.foldl dM c).2.length<=c.2.length+aR b by
  have d:=this b ([],[]);simpa [cW] using d
 intro b;induction b with
 |nil=>intro c;simp [aR]
 |cons x r ih=>
  intro c;have d:=ih (dM c x);have f:=xU x.2 c.2;have g:aR (x::r)=x.2.length+aR r:=by simp [aR]
  simp only [zy,zt];have i:(dM c x).1.length=c.1.length+1:=by simp [dM]
  have j:(dM c x).2.length<=c.2.length+x.2.length:=f.2;exact ⟨by omega,by omega⟩
theorem vO(b:List Lt)(c:Lt)(h:c∈b):c.2.length<=aR b:=by
 induction b with
 |nil=>simp at h
 |cons y r ih=>
  simp only [aR,List.map_cons,List.sum_cons] at ih ⊢;rcases List.mem_cons.1 h with rfl|h
  ·omega
  ·have:=ih h;omega
def bF(P:List (Lt×Value)):List Value:=P.flatMap λp=>[.bool p.1.1,p.2]
theorem aCk(b:List (Lt×Value)):(bF b).length=b.length*2:=by
 induction b with
 |nil=>rfl
 |cons x r ih=>simp [bF] at ih ⊢;omega
theorem zZ(c:List (Lt×Value))(b:Lt×Value):bF (c++[b])=bF c++[.bool b.1.1,b.2]:=by simp [bF]
theorem xW(c:List (Lt×Value)):∀b (d:b<c.length),(bF c)[b*2]?=some (.bool c[b].1.1)/\(bF c)[b*2+1]?=some c[b].2:=by
 induction c with
 |nil=>intro b d;simp at d
 |cons x r ih=>
  intro b d;cases b with
  |zero=>simp [bF]
  |succ b=>
   have:=ih b (by simpa using d);have f:(b+1)*2=b*2+2:=by omega
   have g:(b+1)*2+1=b*2+1+2:=by omega
   rw [f];simp only [bF,zq,zn,List.nil_append,zu,zs] at this ⊢;exact this
theorem tY{b:List (Lt×Value)}(i:w.ownsRow B 86 2 v b.length (bF b)):∃a f,v=.slice a b.length f/\∀c (i:c<b.length),∃d,a=some ⟨d,0,none⟩/\w.cell? ⟨d,c*2,none⟩=some (.bool b[c].1.1)/\w.cell? ⟨d,c*2+1,none⟩=some b[c].2:=by
 obtain ⟨l,⟨rfl,m⟩|⟨d,f,k,rfl,o,r,q,s,u,t⟩⟩:=i
 ·exact ⟨none,0,by rw [m],λc g=>by omega⟩
 ·have j:w.ownsRow B 86 2 (.slice (some ⟨d,0,none⟩) b.length f) b.length (bF b):=⟨l,zo ⟨d,f,k,rfl,o,r,q,s,u,t⟩⟩;refine ⟨_,_,rfl,λc g=>⟨d,rfl,?_,?_⟩⟩
  ·rw [j.cellAt (c*2) (by omega),(xW b c g).1]
  ·rw [j.cellAt (c*2+1) (by omega),(xW b c g).2]
theorem bA(b:w.ownsRow B e size v n xs):∃a cap,v=.slice a n cap:=by
 obtain ⟨_,⟨rfl,rfl⟩|⟨d,cap,c,rfl,_⟩⟩:=b
 ·exact ⟨_,_,rfl⟩
 ·exact ⟨_,_,rfl⟩
def lA(w:World)(v:Value)(b:List Nd):Prop:=∃a c,v=.slice a b.length c/\dW w a b
theorem tZ:(zw.info? 86).map (λb=>(b.zero,b.size,b.bytes))=some (some (.agg #[.bool false,.slice none 0 0]),2,32):=by kernel_rfl
theorem uA(d:Bool)(a:Option Addr)(n f:Nat):∀c∈[Value.bool d,Value.slice a n f],c.oneCell'=true:=by intro c b;simp at b;rcases b with rfl|rfl<;>rfl
theorem aPn{b:List (Lt×Value)}{c:Lt}(d:∀p∈b,lA w p.2 p.1.2)(f:lA w v c.2):∀p∈b++[(c,v)],lA w p.2 p.1.2:=by
 intro p hp;rcases List.mem_append.1 hp with hp|hp
 ·exact d p hp
 ·simp at hp;subst hp;exact f
theorem aPo{c:World}{f g:Value}{b:List (Lt×Value)}{x:Lt}(j:c.ownsRow w.heap.size 86 2 f b.length (bF b))(d:aB w c)
  (k:w1.ownsRow w.heap.size 86 2 g (b.length+1) (bF b++[.bool x.1,v])) (i:c.grownBy w1 f.ownBlock):w1.ownsRow w.heap.size 86 2 g (b++[(x,v)]).length (bF (b++[(x,v)]))/\aB w w1:=by
 refine ⟨?_,d.grown i d.size λl e=>(cU j l e).1⟩;rw [zZ,List.length_append];exact k
