import Derived.Test.YtmelidkanelpbaaGreatDoorGSpecH
import Derived.Laws.Cover4
import Derived.Lib.MapLaws
import Derived.Deep.DeepCutAuto
open Bool renaming and_eq_false_iff→zj,and_eq_true→zd
open List renaming getD_eq_getElem?_getD→zx,getElem?_eq_getElem→zw,length_append→zp,length_drop→zn,take_of_length_le→zl,map_append→zk,map_cons→zi,getElem?_drop→zh,map_nil→zg,getElem?_map→zf,length→zb
open Nat renaming le_refl→zy,le_trans→zm
namespace Go.Proofs.YtmelidkanelpbaaGreatDoor
open _root_.Go.Proofs.Tryz renaming underlying138→zv,results61→zr,prog→zq
open Utf8 renaming encode→zt,decode→zs,valid→z7
open Value renaming int→zo
open World renaming cell?→zz,frozen?→zu,ownsRow_nil→ze
open Go.RowKit
set_option maxHeartbeats 3000000
set_option maxRecDepth 100000
variable{n:ByteArray}{w w':World}
theorem aIm:(zq.info? 21).map (λa=>(a.zero,a.size,a.bytes))=some (some (.int .i32 0),1,4):=by kernel_rfl
theorem aD2(c:Int):∀b∈[zo .i32 c],b.oneCell'=true:=by intro b a;simp at a;subst a;rfl
theorem aT9(a:Nat)(b:a<128):zt (a:Int)=⟨#[UInt8.ofNat a]⟩:=by
 have c:z7 (a:Int)=true:=by rw [validRune_eq];unfold validRune;simp;omega
 unfold zt;simp [c,b]
theorem aAg(a:List Int)(b:Int):runesBytes (a++[b])=runesBytes a++zt b:=by unfold runesBytes;rw [List.foldl_append];rfl
theorem aTa(b:ByteArray)(c a:Nat)(g:c<=a)(f:a<b.size):b.extract c (a+1)=b.extract c a++⟨#[UInt8.ofNat (aF b a)]⟩:=by
 have d:b.extract a (a+1)=⟨#[UInt8.ofNat (aF b a)]⟩:=by
  rw [nF b a f];apply ByteArray.ext;rw [ByteArray.data_extract];apply Array.ext
  ·simp;have:a<b.data.size:=f;omega
  ·intro i d e;simp at e;subst e;simp;rfl
 rw [<-d];apply ByteArray.ext;simp only [ByteArray.data_append,ByteArray.data_extract];rw [Array.extract_append_extract];congr 1
 ·omega
 ·omega
def oM(d:ByteArray)(b c:Nat):List Int:=(List.range c).map λa=>(aF d (b+a):Int)
theorem aIn(c:ByteArray)(a b:Nat):oM c a (b+1)=oM c a b++[(aF c (a+b):Int)]:=by simp [oM,List.range_succ]
theorem aTb(c:ByteArray)(a:Nat):∀b,a+b<=c.size->(∀d,d<b->aF c (a+d)<128)->runesBytes (oM c a b)=c.extract a (a+b):=by
 intro b;induction b with
 |zero=>
  intro _ _;have:c.extract a (a+0)=ByteArray.empty:=by
   apply ByteArray.ext;rw [ByteArray.data_extract];apply Array.ext
   ·simp;omega
   ·intro d f e;simp at e
  rw [this];rfl
 |succ b ih=>
  intro f e;rw [aIn,aAg,ih (by omega) (λd g=>e d (by omega)),aT9 _ (e b (by omega)),<-aTa c a (a+b) (by omega) (by omega)];rfl
theorem aD3(a:Nat)(b:eU (a:Int)=true):a<128:=by simp only [eU,eP,dR,tJ,Bool.or_eq_true,zd,decide_eq_true_eq,beq_iff_eq] at b;omega
theorem aTc(b:ByteArray)(a:Nat):eU (aT b a)=(decide (a<b.size) && eU (aF b a)):=by
 by_cases c:a<b.size
 ·by_cases d:aF b a<128
  ·rw [(mJ b a c d).1];simp [c]
  ·have f:eU (aF b a:Int)=false:=by
    cases hi:eU (aF b a:Int)
    ·rfl
    ·exact absurd (aD3 _ hi) d
   rw [f];rcases yA b a c (by omega) with e|e
   ·rw [e];simp;decide
   ·have:eU (aT b a)=false:=by
     simp only [eU,eP,dR,tJ,Bool.or_eq_false_iff,zj,decide_eq_false_iff_not,beq_eq_false_iff_ne];omega
    rw [this];simp
 ·rw [oJ b a c];simp [c];decide
section
variable {B:Nat}{pb:Nat}{s:ByteArray}{p g j m c:Nat}{k a:Int}{wd:ByteArray}{vC vP vM:Value}
theorem bO.letters(e:bO B w pb s p g j m c k a wd vC vP vM):∀b,p+b<=s.size->(∀d,d<b->aF s (p+d)<128)->(bZ s 0).drop (j+b)=bZ s (p+b)/\b<=m:=by
 intro b;induction b with
 |zero=>intro _ _;exact ⟨e.drop,Nat.zero_le _⟩
 |succ b ih=>
  intro r f;obtain ⟨q,v⟩:=ih (by omega) (λd u=>f d (by omega));have l:=(mJ s (p+b) (by omega) (f b (by omega))).2;unfold gV at l;have i:(bZ s 0).drop (j+(b+1))=bZ s (p+(b+1)):=by
   have o:(bZ s 0).drop (j+(b+1))=((bZ s 0).drop (j+b)).drop 1:=by rw [List.drop_drop];rfl
   rw [o,q,sV (by omega),l];rfl
  refine ⟨i,?_⟩;have:=congrArg zb i;rw [zn,e.len] at this;have t:=(aA9 s _ (p+(b+1)) (zy _)).1;omega
theorem bO.cells(e:bO B w pb s p g j m c k a wd vC vP vM)(b d:Nat)(o:(bZ s 0).drop (j+b)=bZ s d)(t:d<=s.size)(x:b<=m):w.cell? ⟨g,j*2+b*2,none⟩=some (.int .i32 (aT s d))/\w.cell? ⟨g,j*2+b*2+1,none⟩=some (.int .i64 d):=by
 obtain ⟨y,u⟩:=aCv s d t;have v:=e.len;have r:j+b<(bZ s 0).length:=by omega
 have q:(bZ s 0)[j+b]=(aT s d,d):=by
  have l:((bZ s 0).drop (j+b))[0]?=some (aT s d,d):=by rw [o,u];rfl
  rw [zh,zw (by omega)] at l;simpa using l
 obtain ⟨f,i⟩:=aCr (bZ s 0) (j+b) r;rw [q] at f i;rw [show (j+b)*2=j*2+b*2 by omega] at f i;exact ⟨by rw [e.row.cellAt _ (by omega),f],by rw [e.row.cellAt _ (by omega),i]⟩
theorem bO.jump(b i e d:Nat)(f:bO B w pb s p g j (e+b) (d+b) k a wd vC vP vM)(l:(bZ s 0).drop (j+b)=bZ s i)(o:i<=s.size):bO B (w.setCell ⟨pb,0,none⟩ (.slice (some ⟨g,j*2+b*2,none⟩) (e+1) (d+1))) pb s i g (j+b) e d k a wd vC vP vM:=by rw [show j*2+b*2=(j+b)*2 by omega];refine ⟨f.box.set0 _,f.high,?_,by have:=f.len;omega,l,o⟩;have:=f.box.row f.row (by decide) 0 (.slice (some ⟨g,(j+b)*2,none⟩) (e+1) (d+1));rw [show j+b+e+1=j+(e+b)+1 by omega,show j+b+d+1=j+(d+b)+1 by omega];exact this
theorem bO.mc(d:bO B w pb s p g j m c k a wd vC vP vM):m<=c:=by
 obtain ⟨_,e⟩:=d.row;rcases e with ⟨b,_⟩|⟨l,f,i,b,_,_,o,_⟩
 ·simp at b
 ·simp at b;obtain ⟨_,rfl⟩:=b;omega
end
theorem aIo{b:ByteArray}{a e:Nat}(g:bP b a≠0)(r:e+bP b a<=n.size)(c:∀k,k<bP b a->aF n (e+k)=aF b (a+k)):bP n e=bP b a:=by
 have d:=c 0 (by omega);simp only [Nat.add_zero] at d;by_cases m:dE (aF b a)<=1
 ·rw [sO b a m] at g ⊢;rw [sO n e (by rw [d];exact m),d]
 ·obtain ⟨f,j⟩ : ∃f,dE (aF b a)=f:=⟨_,rfl⟩;have o:f<=4:=by rw [<-j];unfold dE;split<;>(try split)<;>(try split)<;>(try split)<;>(try split)<;>omega
  have i:=rT b a f j (by omega) o;have q:=rT n e f (by rw [d];exact j) (by omega) o;rw [i] at g;split at g
  ·exact absurd rfl g
  ·rename_i p;rw [aI p] at i;rw [i] at r c ⊢;rw [q,aI];intro h;apply p;have l:=c 1 (by omega);rcases h with h|h|h|h|h
   ·omega
   ·right;left;rw [<-l];exact h
   ·right;right;left;exact ⟨h.1,by rw [<-c 2 (by omega)];exact h.2⟩
   ·right;right;right;left;exact ⟨h.1,by rw [<-c 3 (by omega)];exact h.2⟩
   ·right;right;right;right;rw [<-d,<-l];exact h
inductive lS(n:ByteArray):Nat->Nat->Nat->Prop
 |done (p:Nat):lS n p p 0
 |step {p e k:Nat}:p<n.size->bP n p≠0->aF n p≠10->lS n (p+bP n p) e k->lS n p e (k+1)
theorem lS.name{n:ByteArray}{p d c:Nat}(e:lS n p d c)(i:d=n.size):∀b a,n.size-p<=b->gD n b p a=(decide (1<=a+c) && decide (a+c<=20)):=by
 induction e with
 |done p=>intro b a _;rw [aCf n b p a (by omega)];rfl
 |@step p d c h1 h2 h3 _ ih=>
  intro b a j;obtain ⟨g,k,f⟩:=aPc n b p a h1 j (λe=>e.elim h2 h3);rw [f,ih i g (a+1) k,show a+1+c=a+(c+1) by omega]
theorem aD4(a c:ByteArray)(b:Nat):aF (a++c) b=if b<a.size then aF a b else aF c (b-a.size):=by
 rw [lU,lU,lU];have:(a++c).data.toList=a.data.toList++c.data.toList:=by rw [ByteArray.data_append,Array.toList_append]
 rw [this,mX];by_cases d:b<a.data.toList.length
 ·rw [aH d,zx,zx,List.getElem?_append_left d]
 ·rw [aI d,zx,zx,List.getElem?_append_right (by omega)]
theorem lS.grow{x:ByteArray}{a b c:Nat}(e:lS n a b c)(f:b<=n.size):lS (n++x) a b c:=by
 induction e with
 |done a=>exact .done a
 |@step a b c h1 h2 h3 _ ih=>
  have i:=aCe n a h1;have d:bP (n++x) a=bP n a:=aIo h2 (by rw [ByteArray.size_append];omega) (λj g=>by rw [aD4,aH (by omega)]);refine .step (by rw [ByteArray.size_append];omega) (by rw [d];exact h2) (by rw [aD4,aH h1];exact h3) ?_;rw [d];exact ih f
theorem lS.snoc{p a e:Nat}(f:lS n p a e)(d:a<n.size)(c:bP n a≠0)(b:aF n a≠10):lS n p (a+bP n a) (e+1):=by
 induction f with
 |done p=>exact .step d c b (.done _)
 |step h1 h2 h3 _ ih=>exact .step h1 h2 h3 (ih d c b)
theorem lS.char{b:ByteArray}{j a:Nat}(k:lS n 0 n.size j)(m:a<b.size)(g:bP b a≠0)(l:aF b a≠10):lS (n++b.extract a (a+bP b a)) 0 (n++b.extract a (a+bP b a)).size (j+1):=by
 have p:=aCe b a m;have d:(b.extract a (a+bP b a)).size=bP b a:=by rw [ByteArray.size_extract];omega
 have i:∀c,c<bP b a->aF (n++b.extract a (a+bP b a)) (n.size+c)=aF b (a+c):=by intro c o;rw [aD4,aI (by omega),show n.size+c-n.size=c by omega,nF _ c (by omega),nF b (a+c) (by omega)];rw [ByteArray.getElem_extract]
 have e:bP (n++b.extract a (a+bP b a)) n.size=bP b a:=aIo g (by rw [ByteArray.size_append,d];omega) i;have f:=i 0 (by omega);simp only [Nat.add_zero] at f;have:=(k.grow (x:=b.extract a (a+bP b a)) (zy _)).snoc (by rw [ByteArray.size_append,d];omega) (by rw [e];exact g) (by rw [f];exact l);rw [e] at this;rw [ByteArray.size_append,d];exact this
theorem aTd(n:Nat)(i:z7 (n:Int)=true):(zt (n:Int)).data.toList=Lib.encodeRune (n:Int):=by
 have d:=i;rw [validRune_eq] at d;unfold validRune at d;rw [decide_eq_true_eq] at d;unfold Lib.encodeRune zt;simp only [i,if_true,Int.toNat_natCast];by_cases e:n<128
 ·rw [aH e,Lib.encodeRuneZ_one (by omega) (by omega)];rfl
 ·rw [aI e];by_cases f:n<2048
  ·rw [aH f,Lib.encodeRuneZ_two (by omega) (by omega)];have a:(192+(n:Int) / 64).toNat=192+n / 64:=by omega
   have b:(128+(n:Int) % 64).toNat=128+n % 64:=by omega
   simp only [zi,zg,a,b]
  ·rw [aI f];by_cases g:n<65536
   ·rw [aH g,Lib.encodeRuneZ_three (by omega)];have a:(224+(n:Int) / 4096).toNat=224+n / 4096:=by omega
    have b:(128+(n:Int) / 64 % 64).toNat=128+n / 64 % 64:=by omega
    have c:(128+(n:Int) % 64).toNat=128+n % 64:=by omega
    simp only [zi,zg,a,b,c]
   ·rw [aI g,Lib.encodeRuneZ_four (by omega) (by omega)];have a:(240+(n:Int) / 262144).toNat=240+n / 262144:=by omega
    have b:(128+(n:Int) / 4096 % 64).toNat=128+n / 4096 % 64:=by omega
    have c:(128+(n:Int) / 64 % 64).toNat=128+n / 64 % 64:=by omega
    have j:(128+(n:Int) % 64).toNat=128+n % 64:=by omega
    simp only [zi,zg,a,b,c,j]
theorem aD5(b:ByteArray)(a:Nat)(c:a<b.size)(d:aT b a≠-2):zt (aT b a)=b.extract a (a+gV b a)/\bP b a=gV b a:=by
 have f:¬((zs b a).1=65533/\(zs b a).2=1):=by intro e;apply d;unfold aT lR;rw [aH c,aH e]
 have i:aT b a=((zs b a).1:Int):=by unfold aT lR;rw [aH c,aI f]
 have j:b.data.toList.drop a≠[]:=by intro d;have:=congrArg zb d;simp only [zn,<-mX,List.length_nil] at this;omega
 have g:=Lib.encode_decode (b.data.toList.drop a) j (by rw [Lib.decodeL_drop];exact f);rw [Lib.decodeL_drop] at g;have m:=yC b a c;refine ⟨?_,by rw [aAs b a c];unfold rS;rw [aI f];rfl⟩;rw [i];apply ByteArray.ext;apply Array.toList_inj.1;have k:=aCu b a;have l:z7 ((zs b a).1:Int)=true:=by
  rcases k with e|e|e
  ·exact absurd e (aAb b a c)
  ·exact absurd e d
  ·rw [<-i];exact e
 have:(zt ((zs b a).1:Int)).data.toList=Lib.encodeRune ((zs b a).1:Int):=aTd _ l;rw [this,g,ByteArray.data_extract,Array.toList_extract];simp [gV]
structure rL(rs:List Int):Prop where
 cs:lS (runesBytes rs) 0 (runesBytes rs).size rs.length
theorem rL.nil:rL []:=⟨.done _⟩
theorem rL.name{a:List Int}(b:rL a):eM (runesBytes a)=(decide (1<=a.length) && decide (a.length<=20)):=by unfold eM;rw [b.cs.name rfl _ 0 (by omega)];simp
theorem rL.more{rs:List Int}{b:ByteArray}{a:Nat}(g:rL rs)(c:a<b.size)(j:aT b a≠-2)(i:aT b a≠10):rL (rs++[aT b a]):=by obtain ⟨e,f⟩:=aD5 b a c j;have k:=yB b a;refine ⟨?_⟩;rw [aAg,e,<-f,zp,List.length_singleton];exact g.cs.char c (by omega) (λd=>i ((eX b a c 10 (by omega)).2 d))
section
variable {s:ByteArray}{rs:List Int}{f q:Nat}
theorem aTe(e:s.size<=q+f)(c:aT s q=39):q<s.size/\eQ s f (runesBytes rs) q=if eM (runesBytes rs) then some (runesBytes rs,q+1) else none:=by
 have a:q<s.size:=Classical.byContradiction λd=>by rw [oJ s q d] at c;omega
 obtain ⟨b,rfl⟩ : ∃b,f=b+1:=⟨f-1,by omega⟩;refine ⟨a,?_⟩;rw [eQ,aH a,aH ((eX s q a 39 (by omega)).1 c)]
theorem aTf(g:s.size<=q+f)(d:aT s q≠39)(e:aT s q≠92)(h:aT s q=10\/aT s q=-2\/aT s q=-1):eQ s f (runesBytes rs) q=none:=by
 by_cases a:q<s.size
 ·obtain ⟨c,rfl⟩ : ∃c,f=c+1:=⟨f-1,by omega⟩;rw [eQ,aH a,aI (λb=>d ((eX s q a 39 (by omega)).2 b)),aI (λb=>e ((eX s q a 92 (by omega)).2 b)),aH];rcases h with h|h|h
  ·exact Or.inr ((eX s q a 10 (by omega)).1 h)
  ·left;unfold aT lR at h;rw [aH a] at h;rw [aAs s q a];unfold rS;split at h
   ·rename_i b;rw [aH b]
   ·omega
  ·exact absurd h (aAb s q a)
 ·cases f with
  |zero=>rfl
  |succ f=>rw [eQ,aI a]
theorem aTg(a:q<s.size)(i:aT s q≠39)(j:aT s q≠92)(e:aT s q≠10)(g:aT s q≠-2):eQ s (f+1) (runesBytes rs) q=eQ s f (runesBytes (rs++[aT s q])) (q+gV s q):=by
 obtain ⟨c,d⟩:=aD5 s q a g;have k:=yB s q;rw [eQ,aH a,aI (λb=>i ((eX s q a 39 (by omega)).2 b)),aI (λb=>j ((eX s q a 92 (by omega)).2 b)),aI,aAg,c,d];rintro (h|h)
 ·omega
 ·exact e ((eX s q a 10 (by omega)).2 h)
theorem aTh(d:q<s.size)(l:aT s q=92):eQ s (f+1) (runesBytes rs) q=if oK (aT s (q+1))=true then eQ s f (runesBytes (rs++[aT s (q+1)])) (q+2) else none:=by
 have c:=(eX s q d 92 (by omega)).1 l;rw [eQ,aH d,aI (by rw [c];decide),aH c];by_cases a:q+1<s.size
 ·have e:=eX s (q+1) a 39 (by omega);have g:=eX s (q+1) a 92 (by omega);by_cases he:aF s (q+1)=39\/aF s (q+1)=92
  ·have b:oK (aT s (q+1))=true:=by
    unfold oK;rcases he with he|he
    ·rw [e.2 he];rfl
    ·rw [g.2 he];rfl
   have m:aF s (q+1)<128:=by omega
   obtain ⟨j,k⟩:=mJ s (q+1) a m;obtain ⟨i,_⟩:=aD5 s (q+1) a (by rw [j];omega);rw [aH ⟨a,he⟩,aH b,aAg,i,k]
  ·have b:¬oK (aT s (q+1))=true:=by
    unfold oK;intro h;simp only [Bool.or_eq_true,decide_eq_true_eq] at h;rcases h with h|h
    ·exact he (Or.inl (e.1 h))
    ·exact he (Or.inr (g.1 h))
   rw [aI (λh=>he h.2),aI b]
 ·rw [aI (λh=>a h.1),oJ s (q+1) a];rfl
end
theorem nM(a:aB w w')(d:Option Nat):w.grownBy w' d:=⟨a.os,a.tape,a.output,a.size,λc b _=>a.block c b⟩
structure WLp(w1:World)(s:ByteArray)(p:Nat)(v:Value)(q:Nat)(wr:World):Prop where
 le:p+q<=s.size
 low:∀i,i<q->aF s (p+i)<128
 run:eC s p=eC s (p+q)
 row:wr.ownsRow w1.heap.size 21 1 v q ((oM s p q).map (zo .i32))
 far:aB w1 wr
theorem WLp.next{w1:World}{d:ByteArray}{c:Nat}{j v':Value}{a:Nat}{wr:World}{X Y:Obj}(b:WLp w1 d c j a wr)(o:c+a<d.size)(g:eU (aF d (c+a))=true)(m:w'.ownsRow w1.heap.size 21 1 v' (a+1) ((oM d c a).map (zo .i32)++[.int .i32 (aF d (c+a))]))(l:((wr.alloc X).alloc Y).grownBy w' j.ownBlock):WLp w1 d c v' (a+1) w':=by
 have f:=(b.far.alloc b.far.size X).alloc (zm b.far.size (by simp)) Y;refine ⟨by omega,λi p=>?_,?_,?_,?_⟩
 ·by_cases e:i=a
  ·subst e;exact aD3 _ g
  ·exact b.low i (by omega)
 ·rw [b.run,yN o g];rfl
 ·rw [aIn,zk];exact m
 ·exact f.grown l f.size (λk e=>(cU b.row k e).1)
theorem aIp{W:World}{i:Nat}{d f:Nat}{c:ByteArray}{b a:Nat}(l:W.ownsRow i 21 1 (.slice (some ⟨d,0,none⟩) a f) a ((oM c b a).map (zo .i32)))(k:runesBytes (oM c b a)=c.extract b (b+a)):(convert 138 9 (.slice (some ⟨d,0,none⟩) a f)).run zq W=.ok (.string (c.extract b (b+a))) W:=by
 have m:(oM c b a).length=a:=by simp [oM]
 have j:=run_convert_runes (P:=zq) W 138 9 21 ⟨d,0,none⟩ a f (oM c b a) (by omega) zv (by kernel_rfl) (by kernel_rfl) (λe g=>by
  have:=l.cellAt e (by omega);rw [zf,zw g,Option.map_some] at this;rw [show (⟨d,0,none⟩ : Addr).add e=⟨d,e,none⟩ by simp [Addr.add];omega,this];simp [List.getD,g])
 rw [j,zl (by omega),k]
section
variable {B:Nat}{pb:Nat}{s:ByteArray}{p g j m c:Nat}{k a:Int}{wd:ByteArray}{vC vP vM:Value}
def aTi(B pb:Nat)(s:ByteArray)(p g j m c:Nat)(k a:Int)(wd:ByteArray)(vC vP vM:Value)(f:Int)(w:World)(b:Ending)(w':World):Prop:=
 w.grownBy w' (some pb)/\
  if eC s p-p > 20 then b=.returned (fP (-2) p ⟨#[]⟩)/\bO B w' pb s p g j m c k a wd vC vP vM
  else b=.returned (fP f p (s.extract p (eC s p)))/\∃e i d,bO B w' pb s (eC s p) g e i d k a wd vC vP vM
theorem jB{b d:Nat}{f v:Value}(e:w.cell? ⟨b,d,none⟩=some f):(w.setCell ⟨b,d,none⟩ v).cell? ⟨b,d,none⟩=some v:=World.cell?_setCell_same _ _ _ e
theorem aAi(t:Int)(L:bO B w pb s p g j m c k a wd vC vP vM)(i9:s.size<=3000)(f1:p<s.size)(e1:eU (aF s p)=true):Calls zq 59 #[.pointer (some ⟨pb,0,none⟩),.int .i32 t] w λy w'=>aTi B pb s p g j m c k a wd vC vP vM t w y w':=by
 obtain ⟨f9,e3,e4,e5,e6⟩:=info_parts aIm;have b3:=L.box.c0;have e0:∀e,(w.alloc e).cell? ⟨pb,0,none⟩=some (.slice (some ⟨g,j*2,none⟩) (m+1) (c+1)):=λe=>aC ((Below.refl _ w).alloc (zy _) e) b3
 have a1:aM (∀e,aB w (w.alloc e)):=aA λe=>(Below.refl _ _).alloc (zy _) e
 have b0:aM (∀e,(w.alloc e).heap[w.heap.size]?=some e/\(w.alloc e).heap.size=w.heap.size+1):=aA λe=>⟨by show (w.heap.push _)[w.heap.size]?=_;simp,by simp⟩
 have J:=aA L;have f2:=L.box.lt;clear L b3;go_enter Tryz.func59,Tryz.ntmps59;go_wp2;have T:=a1.o (.cells #[.int .i32 0,.int .i64 0,.string ⟨#[]⟩] 58);have a7:=aA (J.o.below T);obtain ⟨c3,f7⟩:=b0.o (.cells #[.int .i32 0,.int .i64 0,.string ⟨#[]⟩] 58);have a2:=aA T;have b1:=aA c3;clear T c3 a1 b0;generalize w.alloc (.cells #[.int .i32 0,.int .i64 0,.string ⟨#[]⟩] 58)=w1 at *;have c0:w.heap.size<w1.heap.size:=by omega
 obtain ⟨f,O⟩ : ∃f,w.heap.size=f:=⟨_,rfl⟩;rw [O] at c0 b1 f2;simp only [O];have a5:=aA O;clear O f7 e0;go_loopw [5,14] (λv u wr=>∃b:Nat,u=.int .i64 b/\WLp w1 s p v b wr) (λ_ u _=>s.size+1-(intOf u).toNat);case atStart=>exact ⟨0,rfl,by omega,λu h8=>by omega,rfl,ze _ _ _ _,Below.refl _ _⟩
 case round=>
  obtain ⟨b,rfl,i⟩:=hrel;have H:=i.le;obtain ⟨N,f6⟩:=a7.o.letters b H i.low;have F:=a7.o.below i.far;obtain ⟨d9,h3⟩:=F.cells b (p+b) N H f6;have i7:(b:Int)<((m+1:Nat):Int):=by omega
  have i4:(0:Int)<=(b:Int):=by omega
  have V:=aTc s (p+b);have z:=aA (λg5=>aRu (aT s (p+b)) g5);rw [V] at z;obtain ⟨j7,j9,rfl⟩:=bA i.row;have a4:=aA i;have e9:=i.far.size;by_cases r:p+b<s.size/\eU (aF s (p+b))=true
  ·have b9:=(mJ s (p+b) r.1 (aD3 _ r.2)).1;rw [r.2,fC r.1] at z;rw [b9] at z d9;have d3:=aA (λ(g2:Value) (w':World) (d8 o:Obj) ho hg=>a4.o.next r.1 r.2 (v':=g2) (w':=w') (X:=d8) (Y:=o) ho hg);have I:=aA (i.row);have i3:p+b<s.size:=r.1;clear i V b9 r F N a4;generalize aF s (p+b)=bb at *;go_wp2_with (first
    |(go_at_call 88;refine (aD z _).mono ?_;rintro y c6 ⟨rfl,rfl⟩)
    |(at_builtin;refine wpList_append_own _ rfl (.tmp 22) (.tmp 25) 138 rfl w1.heap.size 21 f9 (.int .i32 0) 1 4 zv e3 e4 e5 e6 rfl (by decide) _ _ _ rfl ((I.o.alloc _).alloc _) ⟨_,0,none⟩ 1 1 [.int .i32 bb] rfl rfl (tX _ _ _ _ (by simp)) (aD2 _) (by unfold maxLen;omega) (by omega) (by simp;omega) ?_;intro j6 D X b8 _;have d4:=aA (d3.o _ _ _ _ X b8);obtain ⟨j8,k1,rfl⟩:=bA X;clear X b8)
    |go_in)
   go_roundw;case rel=>exact ⟨b+1,by go_num,d4.o⟩
   case measure=>simp [intOf];omega
  ·have c1:eC s (p+b)=p+b:=aL6 r;have a6:aM (eC s p=p+b):=aA (by rw [i.run,c1]);have i5:1<=b:=by
    apply Classical.byContradiction;intro i1;obtain rfl:b=0:=by omega
    exact r ⟨f1,e1⟩
   have b7:(decide (p+b<s.size) && eU (aF s (p+b)))=false:=by
    rw [zj];by_cases y:p+b<s.size
    ·right;cases hb:eU (aF s (p+b))
     ·rfl
     ·exact absurd ⟨y,hb⟩ r
    ·left;simpa using y
   rw [b7] at z;have a9:aM (runesBytes (oM s p b)=s.extract p (p+b)):=aA (aTb s p b H i.low);have I:=aA i.row;have d2:=aA i.far;have a3:=aA N;have a8:=aA F;have Z:=i.far.block f c0;rw [b1.o] at Z;have d7:=aA Z;have i0:=F.mc;clear i V F N b7 c1 r Z;have P:aM (∀e,aB w (wr.alloc e)):=aA λe=>((bK a2.o d2.o).alloc (zm a2.o.size e9) e)
   have b2:aM (∀e,(wr.alloc e).heap[f]?=some (.cells #[.int .i32 0,.int .i64 0,.string ⟨#[]⟩] 58)):=aA λe=>by
    rw [((Below.refl wr.heap.size wr).alloc (zy _) e).block f (by omega)];exact d7.o
   by_cases i6:20<b
   ·have f5:(20:Int)<(b:Int):=by omega
    have a0:=aA (λe=>vU (a8.o.below ((Below.refl wr.heap.size wr).alloc (zy _) e)));unfold fP at a0;go_wp2_with (first
     |(go_at_call 88;refine (aD z _).mono ?_;rintro y c6 ⟨rfl,rfl⟩)
     |(go_at_call 64;refine (aD a0 _).mono ?_;rintro y D ⟨rfl,U⟩;have C:=(U.block f (by simp;omega)).trans (b2.o _);have d0:=aA U;have h1:=aA C;have g0:D.cell? ⟨f,0,none⟩=some (.int .i32 0):=(by simp [zz,C]);have c4:D.cell? ⟨f,1,none⟩=some (.int .i64 0):=(by simp [zz,C]);have c5:D.cell? ⟨f,2,none⟩=some (.string ⟨#[]⟩):=(by simp [zz,C]);have g1:=jB (v:=.int .i32 (-2)) g0;have j2:=jB (v:=.int .i64 p) c4;have j3:=jB (v:=.string ⟨#[]⟩) c5;have j1:∀u,D.frozen? ⟨f,u,none⟩=false:=(λu=>by simp [zu,C]);clear U C)
     |go_in)
    refine bodyPost_ret (by simp [results,Tryz.results59,go_sem,g1,c4,c5];try rfl) rfl ?_;have e8:aB w D:=(P.o _).trans (d0.o.mono (P.o _).size);have A:w.heap.size<=f:=by rw [a5.o];exact zy _
    have G:=fE (fE (fE e8 (p:=⟨f,0,none⟩) A (.int .i32 (-2))) (p:=⟨f,1,none⟩) A (.int .i64 p)) (p:=⟨f,2,none⟩) A (.string ⟨#[]⟩);refine ⟨nM G _,?_⟩;rw [aH (by rw [a6.o];omega)];exact ⟨rfl,J.o.below G⟩
   ·have f5:¬(20:Int)<(b:Int):=by omega
    obtain ⟨h4,k0,c2⟩:=wU I.o (by omega);simp only [Value.slice.injEq] at c2;obtain ⟨rfl,_,rfl⟩:=c2;obtain ⟨l,rfl⟩ : ∃l,m=l+b:=⟨m-b,by omega⟩;obtain ⟨q,rfl⟩ : ∃q,c=q+b:=⟨c-b,by omega⟩;go_upto_region 10 with (first
     |(go_at_call 88;refine (aD z _).mono ?_;rintro y c6 ⟨rfl,rfl⟩)
     |go_in)
    have M:=a8.o.below ((Below.refl wr.heap.size wr).alloc (zy _) (.cells #[.int .i32 (aT s (p+b)),.int .i64 ((p:Int)+b)] 120));have Q:=I.o.alloc (.cells #[.int .i32 (aT s (p+b)),.int .i64 ((p:Int)+b)] 120);have b4:=P.o (.cells #[.int .i32 (aT s (p+b)),.int .i64 ((p:Int)+b)] 120);have b5:=b2.o (.cells #[.int .i32 (aT s (p+b)),.int .i64 ((p:Int)+b)] 120);have f8:f<(wr.alloc (.cells #[.int .i32 (aT s (p+b)),.int .i64 ((p:Int)+b)] 120)).heap.size:=by simp;omega
    generalize wr.alloc (.cells #[.int .i32 (aT s (p+b)),.int .i64 ((p:Int)+b)] 120)=W at *;have g3:=M.box.c0;have g4:=M.at0.2;have j4:∀e,(W.alloc e).cell? ⟨pb,0,none⟩=some (.slice (some ⟨g,j*2,none⟩) (l+b+1) (q+b+1)):=λe=>aC ((Below.refl W.heap.size W).alloc (zy _) e) g3
    have j5:∀e,(W.alloc e).cell? ⟨g,j*2+1,none⟩=some (.int .i64 p):=λe=>aC ((Below.refl W.heap.size W).alloc (zy _) e) g4
    have h6:=aIp (W:=W.drew) Q a9.o;have h7:=λe=>aIp (W:=(W.alloc e).drew) (World.ownsRow.alloc (w:=W) Q e) a9.o
    have i2:(0:Int)<(l:Int)+b+1:=by omega
    have d5:=aA M;have c9:=aA b4;have d6:=aA b5;clear M b4 b5 Q;go_region;have Y:aB W (W.alloc (.cells #[.int .i32 t,.int .i64 p,.string (s.extract p (p+b))] 58)).drew:=((Below.refl W.heap.size W).alloc (zy _) _).trans ((aU (w1:=(W.alloc (.cells #[.int .i32 t,.int .i64 p,.string (s.extract p (p+b))] 58)).drew) ⟨1,rfl⟩).mono (by simp));have E:=d5.o.below Y;have S:=(Y.block f f8).trans d6.o;have R:(W.alloc (.cells #[.int .i32 t,.int .i64 p,.string (s.extract p (p+b))] 58)).drew.heap[W.heap.size]?=some (.cells #[.int .i32 t,.int .i64 p,.string (s.extract p (p+b))] 58):=by show (W.heap.push _)[W.heap.size]?=_;simp
    have b6:=bK c9.o Y;have j0:W.heap.size<(W.alloc (.cells #[.int .i32 t,.int .i64 p,.string (s.extract p (p+b))] 58)).drew.heap.size:=by show W.heap.size<(W.heap.push _).size;simp
    generalize (W.alloc (.cells #[.int .i32 t,.int .i64 p,.string (s.extract p (p+b))] 58)).drew=o at *;generalize W.heap.size=tb at *;have k2:=E.box.c0;have k3:=E.box.soft 0;have g9:=aA E;have h2:=aA S;have h0:=aA R;have d1:=aA b6;have i8:f≠tb:=by omega
    have f3:pb≠f:=by omega
    have f4:pb≠tb:=by omega
    have g8:=aA (bO.jump b (p+b) l q E a3.o H);have x:∀d,(o.setCell ⟨pb,0,none⟩ d).heap[f]?=some (.cells #[.int .i32 0,.int .i64 0,.string ⟨#[]⟩] 58)/\(o.setCell ⟨pb,0,none⟩ d).heap[tb]?=some (.cells #[.int .i32 t,.int .i64 p,.string (s.extract p (p+b))] 58):=λd=>⟨by rw [Below.heap_setCell _ _ _ _ f3.symm];exact S,by rw [Below.heap_setCell _ _ _ _ f4.symm];exact R⟩
    have g6:∀d,(o.setCell ⟨pb,0,none⟩ d).cell? ⟨f,0,none⟩=some (.int .i32 0):=λd=>by simp [zz,(x d).1]
    have c7:∀d,(o.setCell ⟨pb,0,none⟩ d).cell? ⟨f,1,none⟩=some (.int .i64 0):=λd=>by simp [zz,(x d).1]
    have c8:∀d,(o.setCell ⟨pb,0,none⟩ d).cell? ⟨f,2,none⟩=some (.string ⟨#[]⟩):=λd=>by simp [zz,(x d).1]
    have k4:∀d u,(o.setCell ⟨pb,0,none⟩ d).frozen? ⟨f,u,none⟩=false:=λd u=>by simp [zu,(x d).1]
    have k5:∀d,(o.setCell ⟨pb,0,none⟩ d).cell? ⟨tb,0,none⟩=some (.int .i32 t):=λd=>by simp [zz,(x d).2]
    have k6:∀d,(o.setCell ⟨pb,0,none⟩ d).cell? ⟨tb,1,none⟩=some (.int .i64 p):=λd=>by simp [zz,(x d).2]
    have k7:∀d,(o.setCell ⟨pb,0,none⟩ d).cell? ⟨tb,2,none⟩=some (.string (s.extract p (p+b))):=λd=>by simp [zz,(x d).2]
    clear x E S R b6;have h9:l+b+1-b=l+1:=by omega
    have h5:q+b+1-b=q+1:=by omega
    have g7:=λd=>jB (v:=.int .i32 t) (g6 d)
    have k8:=λd=>jB (v:=.int .i64 p) (c7 d)
    have k9:=λd=>jB (v:=.string (s.extract p (p+b))) (c8 d)
    go_wp2;refine bodyPost_ret (by simp [results,Tryz.results59,go_sem,g7,c7,c8];try rfl) rfl ?_;have e7:Below (w.setCell ⟨pb,0,none⟩ (.slice (some ⟨g,j*2+b*2,none⟩) (l+1) (q+1))).heap.size (w.setCell ⟨pb,0,none⟩ (.slice (some ⟨g,j*2+b*2,none⟩) (l+1) (q+1))) (o.setCell ⟨pb,0,none⟩ (.slice (some ⟨g,j*2+b*2,none⟩) (l+1) (q+1))):=aCw d1.o (J.o.box.lt) _;have A:(w.setCell ⟨pb,0,none⟩ (.slice (some ⟨g,j*2+b*2,none⟩) (l+1) (q+1))).heap.size<=f:=by rw [<-a5.o];simp [World.setCell]
    have G:=fE (fE (fE e7 (p:=⟨f,0,none⟩) A (.int .i32 t)) (p:=⟨f,1,none⟩) A (.int .i64 p)) (p:=⟨f,2,none⟩) A (.string (s.extract p (p+b)));have e2:=(bO.jump b (p+b) l q J.o a3.o H).below G;have f0:w.grownBy (w.setCell ⟨pb,0,none⟩ (.slice (some ⟨g,j*2+b*2,none⟩) (l+1) (q+1))) (some pb):=cN _ _ _;refine ⟨f0.trans (nM G _),?_⟩;rw [a6.o,aI (by omega)];exact ⟨rfl,_,_,_,e2⟩
end
structure pO(B:Nat)(w:World)(s:ByteArray)(p g j m c:Nat):Prop where
 row:w.ownsRow B 120 2 (.slice (some ⟨g,0,none⟩) (j+m+1) (j+c+1)) (j+m+1) (nI (bZ s 0))
 len:(bZ s 0).length=j+m+1
 drop:(bZ s 0).drop j=bZ s p
 le:p<=s.size
section
variable {B:Nat}{w w':World}{pb:Nat}{s:ByteArray}{p g j m c:Nat}{k a:Int}{wd:ByteArray}{vC vP vM:Value}
theorem bO.gl(b:bO B w pb s p g j m c k a wd vC vP vM):pO B w s p g j m c:=⟨b.row,b.len,b.drop,b.le⟩
theorem pO.below(b:pO B w s p g j m c)(d:aB w w'):pO B w' s p g j m c:=⟨bG b.row d (zy _),b.len,b.drop,b.le⟩
theorem pO.at0(b:pO B w s p g j m c):w.cell? ⟨g,j*2,none⟩=some (.int .i32 (aT s p))/\w.cell? ⟨g,j*2+1,none⟩=some (.int .i64 p):=by
 obtain ⟨q,o⟩:=aCv s p b.le;have l:j<(bZ s 0).length:=by have:=b.len;omega
 have i:(bZ s 0)[j]=(aT s p,p):=by
  have d:((bZ s 0).drop j)[0]?=some (aT s p,p):=by rw [b.drop,o];rfl
  rw [zh,zw (by omega)] at d;simpa using d
 obtain ⟨e,f⟩:=aCr (bZ s 0) j l;rw [i] at e f;exact ⟨by rw [b.row.cellAt _ (by omega),e],by rw [b.row.cellAt _ (by omega),f]⟩
theorem pO.more(e:pO B w s p g j m c)(i:p<s.size):∃d b,m=d+1/\c=b+1/\pO B w s (p+gV s p) g (j+1) d b:=by
 have z:=e.len;have o:=congrArg zb e.drop;rw [zn,sV i,List.length_cons] at o;have x:=(aA9 s _ (p+(zs s p).2) (zy _)).1;obtain ⟨_,q⟩:=e.row;rcases q with ⟨f,_⟩|⟨v,t,u,f,_,_,y,_⟩
 ·simp at f
 ·simp at f;obtain ⟨_,rfl⟩:=f;have r:=e.row;obtain ⟨d,rfl⟩ : ∃d,m=d+1:=⟨m-1,by omega⟩;obtain ⟨b,rfl⟩ : ∃b,c=b+1:=⟨c-1,by omega⟩;refine ⟨d,b,rfl,rfl,?_,by omega,?_,yC s p i⟩
  ·rw [show j+1+d+1=j+(d+1)+1 by omega,show j+1+b+1=j+(b+1)+1 by omega];exact r
  ·have l:(bZ s 0).drop (j+1)=((bZ s 0).drop j).drop 1:=by rw [List.drop_drop]
   rw [l,e.drop,sV i];rfl
theorem bO.put(e:bO B w pb s p g j m c k a wd vC vP vM){l f i d:Nat}(b:pO B w s l g f i d):bO B (w.setCell ⟨pb,0,none⟩ (.slice (some ⟨g,f*2,none⟩) (i+1) (d+1))) pb s l g f i d k a wd vC vP vM:=
 ⟨e.box.set0 _,e.high,e.box.row b.row (by decide) _ _,b.len,b.drop,b.le⟩
end
structure Qlp(B:Nat)(w w1:World)(s:ByteArray)(p g:Nat)(v rest:Value)(f q j m c:Nat)(rs:List Int)(wr:World):Prop where
 gl:pO B w s q g j m c
 rst:rest=.slice (some ⟨g,j*2,none⟩) (m+1) (c+1)
 row:wr.ownsRow w1.heap.size 21 1 v rs.length (rs.map (zo .i32))
 far:aB w1 wr
 quo:mU s p=eQ s f (runesBytes rs) q
 fuel:s.size<=q+f
 ok:rL rs
 few:rs.length<=q
theorem aIq{W:World}{f:Nat}{b d:Nat}{a:List Int}(i:W.ownsRow f 21 1 (.slice (some ⟨b,0,none⟩) a.length d) a.length (a.map (zo .i32))):(convert 138 9 (.slice (some ⟨b,0,none⟩) a.length d)).run zq W=.ok (.string (runesBytes a)) W:=by
 have g:=run_convert_runes (P:=zq) W 138 9 21 ⟨b,0,none⟩ a.length d a (by omega) zv (by kernel_rfl) (by kernel_rfl) (λc e=>by
  have:=i.cellAt c (by omega);rw [zf,zw e,Option.map_some] at this;rw [show (⟨b,0,none⟩ : Addr).add c=⟨b,c,none⟩ by simp [Addr.add];omega,this];simp [List.getD,e])
 rw [g,zl (by omega)]
def uJ(d b:Nat)(c:ByteArray)(a g q s o:Nat)(i e:Int)(m:ByteArray)(j l k:Value)(w:World)(f:Ending)(w':World):Prop:=
 w.grownBy w' (some b)/\
  match mU c a with
  |none=>f=.returned (fP (-2) a ⟨#[]⟩)/\bO d w' b c a g q s o i e m j l k
  |some (n,e')=>f=.returned (fP 97 a n)/\∃r t p,bO d w' b c e' g r t p i e m j l k
theorem uJ.bad{a j:Nat}{s:ByteArray}{p d f i c:Nat}{g b:Int}{o:ByteArray}{k m l:Value}(q:bO a w j s p d f i c g b o k m l)(e:aB w w')(r:mU s p=none):uJ a j s p d f i c g b o k m l w (.returned (fP (-2) p ⟨#[]⟩)) w':=by refine ⟨nM e _,?_⟩;rw [r];exact ⟨rfl,q.below e⟩
section
variable {B:Nat}{pb:Nat}{s:ByteArray}{p g j m c:Nat}{k a:Int}{wd:ByteArray}{vC vP vM:Value}
theorem aIr(a5:bO B w pb s p g j m c k a wd vC vP vM)(k6:s.size<=3000)(d4:aT s p=39):Calls zq 61 #[.pointer (some ⟨pb,0,none⟩)] w λe w'=>uJ B pb s p g j m c k a wd vC vP vM w e w':=by
 have c6:p<s.size:=Classical.byContradiction λA=>by rw [oJ s p A] at d4;omega
 have h4:gV s p=1:=(mJ s p c6 (by have:=(eX s p c6 39 (by omega)).1 d4;omega)).2;obtain ⟨e8,d7,d8,d9,e0⟩:=info_parts aIm;obtain ⟨b2,b9,rfl,rfl,c0⟩:=a5.gl.more c6;rw [h4] at c0;have d3:=a5.box.c0;have g2:∀r,(w.alloc r).cell? ⟨pb,0,none⟩=some (.slice (some ⟨g,j*2,none⟩) (b2+1+1) (b9+1+1)):=λr=>aC ((Below.refl _ w).alloc (zy _) r) d3
 have d0:aM (∀r,aB w (w.alloc r)):=aA λr=>(Below.refl _ _).alloc (zy _) r
 have d1:aM (∀r,(w.alloc r).heap[w.heap.size]?=some r/\(w.alloc r).heap.size=w.heap.size+1):=aA λr=>⟨by show (w.heap.push _)[w.heap.size]?=_;simp,by simp⟩
 have N:=aA a5;have h0:=a5.box.lt;have f2:=aA c0;clear a5 d3 c0;go_enter Tryz.func61,Tryz.ntmps61;go_wp2;have c3:=d0.o (.cells #[.int .i32 0,.int .i64 0,.string ⟨#[]⟩] 58);have f4:=aA (N.o.below c3);obtain ⟨e7,h7⟩:=d1.o (.cells #[.int .i32 0,.int .i64 0,.string ⟨#[]⟩] 58);have b3:=aA c3;have d2:=aA e7;clear c3 e7 d0 d1;generalize w.alloc (.cells #[.int .i32 0,.int .i64 0,.string ⟨#[]⟩] 58)=w1 at *;have e6:w.heap.size<w1.heap.size:=by omega
 obtain ⟨b,b1⟩ : ∃b,w.heap.size=b:=⟨_,rfl⟩;rw [b1] at e6 d2 h0;simp only [b1];have a3:=aA b1;clear b1 h7 g2;go_loopg [3,4] s.size (λg5 i3 i2 wr=>∃d h9 i0 g0 o,Qlp B w w1 s p g i3 i2 g5 d h9 i0 g0 o wr);case atStart=>exact ⟨p+1,j+1,b2,b9,[],f2.o,by rw [show (j+1)*2=j*2+2 by omega],ze _ _ _ _,Below.refl _ _,rfl,by omega,rL.nil,by simp⟩
 case round=>
  obtain ⟨d,v,k8,j7,o,f⟩:=hrel;have h3:=f.rst;subst h3;have P:=(f.gl.below b3.o).below f.far;have b8:=P.at0.1;have k4:=f.gl.le;have e4:=f.fuel;have k1:=f.few;have k2:=f.far.size;have H:=aA f;have a1:aM (aB w wr):=aA (bK b3.o f.far);have a4:aM (wr.heap[b]?=some (.cells #[.int .i32 0,.int .i64 0,.string ⟨#[]⟩] 58)):=aA ((f.far.block b e6).trans d2.o);have a0:=aA (f4.o.below f.far);by_cases F:aT s d=39
  ·obtain ⟨z,b0⟩:=aTe (rs:=o) e4 F;have a9:=f.ok.name;rw [F] at b8;by_cases A:1<=o.length/\o.length<=20
   ·have f5:aM (mU s p=some (runesBytes o,d+1)):=aA (by rw [f.quo,b0,a9,fC A.1,fC A.2];rfl);obtain ⟨L,I,rfl,rfl,y⟩:=f.gl.more z;have c7:gV s d=1:=(mJ s d z (by have:=(eX s d z 39 (by omega)).1 F;omega)).2;rw [c7] at y;obtain ⟨j8,l1,rfl⟩:=wU f.row (by omega);have e5:((o.length:Int)==0)=false:=by rw [beq_eq_false_iff_ne];omega
    have g9:decide ((20:Int)<(o.length:Int))=false:=by simp;omega
    have i4:=a0.o.box.c0;have i5:=a0.o.at0.2;have k9:∀r,(wr.alloc r).cell? ⟨pb,0,none⟩=some (.slice (some ⟨g,j*2,none⟩) (b2+1+1) (b9+1+1)):=λr=>aC ((Below.refl wr.heap.size wr).alloc (zy _) r) i4
    have l0:∀r,(wr.alloc r).cell? ⟨g,j*2+1,none⟩=some (.int .i64 p):=λr=>aC ((Below.refl wr.heap.size wr).alloc (zy _) r) i5
    have j9:=aIq (W:=wr.drew) f.row;have k0:=λr=>aIq (W:=(wr.alloc r).drew) (World.ownsRow.alloc (w:=wr) f.row r)
    have k3:(0:Int)<(b2:Int)+1+1:=by omega
    have b4:=aA y;have h8:b<wr.heap.size:=by omega
    clear f P y b0 a9;go_upto_region 18 with (fail);go_region;have c8:aB wr (wr.alloc (.cells #[.int .i32 97,.int .i64 p,.string (runesBytes o)] 58)).drew:=((Below.refl wr.heap.size wr).alloc (zy _) _).trans ((aU (w1:=(wr.alloc (.cells #[.int .i32 97,.int .i64 p,.string (runesBytes o)] 58)).drew) ⟨1,rfl⟩).mono (by simp));have c2:=a0.o.below c8;have e2:=(c8.block b h8).trans a4.o;have e1:(wr.alloc (.cells #[.int .i32 97,.int .i64 p,.string (runesBytes o)] 58)).drew.heap[wr.heap.size]?=some (.cells #[.int .i32 97,.int .i64 p,.string (runesBytes o)] 58):=by show (wr.heap.push _)[wr.heap.size]?=_;simp
    have e3:=bK a1.o c8;generalize (wr.alloc (.cells #[.int .i32 97,.int .i64 p,.string (runesBytes o)] 58)).drew=Y at *;generalize wr.heap.size=tb at *;have l2:=c2.box.c0;have l3:=c2.box.soft 0;have f1:=aA e3;have k5:b≠tb:=by omega
    have h1:pb≠b:=by omega
    have h2:pb≠tb:=by omega
    have J:∀i,(Y.setCell ⟨pb,0,none⟩ i).heap[b]?=some (.cells #[.int .i32 0,.int .i64 0,.string ⟨#[]⟩] 58)/\(Y.setCell ⟨pb,0,none⟩ i).heap[tb]?=some (.cells #[.int .i32 97,.int .i64 p,.string (runesBytes o)] 58):=λi=>⟨by rw [Below.heap_setCell _ _ _ _ h1.symm];exact e2,by rw [Below.heap_setCell _ _ _ _ h2.symm];exact e1⟩
    have j1:∀i,(Y.setCell ⟨pb,0,none⟩ i).cell? ⟨b,0,none⟩=some (.int .i32 0):=λi=>by simp [zz,(J i).1]
    have j2:∀i,(Y.setCell ⟨pb,0,none⟩ i).cell? ⟨b,1,none⟩=some (.int .i64 0):=λi=>by simp [zz,(J i).1]
    have j3:∀i,(Y.setCell ⟨pb,0,none⟩ i).cell? ⟨b,2,none⟩=some (.string ⟨#[]⟩):=λi=>by simp [zz,(J i).1]
    have l4:∀i x,(Y.setCell ⟨pb,0,none⟩ i).frozen? ⟨b,x,none⟩=false:=λi x=>by simp [zu,(J i).1]
    have l5:∀i,(Y.setCell ⟨pb,0,none⟩ i).cell? ⟨tb,0,none⟩=some (.int .i32 97):=λi=>by simp [zz,(J i).2]
    have l6:∀i,(Y.setCell ⟨pb,0,none⟩ i).cell? ⟨tb,1,none⟩=some (.int .i64 p):=λi=>by simp [zz,(J i).2]
    have l7:∀i,(Y.setCell ⟨pb,0,none⟩ i).cell? ⟨tb,2,none⟩=some (.string (runesBytes o)):=λi=>by simp [zz,(J i).2]
    clear J c2 e2 e1 e3;have j4:=λi=>jB (v:=.int .i32 97) (j1 i)
    go_wp2;refine bodyPost_ret (by simp [results,zr,go_sem,j4,j2,j3];try rfl) rfl ?_;have d6:=N.o.put b4.o;rw [show (v+1)*2=v*2+2 by omega] at d6;have g6:Below (w.setCell ⟨pb,0,none⟩ (.slice (some ⟨g,v*2+2,none⟩) (L+1) (I+1))).heap.size (w.setCell ⟨pb,0,none⟩ (.slice (some ⟨g,v*2+2,none⟩) (L+1) (I+1))) (Y.setCell ⟨pb,0,none⟩ (.slice (some ⟨g,v*2+2,none⟩) (L+1) (I+1))):=aCw f1.o (N.o.box.lt) _;have t:(w.setCell ⟨pb,0,none⟩ (.slice (some ⟨g,v*2+2,none⟩) (L+1) (I+1))).heap.size<=b:=by rw [<-a3.o];simp [World.setCell]
    have D:=fE (fE (fE g6 (p:=⟨b,0,none⟩) t (.int .i32 97)) (p:=⟨b,1,none⟩) t (.int .i64 p)) (p:=⟨b,2,none⟩) t (.string (runesBytes o));have g7:w.grownBy (w.setCell ⟨pb,0,none⟩ (.slice (some ⟨g,v*2+2,none⟩) (L+1) (I+1))) (some pb):=cN _ _ _;refine ⟨g7.trans (nM D _),?_⟩;rw [f5.o];exact ⟨rfl,_,_,_,d6.below D⟩
   ·have X:aM (mU s p=none):=aA (by
     rw [f.quo,b0,a9,aI];intro e;simp only [zd,decide_eq_true_eq] at e;exact A e)
    have E:=aA (vU a0.o);unfold fP at E;obtain ⟨e9,f0,rfl⟩:=bA f.row;clear f P b0 a9;by_cases h6:o.length=0
    ·have e5:((o.length:Int)==0)=true:=by rw [h6];rfl
     go_wp2_with (first
      |(go_at_call 64;refine (aD E).mono ?_;rintro e l ⟨rfl,u⟩;have q:=(u.block b (by omega)).trans a4.o;have M:=aA u;have S:l.cell? ⟨b,0,none⟩=some (.int .i32 0):=(by simp [zz,q]);have T:l.cell? ⟨b,1,none⟩=some (.int .i64 0):=(by simp [zz,q]);have U:l.cell? ⟨b,2,none⟩=some (.string ⟨#[]⟩):=(by simp [zz,q]);have V:=jB (v:=.int .i32 (-2)) S;have c9:∀x,l.frozen? ⟨b,x,none⟩=false:=(λx=>by simp [zu,q]);clear u q)
      |go_in)
     refine bodyPost_ret (by simp [results,zr,go_sem,V,T,U];try rfl) rfl ?_;have Q:aB w l:=bK a1.o M.o;have t:w.heap.size<=b:=by rw [a3.o];exact zy _
     have D:=fE (fE (fE Q (p:=⟨b,0,none⟩) t (.int .i32 (-2))) (p:=⟨b,1,none⟩) t (.int .i64 p)) (p:=⟨b,2,none⟩) t (.string ⟨#[]⟩);exact uJ.bad N.o D X.o
    ·have e5:((o.length:Int)==0)=false:=by rw [beq_eq_false_iff_ne];omega
     have g9:(20:Int)<(o.length:Int):=by omega
     go_wp2_with (first
      |(go_at_call 64;refine (aD E).mono ?_;rintro e l ⟨rfl,u⟩;have q:=(u.block b (by omega)).trans a4.o;have M:=aA u;have S:l.cell? ⟨b,0,none⟩=some (.int .i32 0):=(by simp [zz,q]);have T:l.cell? ⟨b,1,none⟩=some (.int .i64 0):=(by simp [zz,q]);have U:l.cell? ⟨b,2,none⟩=some (.string ⟨#[]⟩):=(by simp [zz,q]);have V:=jB (v:=.int .i32 (-2)) S;have c9:∀x,l.frozen? ⟨b,x,none⟩=false:=(λx=>by simp [zu,q]);clear u q)
      |go_in)
     refine bodyPost_ret (by simp [results,zr,go_sem,V,T,U];try rfl) rfl ?_;have Q:aB w l:=bK a1.o M.o;have t:w.heap.size<=b:=by rw [a3.o];exact zy _
     have D:=fE (fE (fE Q (p:=⟨b,0,none⟩) t (.int .i32 (-2))) (p:=⟨b,1,none⟩) t (.int .i64 p)) (p:=⟨b,2,none⟩) t (.string ⟨#[]⟩);exact uJ.bad N.o D X.o
  ·by_cases C:aT s d=92
   ·have z:d<s.size:=Classical.byContradiction λA=>by rw [oJ s d A] at C;omega
    obtain ⟨L,I,rfl,rfl,y⟩:=f.gl.more z;obtain ⟨G,rfl⟩ : ∃G,gk=G+1:=⟨gk-1,by omega⟩;have c7:gV s d=1:=(mJ s d z (by have:=(eX s d z 92 (by omega)).1 C;omega)).2;rw [c7] at y;have Z:=aA (aTh (rs:=o) (f:=G) z C);have f6:=((y.below b3.o).below f.far).at0.1;rw [show (v+1)*2=v*2+2 by omega] at f6;have a8:=aA (λj0=>aRv (aT s (d+1)) j0);rw [C] at b8;cases hesc:oK (aT s (d+1))
    ·rw [hesc] at a8 Z;have X:aM (mU s p=none):=aA (by rw [f.quo,Z.o];rfl);have E:=aA (vU a0.o);unfold fP at E;clear f P y F C hesc;generalize aT s (d+1)=cc at *;go_wp2_with (first
      |(go_at_call 89;refine (aD a8 _).mono ?_;rintro e i9 ⟨rfl,rfl⟩)
      |(go_at_call 64;refine (aD E).mono ?_;rintro e l ⟨rfl,u⟩;have q:=(u.block b (by omega)).trans a4.o;have M:=aA u;have S:l.cell? ⟨b,0,none⟩=some (.int .i32 0):=(by simp [zz,q]);have T:l.cell? ⟨b,1,none⟩=some (.int .i64 0):=(by simp [zz,q]);have U:l.cell? ⟨b,2,none⟩=some (.string ⟨#[]⟩):=(by simp [zz,q]);have V:=jB (v:=.int .i32 (-2)) S;have c9:∀x,l.frozen? ⟨b,x,none⟩=false:=(λx=>by simp [zu,q]);clear u q)
      |go_in)
     refine bodyPost_ret (by simp [results,zr,go_sem,V,T,U];try rfl) rfl ?_;have Q:aB w l:=bK a1.o M.o;have t:w.heap.size<=b:=by rw [a3.o];exact zy _
     have D:=fE (fE (fE Q (p:=⟨b,0,none⟩) t (.int .i32 (-2))) (p:=⟨b,1,none⟩) t (.int .i64 p)) (p:=⟨b,2,none⟩) t (.string ⟨#[]⟩);exact uJ.bad N.o D X.o
    ·rw [hesc] at a8 Z;have d5:aT s (d+1)=39\/aT s (d+1)=92:=by unfold oK at hesc;simpa using hesc
     have a7:d+1<s.size:=Classical.byContradiction λA=>by rw [oJ s (d+1) A] at d5;omega
     obtain ⟨i1,g1,rfl,rfl,c1⟩:=y.more a7;have h5:gV s (d+1)=1:=(mJ s (d+1) a7 (by have g3:=eX s (d+1) a7 39 (by omega);have g4:=eX s (d+1) a7 92 (by omega);rcases d5 with e|e;have:=g3.1 e;omega;have:=g4.1 e;omega)).2;rw [h5] at c1;have b7:=aA (f.ok.more a7 (by omega) (by omega));obtain ⟨e9,f0,rfl⟩:=bA f.row;have a2:=aA f.row;have b5:=aA c1;clear f P y c1 F C hesc;generalize aT s (d+1)=cc at *;have f8:(cc==10)=false:=by rw [beq_eq_false_iff_ne];omega
     have f9:(cc==-2)=false:=by rw [beq_eq_false_iff_ne];omega
     have f7:(cc==-1)=false:=by rw [beq_eq_false_iff_ne];omega
     go_wp2_with (first
      |(go_at_call 89;refine (aD a8 _).mono ?_;rintro e i9 ⟨rfl,rfl⟩)
      |(at_builtin;refine wpList_append_own _ rfl (.tmp 37) (.tmp 39) 138 rfl w1.heap.size 21 e8 (.int .i32 0) 1 4 zv d7 d8 d9 e0 rfl (by decide) _ _ _ rfl (a2.o.alloc _) ⟨_,0,none⟩ 1 1 [.int .i32 cc] rfl rfl (tX _ _ _ _ rfl) (aD2 _) (by unfold maxLen;omega) (by omega) (by simp;omega) ?_;intro i6 l R a6 _;have b6:=aA R;have f3:=aA a6;obtain ⟨i7,i8,rfl⟩:=bA R;clear R a6)
      |go_in)
     go_roundg G;case measure=>omega
     case rel=>exact ⟨d+1+1,v+1+1,i1,g1,o++[cc],b5.o,by rw [show (v+1+1)*2=v*2+2+2 by omega],by rw [zk,zp];exact b6.o,(H.o.far.alloc H.o.far.size _).grown f3.o (zm H.o.far.size (by simp)) (λk e=>(cU a2.o k e).1),by rw [H.o.quo,Z.o];rfl,by omega,b7.o,by simp;omega⟩
   ·by_cases O:aT s d=10\/aT s d=-2\/aT s d=-1
    ·have X:aM (mU s p=none):=aA (by rw [f.quo,aTf e4 F C O]);have E:=aA (vU a0.o);unfold fP at E;clear f P;rcases O with e|e|e;all_goals
      rw [e] at b8;clear e F C;go_wp2_with (first
       |(go_at_call 64;refine (aD E).mono ?_;rintro e l ⟨rfl,u⟩;have q:=(u.block b (by omega)).trans a4.o;have M:=aA u;have S:l.cell? ⟨b,0,none⟩=some (.int .i32 0):=(by simp [zz,q]);have T:l.cell? ⟨b,1,none⟩=some (.int .i64 0):=(by simp [zz,q]);have U:l.cell? ⟨b,2,none⟩=some (.string ⟨#[]⟩):=(by simp [zz,q]);have V:=jB (v:=.int .i32 (-2)) S;have c9:∀x,l.frozen? ⟨b,x,none⟩=false:=(λx=>by simp [zu,q]);clear u q)
       |go_in)
      refine bodyPost_ret (by simp [results,zr,go_sem,V,T,U];try rfl) rfl ?_;have Q:aB w l:=bK a1.o M.o;have t:w.heap.size<=b:=by rw [a3.o];exact zy _
      have D:=fE (fE (fE Q (p:=⟨b,0,none⟩) t (.int .i32 (-2))) (p:=⟨b,1,none⟩) t (.int .i64 p)) (p:=⟨b,2,none⟩) t (.string ⟨#[]⟩);exact uJ.bad N.o D X.o
    ·have z:d<s.size:=Classical.byContradiction λA=>O (Or.inr (Or.inr (oJ s d A)))
     obtain ⟨L,I,rfl,rfl,y⟩:=f.gl.more z;obtain ⟨G,rfl⟩ : ∃G,gk=G+1:=⟨gk-1,by omega⟩;have c4:aT s d≠10:=λe=>O (Or.inl e)
     have c5:aT s d≠-2:=λe=>O (Or.inr (Or.inl e))
     have g8:aT s d≠-1:=λe=>O (Or.inr (Or.inr e))
     have Z:=aA (aTg (rs:=o) (f:=G) z F C c4 c5);have b7:=aA (f.ok.more z c5 c4);have k7:=yB s d;obtain ⟨e9,f0,rfl⟩:=bA f.row;have a2:=aA f.row;have b4:=aA y;clear f P y O;generalize aT s d=cc at *;have j5:(cc != 39)=true:=by simpa using F
     have j6:(cc==92)=false:=by simpa using C
     have f8:(cc==10)=false:=by simpa using c4
     have f9:(cc==-2)=false:=by simpa using c5
     have f7:(cc==-1)=false:=by simpa using g8
     go_wp2_with (first
      |(at_builtin;refine wpList_append_own _ rfl (.tmp 37) (.tmp 39) 138 rfl w1.heap.size 21 e8 (.int .i32 0) 1 4 zv d7 d8 d9 e0 rfl (by decide) _ _ _ rfl (a2.o.alloc _) ⟨_,0,none⟩ 1 1 [.int .i32 cc] rfl rfl (tX _ _ _ _ rfl) (aD2 _) (by unfold maxLen;omega) (by omega) (by simp;omega) ?_;intro i6 l R a6 _;have b6:=aA R;have b5:=aA a6;obtain ⟨i7,i8,rfl⟩:=bA R;clear R a6)
      |go_in)
     go_roundg G;case measure=>omega
     case rel=>exact ⟨d+gV s d,v+1,L,I,o++[cc],b4.o,by rw [show (v+1)*2=v*2+2 by omega],by rw [zk,zp];exact b6.o,(H.o.far.alloc H.o.far.size _).grown b5.o (zm H.o.far.size (by simp)) (λk e=>(cU a2.o k e).1),by rw [H.o.quo,Z.o],by omega,b7.o,by simp;omega⟩
end
