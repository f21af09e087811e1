import Derived.Test.YtmelidkanelpbaaGreatDoorVClMH
import Derived.Test.YtmelidkanelpbaaGreatDoorCWaysH
import Derived.Lib.AppendZeros
import Derived.Deep.SlicePairs
import Derived.Laws.Tables
import Derived.Deep.Cut
import Derived.Test.YtmelidkanelpbaaGreatDoorUPut1H
open Array renaming getElem?_eq_getElem→zr,replicate→zg
open List renaming getElem_mem→zx,mem_append→zv,eq_nil_of_length_eq_zero→zu,findIdx_lt_length→zp,range→zn,any_eq_true→zj,mem_flatMap→zi
open Nat renaming le_refl→zw,zero_le→zo,eq_zero_or_pos→zm,le_trans→zk
open Or renaming inr→zt,inl→zs
namespace Go.Proofs.YtmelidkanelpbaaGreatDoor
open _root_.Go.Proofs.Tryz renaming prog→zy,underlying51→zq
open World renaming block_lt_of_cell?→zz,ownsRow_nil→zl
open Go.RowKit Go.Shelf
set_option maxHeartbeats 4000000
set_option maxRecDepth 100000
variable{c:List Lt}{ks:List Nat}{B:Nat}{w:World}
def dO(B:Nat)(w:World)(b:Value)(ks:List Nat):Prop:=w.ownsRow B 3 1 b ks.length (ks.map λa=>Value.int .i64 (a:Nat))
theorem dO.cell{a:Option Addr}{n d:Nat}(e:dO B w (.slice a n d) ks){i:Nat}(f:i<ks.length):∃g,a=some ⟨g,0,none⟩/\w.cell? ⟨g,i,none⟩=some (.int .i64 (ks[i]:Nat)):=by
 have j:w.ownsRow B 3 1 (.slice a n d) ks.length (ks.map λk=>Value.int .i64 (k:Nat)):=e;obtain ⟨_,⟨_,b⟩|⟨g,l,m,b,_⟩⟩:=e
 ·omega
 ·simp at b;refine ⟨g,b.1,?_⟩;obtain ⟨rfl,rfl,rfl⟩:=b;rw [j.cellAt i (by simpa using f)];simp [f]
theorem dO.shape{a:Value}(e:dO B w a ks):∃b d,a=.slice b ks.length d:=bA e
def pF(p:Nat->Bool)(ks:List Nat):Int:=if ks.findIdx p<ks.length then (ks.findIdx p:Nat) else -1
theorem aOe{p:Nat->Bool}{a:Nat}(e:a<ks.length)(g:p ks[a]=true)(i:∀b (d:b<a),p (ks[b]'(by omega))=false):pF p ks=(a:Nat):=by have f:ks.findIdx p=a:=(List.findIdx_eq e).2 ⟨g,λb d=>by simpa using i b d⟩;unfold pF;rw [f,aH e]
theorem aG9{p:Nat->Bool}(e:∀a (b:a<ks.length),p ks[a]=false):pF p ks=-1:=by
 have d:ks.findIdx p=ks.length:=List.findIdx_eq_length.2 (λg f=>by
  obtain ⟨a,b,rfl⟩:=List.getElem_of_mem f;exact e a b)
 unfold pF;rw [d,aI (by omega)]
theorem bDo{p:Nat->Bool}:decide (0<=pF p ks)=ks.any p:=by
 unfold pF;split
 ·rename_i a;rw [show decide (0<=((ks.findIdx p:Nat):Int))=true by simp];rw [zp] at a;exact (zj.2 a).symm
 ·rename_i a;rw [zp] at a;have:ks.any p=false:=by
   rw [Bool.eq_false_iff];exact λb=>a (zj.1 b)
  rw [this];rfl
def aOf(w:World)(d e:Nat)(p:Nat->Bool)(ks:List Nat):Prop:=∀b∈ks,∀a,aB w a->Calls zy 75 #[.int .i64 (b:Nat),.pointer (some ⟨d,0,none⟩),.pointer (some ⟨e,0,none⟩)] a λf g=>f=.returned (.bool (p b))/\aB a g
theorem bDp(B y z:Nat)(p:Nat->Bool)(x:Option Addr)(A:Nat)(ks:List Nat)(w:World)(f:dO B w (.slice x ks.length A) ks)(Q:ks.length<=1000000)(E:aOf w y z p ks):Calls zy 79 #[.slice x ks.length A,.func (.func 75) #[] #[.pointer (some ⟨y,0,none⟩),.pointer (some ⟨z,0,none⟩)]] w λq I=>q=.returned (.int .i64 (pF p ks))/\aB w I:=by
 have G:=aA E;have F:=aA f;clear E f;go_enter Tryz.func79,Tryz.ntmps79;go_wp2;go_loopw [8] (λu wr=>∃b:Nat,b<=ks.length/\u=.int .i64 b/\(∀a (e:a<ks.length),a<b->p ks[a]=false)/\aB w wr) (λu _=>ks.length-(intOf u).toNat);case atStart=>exact ⟨0,zo _,rfl,λa _ f=>by omega,Below.refl _ _⟩
 case round=>
  obtain ⟨b,N,rfl,D,d⟩:=hrel;have n:=aA D;have l:=aA d;clear D;by_cases t:b<ks.length
  ·obtain ⟨L,rfl,r⟩:=F.o.cell t;have H:=aC d r;have P:(b:Int)<(ks.length:Int):=by omega
   obtain ⟨k,j⟩ : ∃k,ks[b]=k:=⟨_,rfl⟩;rw [j] at r H;have i:=aA (G.o k (by rw [<-j];exact zx t) wr d);have v:=aA j;have C:=d.size;clear r j d;cases hp:p k
   ·rw [hp] at i;have o:=aA hp;clear hp;go_wp2_with (first
     |(go_at_call 75;refine (aD i).mono ?_;rintro q J ⟨rfl,g⟩;have m:=aA (l.o.trans (g.mono C));clear g)
     |go_in)
    go_roundw;case rel=>exact ⟨b+1,by omega,by go_num,λa e M=>by
     rcases (show a<b\/a=b by omega) with f|rfl
     ·exact n.o a e f
     ·rw [v.o];exact o.o,m.o⟩
    case measure=>simp [intOf];omega
   ·rw [hp] at i;have o:=aA hp;clear hp;go_wp2_with (first
     |(go_at_call 75;refine (aD i).mono ?_;rintro q J ⟨rfl,g⟩;have m:=aA (l.o.trans (g.mono C));clear g)
     |go_in)
    go_ret;have s:=aOe t (by rw [v.o];exact o.o) (λa e=>n.o a (by omega) e);exact ⟨by rw [s];rfl,m.o⟩
  ·have O:b=ks.length:=by omega
   clear d;go_wp2;go_ret;have s:=aG9 (λa e=>n.o a e (by omega));exact ⟨by rw [s];rfl,l.o⟩
theorem bDq(B b d:Nat)(p:Nat->Bool)(a:Option Addr)(e:Nat)(ks:List Nat)(w:World)(g:dO B w (.slice a ks.length e) ks)(o:ks.length<=1000000)(k:aOf w b d p ks):Calls zy 74 #[.slice a ks.length e,.func (.func 75) #[] #[.pointer (some ⟨b,0,none⟩),.pointer (some ⟨d,0,none⟩)]] w λf s=>f=.returned (.bool (ks.any p))/\aB w s:=by
 have l:=aA (bDp B b d p a e ks w g o k);have i:=bDo (p:=p) (ks:=ks);clear g k;generalize pF p ks=r at *;generalize ks.any p=q at *;have m:=aA i;clear i;go_enter Tryz.func74,Tryz.ntmps74;go_wp2_with (go_at_call 79;refine (aD l).mono ?_;rintro f t ⟨rfl,j⟩;have n:=aA j;clear j);go_ret;exact ⟨by rw [<-m.o];rfl,n.o⟩
def aOg(w:World)(d e:Nat)(g:Nat->Bool)(ks:List Nat):Prop:=∀b∈ks,∀a,aB w a->Calls zy 50 #[.int .i64 (b:Nat),.pointer (some ⟨d,0,none⟩),.pointer (some ⟨e,0,none⟩)] a λf i=>f=.returned (.bool (g b))/\aB a i
theorem aOh(B y z:Nat)(p:Nat->Bool)(x:Option Addr)(A:Nat)(ks:List Nat)(w:World)(f:dO B w (.slice x ks.length A) ks)(Q:ks.length<=1000000)(E:aOg w y z p ks):Calls zy 79 #[.slice x ks.length A,.func (.func 50) #[] #[.pointer (some ⟨y,0,none⟩),.pointer (some ⟨z,0,none⟩)]] w λr I=>r=.returned (.int .i64 (pF p ks))/\aB w I:=by
 have G:=aA E;have F:=aA f;clear E f;go_enter Tryz.func79,Tryz.ntmps79;go_wp2;go_loopw [8] (λi wr=>∃b:Nat,b<=ks.length/\i=.int .i64 b/\(∀a (e:a<ks.length),a<b->p ks[a]=false)/\aB w wr) (λi _=>ks.length-(intOf i).toNat);case atStart=>exact ⟨0,zo _,rfl,λa _ f=>by omega,Below.refl _ _⟩
 case round=>
  obtain ⟨b,N,rfl,D,d⟩:=hrel;have o:=aA D;have m:=aA d;clear D;by_cases u:b<ks.length
  ·obtain ⟨L,rfl,s⟩:=F.o.cell u;have H:=aC d s;have P:(b:Int)<(ks.length:Int):=by omega
   obtain ⟨l,k⟩ : ∃l,ks[b]=l:=⟨_,rfl⟩;rw [k] at s H;have j:=aA (G.o l (by rw [<-k];exact zx u) wr d);have v:=aA k;have C:=d.size;clear s k d;cases hp:p l
   ·rw [hp] at j;have q:=aA hp;clear hp;go_wp2_with (first
     |(go_at_call 50;refine (aD j).mono ?_;rintro r J ⟨rfl,g⟩;have n:=aA (m.o.trans (g.mono C));clear g)
     |go_in)
    go_roundw;case rel=>exact ⟨b+1,by omega,by go_num,λa e M=>by
     rcases (show a<b\/a=b by omega) with f|rfl
     ·exact o.o a e f
     ·rw [v.o];exact q.o,n.o⟩
    case measure=>simp [intOf];omega
   ·rw [hp] at j;have q:=aA hp;clear hp;go_wp2_with (first
     |(go_at_call 50;refine (aD j).mono ?_;rintro r J ⟨rfl,g⟩;have n:=aA (m.o.trans (g.mono C));clear g)
     |go_in)
    go_ret;have t:=aOe u (by rw [v.o];exact q.o) (λa e=>o.o a (by omega) e);exact ⟨by rw [t];rfl,n.o⟩
  ·have O:b=ks.length:=by omega
   clear d;go_wp2;go_ret;have t:=aG9 (λa e=>o.o a e (by omega));exact ⟨by rw [t];rfl,m.o⟩
theorem bDr(w:World)(b a:Nat)(d:Value)(f:d.cells.size=2)(g:b<=a)(e:a<=maxLen):(w.drew.alloc (.cells (Builtin.zeroCells d.cells b++Builtin.zeroCells d.cells (a-b)) 86)).ownsRow w.heap.size 86 2 (.slice (some ⟨w.heap.size,0,none⟩) 0 a) 0 []:=by
 refine ⟨by simp,.inr ⟨w.heap.size,a,_,rfl,zw _,heap_alloc_new w.drew _,zo _,e,?_,by simp⟩⟩;simp only [Array.size_append,size_zeroCells,f,<-Nat.add_mul];congr 1
 omega
theorem bDs(a:Nat)(w:World)(s:a<=16):Calls zy 133 #[.slice none 0 0,.int .i64 a] w λi e=>∃d,i=.returned d/\e.ownsRow w.heap.size 86 2 d 0 []/\aB w e:=by
 obtain ⟨p,j,k,q,l⟩:=info_parts tZ;by_cases b:a=0
 ·subst b;go_enter Tryz.func133,Tryz.ntmps133;go_wp2;go_ret;exact ⟨_,rfl,zl _ _ _ _,Below.refl _ _⟩
 ·have n:=grownCap_ge w a 0 86;have o:=grownCap_le_maxLen w a 0 86 (by unfold maxLen;omega);have m:=aA (Lib.run_append_nil_zeros (P:=zy) w 51 3 51 86 p (.agg #[.bool false,.slice none 0 0]) .i64 .i64 zq Tryz.underlying3 j k a (by omega) (by omega) (by omega) (by rw [l];omega));have g:=aA (bDr w a (grownCap w a 0 86) (.agg #[.bool false,.slice none 0 0]) rfl n o);have r:(0:Int)<=(grownCap w a 0 86:Int):=by omega
  have t:(0:Int)<(a:Int):=by omega
  have f:aM (aB w (w.drew.alloc (.cells (Builtin.zeroCells (Value.agg #[.bool false,.slice none 0 0]).cells a++Builtin.zeroCells (Value.agg #[.bool false,.slice none 0 0]).cells (grownCap w a 0 86-a)) 86))):=aA ((aU (w:=w) (w1:=w.drew) ⟨1,rfl⟩).alloc (zw _) _);clear b;go_enter Tryz.func133,Tryz.ntmps133;go_wp2_with (first
   |(at_builtin;refine Lib.wpList_append_run _ rfl _ _ _ _ rfl _ _ rfl rfl _ _ (aD m) ?_)
   |go_in)
  go_ret;exact ⟨_,rfl,g.o,f.o⟩
theorem aOi(a b:List (Lt×Value)):bF (a++b)=bF a++bF b:=by simp [bF]
theorem aOj(w:World)(B:Nat)(b:List (Lt×Value))(f:∀p∈b,qL w B p.2 p.1.2):∀d∈bF b,d.oneCell'=true:=by
 intro d a;simp only [bF,zi] at a;obtain ⟨p,g,a⟩:=a;obtain ⟨i,j,e,_⟩:=f p g;simp at a;rcases a with rfl|rfl
 ·rfl
 ·rw [e];rfl
theorem dG.cells{d f:Nat}(C:dG w B (some ⟨d,f,none⟩) c):∃P:List (Lt×Value),P.map Prod.fst=c/\(∀p∈P,qL w B p.2 p.1.2)/\∀j m,(bF P)[j]?=some m->w.cell? ⟨d,f+j,none⟩=some m:=by
 obtain ⟨g,q⟩:=Deep.choose_lt (α:=Value) (n:=c.length) (p:=λk v=>∀a:k<c.length,qL w B v c[k].2/\w.cell? ⟨d,f+k*2,none⟩=some (.bool c[k].1)/\w.cell? ⟨d,f+k*2+1,none⟩=some v) (λk a=>by
  obtain ⟨x,H,u,y,e,_,o,i,D,E⟩:=C.cell k a;obtain ⟨rfl,rfl⟩ : d=x/\f=H:=by simpa using e
  exact ⟨_,λ_=>⟨⟨u,y,rfl,D,E⟩,o,i⟩⟩)
 have r:((zn c.length).map λk=>((c[k]?).getD (false,[]),g k)).length=c.length:=by simp
 refine ⟨(zn c.length).map λk=>((c[k]?).getD (false,[]),g k),?_,λp G=>?_,λj m b=>?_⟩
 ·rw [List.map_map];refine List.ext_getElem (by simp) λk o i=>?_
  simp [i]
 ·obtain ⟨k,a,rfl⟩:=List.mem_map.1 G;have l:k<c.length:=by simpa using a
  simp only [List.getElem?_eq_getElem l,Option.getD_some];exact (q k l l).1
 ·have F:j<(bF ((zn c.length).map λk=>((c[k]?).getD (false,[]),g k))).length:=(List.getElem?_eq_some_iff.1 b).1;rw [aCk,r] at F;have a:j / 2<c.length:=by omega
  obtain ⟨s,t⟩:=xW ((zn c.length).map λk=>((c[k]?).getD (false,[]),g k)) (j / 2) (by rw [r];exact a);simp [a] at s t;obtain ⟨_,z,A⟩:=q (j / 2) a a;rcases Nat.mod_two_eq_zero_or_one j with h0|h0
  ·have e:j=j / 2*2:=by omega
   rw [e] at b ⊢;rw [s] at b;simp at b;rw [<-b];exact z
  ·have e:j=j / 2*2+1:=by omega
   rw [e] at b ⊢;rw [t] at b;simp at b;rw [<-b,<-Nat.add_assoc];exact A
theorem bDt(B N E L a8 F M a9:Nat)(i l:List Lt)(w:World)(G:dG w B (some ⟨E,L,none⟩) i)(H:dG w B (some ⟨F,M,none⟩) l)(c0:w.cell? ⟨N,0,none⟩=some (.slice (some ⟨E,L,none⟩) i.length a8))(c1:w.cell? ⟨N,1,none⟩=some (.slice (some ⟨F,M,none⟩) l.length a9)):Calls zy 113 #[.slice (some ⟨N,0,none⟩) 2 2] w λd b1=>∃P,d=.returned P/\jA w B w.heap.size b1 P (i++l)/\aB w b1:=by
 obtain ⟨a7,X,Y,Z,a0⟩:=info_parts tZ;have c3:=G.few;have c4:=H.few;obtain ⟨b,I,V,a2⟩:=G.cells;obtain ⟨g,J,W,a3⟩:=H.cells;have a4:b.length=i.length:=by rw [<-I];simp
 have a5:g.length=l.length:=by rw [<-J];simp
 have b2:=aA (bDs (i.length+l.length) w (by omega));have q:=aA a4;have r:=aA a5;have b4:=aA a2;have b5:=aA a3;have S:=aA V;have T:=aA W;have b7:=aA I;have b8:=aA J;clear G H I J V W a2 a3 a4 a5;go_enter Tryz.func113,Tryz.ntmps113;go_wp2;go_loop [3,11] (λO o=>∃a p:Nat,a<=2/\o=.int .i64 a/\O=.int .i64 p/\p<=16/\((a=0/\p=0)\/(a=1/\p=i.length)\/(a=2/\p=i.length+l.length))) (λ_ o=>2-(intOf o).toNat);case atStart=>exact ⟨0,0,by omega,rfl,rfl,by omega,zs ⟨rfl,rfl⟩⟩
 case round=>
  obtain ⟨a,p,b9,rfl,rfl,c5,t⟩:=hrel;rcases t with ⟨rfl,rfl⟩|⟨rfl,t⟩|⟨rfl,t⟩
  ·go_wp2;go_round;case rel=>exact ⟨1,i.length,by omega,by go_num,by go_num,by omega,zt (zs ⟨rfl,rfl⟩)⟩
   case measure=>simp [intOf]
  ·have U:=aA t;clear t;go_wp2;go_round;case rel=>exact ⟨2,p+l.length,by omega,by go_num,by go_num,by have:=U.o;omega,zt (zt ⟨rfl,by rw [U.o]⟩)⟩
   case measure=>simp [intOf]
  ·subst t;go_wp2_with (go_at_call 133;refine (aD b2).mono ?_;rintro d c6 ⟨P,rfl,f,a1⟩;have b6:=aA f;have b3:=aA a1;clear f a1);go_loopw [6,27] (λO o wr=>∃(a:Nat) (s:List (Lt×Value)),a<=2/\o=.int .i64 a/\wr.ownsRow w.heap.size 86 2 O s.length (bF s)/\aB w wr/\((a=0/\s=[])\/(a=1/\s=b)\/(a=2/\s=b++g))) (λ_ o _=>2-(intOf o).toNat);case atStart=>exact ⟨0,[],by omega,rfl,b6.o,b3.o,zs ⟨rfl,rfl⟩⟩
   case round=>
   obtain ⟨a,s,b9,rfl,a6,e,n⟩:=hrel;have v:=aA a6;clear a6;rcases n with ⟨rfl,rfl⟩|⟨rfl,n⟩|⟨rfl,n⟩
   ·have f:=v.o;have C:=aA (λj k (m:(bF b)[j]?=some k)=>aC e (b4.o j k m));have u:=aA e;have c2:=aC e c0;have x:=e.size;clear e v;go_wp2_with (first
     |(at_builtin;refine wpList_append_own _ rfl _ _ 51 rfl w.heap.size 86 a7 (.agg #[.bool false,.slice none 0 0]) 2 32 zq X Y Z a0 rfl (by decide) _ _ _ rfl f ⟨E,L,none⟩ i.length a8 (bF b) rfl ?d1 ?d2 ?d3 ?d4 ?d5 ?d6 ?_)
     |go_in)
    case d1=>rw [aCk,q.o]
    case d2=>exact λj k m=>by rw [Addr.add_lit];exact C.o j k m
    case d3=>exact aOj w B b S.o
    case d4=>unfold maxLen;have:=q.o;have:=r.o;simp;omega
    case d5=>have:=q.o;have:=r.o;simp;omega
    case d6=>exact x
    intro Q R z y _;have D:aM (R.ownsRow w.heap.size 86 2 Q ([]++b).length (bF ([]++b))):=aA (by
     have d:=z;rw [<-q.o,<-aOi] at d;simpa using d)
    have A:=aA (u.o.grown y x λa d=>(cU f a d).1);clear z y f;go_wp2;go_roundw;case rel=>exact ⟨1,[]++b,by omega,by go_num,D.o,A.o,zt (zs ⟨rfl,by simp⟩)⟩
    case measure=>simp [intOf]
   ·replace n:=n.symm
    subst n;have f:=v.o;have C:=aA (λj k (m:(bF g)[j]?=some k)=>aC e (b5.o j k m));have u:=aA e;have c2:=aC e c1;have x:=e.size;clear e v;go_wp2_with (first
     |(at_builtin;refine wpList_append_own _ rfl _ _ 51 rfl w.heap.size 86 a7 (.agg #[.bool false,.slice none 0 0]) 2 32 zq X Y Z a0 rfl (by decide) _ _ _ rfl f ⟨F,M,none⟩ l.length a9 (bF g) rfl ?d1 ?d2 ?d3 ?d4 ?d5 ?d6 ?_)
     |go_in)
    case d1=>rw [aCk,r.o]
    case d2=>exact λj k m=>by rw [Addr.add_lit];exact C.o j k m
    case d3=>exact aOj w B g T.o
    case d4=>unfold maxLen;have:=q.o;have:=r.o;simp;omega
    case d5=>have:=q.o;have:=r.o;simp;omega
    case d6=>exact x
    intro Q R z y _;have D:aM (R.ownsRow w.heap.size 86 2 Q (b++g).length (bF (b++g))):=aA (by
     have d:=z;rw [<-r.o,<-aOi] at d;simpa using d)
    have A:=aA (u.o.grown y x λa d=>(cU f a d).1);clear z y f;go_wp2;go_roundw;case rel=>exact ⟨2,b++g,by omega,by go_num,D.o,A.o,zt (zt ⟨rfl,by simp⟩)⟩
    case measure=>simp [intOf]
   ·subst n;have u:=aA e;clear e;go_wp2;go_ret;exact ⟨_,rfl,⟨b++g,by rw [List.map_append,b7.o,b8.o],v.o,λb0 hp=>by rcases zv.1 hp with hp|hp;exact S.o b0 hp;exact T.o b0 hp⟩,u.o⟩
def aGa(o:Nat):Prop:=∀(B f:Nat) (e:Option Addr) (k:Nat) (a:List Lt) (b:bH) (w:World) (i:Option Addr) (j:Nat) (c:List Lt),c.length<=o->cB w B f (.slice e a.length k) b->dG w B e a->dG w B i c->c.length<=j->mI a->mI c->B<=w.heap.size->
 Calls zy 80 #[.pointer (some ⟨f,0,none⟩),.slice i c.length j] w λn l=>∃(g:Bool) (d:bH),n=.returned (.bool g)/\cB l B f (.slice e a.length k) d/\Fr B w l/\(∃m,d=b++m)/\(g=true->kL c b d/\aE0 a c d)/\(g=false->¬gN a c b)
def aGb(p:Nat):Prop:=∀(B f:Nat) (e:Option Addr) (k:Nat) (a:List Lt) (b:bH) (w:World) (i l j:Nat) (c:List Lt),c.length<=p->0<c.length->cB w B f (.slice e a.length k) b->dG w B e a->dG w B (some ⟨i,l,none⟩) c->c.length<=j->mI a->mI c->B<=w.heap.size->
 Calls zy 100 #[.pointer (some ⟨f,0,none⟩),.slice (some ⟨i,l,none⟩) c.length j] w λo m=>∃(g:Bool) (d:bH),o=.returned (.bool g)/\cB m B f (.slice e a.length k) d/\Fr B w m/\(∃n,d=b++n)/\(g=true->kL c b d/\aE0 a c d)/\(g=false->¬gN a c b)
def aOk:Value->Nat
 | .slice _ n _=>n
 |_=>0
def bDu(e c f:List Lt)(d:bH):Prop:=∀b,Tm b->jM b d->∀a∈c,a∈f\/(a.1,subst b a.2)∈e
theorem mI.of{b:List Lt}(d:mI c)(f:∀a∈b,a∈c):mI b:=λa e=>d a (f a e)
theorem gN.sub{e d:List Lt}{b:bH}(f:gN e c b)(l:∀a∈d,a∈c):gN e d b:=by obtain ⟨m,g,i,j⟩:=f;exact ⟨m,g,i,λa k=>j a (l a k)⟩
theorem bDv{i d:List Lt}{e f g:bH}(j:kL c e f)(m:kL d f g)(l:∀a∈d,a∈i)(k:∀a∈i,a∈c):kL c e g:=j.trans m (λ_ b=>b) (λa b=>k a (l a b))
theorem aOl(U:Nat)(a4:aGb U):aGa U:=by
 intro B L I J g n w d1 d2 c e3 f a3 O d9 b0 a9 a2;have c3:=aA a4;have c4:=aA f;have c1:=aA a3;have c0:=aA O;have c2:=aA b0;have Y:=aA a9;have f1:=O.few;clear a4 f a3 O b0 a9;go_enter Tryz.func80,Tryz.ntmps80;go_wp2;go_loopw [1] (λV wr=>∃(d:List Lt) (e:bH) (T:Option Addr) (v:Nat),V=.slice T d.length v/\d.length<=U/\d.length<=v/\dG wr B T d/\cB wr B L (.slice I g.length J) e/\Fr B w wr/\(∀a∈d,a∈c)/\(∃c8,e=n++c8)/\(gN g c n↔gN g d e)/\kL c n e/\bDu g c d e) (λV _=>aOk V);case atStart=>exact ⟨c,n,d1,d2,rfl,e3,d9,c0.o,c4.o,Fr.refl _ _,λ_ h=>h,⟨[],by simp⟩,Iff.rfl,kL.refl _ _,λ_ _ _ a b=>zs b⟩
 case round=>
  obtain ⟨d,e,T,v,rfl,f3,e2,o,f,i,t,s,P,q,r⟩:=hrel;by_cases a1:0<d.length
  ·obtain ⟨d0,e6,_,_,rfl,_⟩:=o.cell 0 a1;have f0:(0:Int)<(d.length:Int):=by omega
   have b7:=aA (aQ6 B L (.slice I g.length J) e wr d0 e6 v d f o e2 (Y.o.of t) a1 (zk a2 i.size));have j:=aA i;have C:=aA f;have F:=aA t;have m:=aA s;have X:=aA P;have A:=aA q;have E:=aA r;have e5:=zk a2 i.size;clear o f i t s P q r;go_wp2_with (first
    |(go_at_call 99;refine (aD b7).mono ?_;rintro d3 e9 ⟨b8,c9,d4,d6,d5,e7,e8,rfl,e0,e4,a5,a6,R,f2,d7,a7,l⟩;have b6:=aA (c3.o B L I J g e e9 d4 d6 d5 b8 (by omega) d7 (C.o.below l) (c1.o.fr (j.o.trans (Fr.of_below l))) a5 e0 c2.o (Y.o.of λa b=>F.o a ((R a).2 (zs b))) (zk e5 l.size));have W:=aA l;have c7:=aA a6;have k:=aA R;have b9:=aA a7;clear a5 a6 R a7 l)
    |(go_at_call 100;refine (aD b6).mono ?_;rintro d3 f4 ⟨x,a0,rfl,b1,a8,b3,b4,b5⟩;have D:=aA b1;have z:=aA a8;have Z:=aA b3;have c5:=aA b4;have c6:=aA b5;clear b1 a8 b3 b4 b5))
   ·have S:x=false:=by first|assumption|(cases x<;>simp_all)
    subst S;go_ret;refine ⟨false,a0,rfl,D.o,j.o.trans ((Fr.of_below W.o).trans z.o),?_,by simp,λ_ d8=>?_⟩
    ·obtain ⟨G,M⟩:=m.o;obtain ⟨H,N⟩:=Z.o;exact ⟨G++H,by rw [N,M];simp⟩
    ·exact c6.o rfl (((X.o).1 d8).sub λa b=>(k.o a).2 (zs b))
   ·have S:x=true:=by first|assumption|(cases x<;>simp_all)
    subst S;go_roundw;case rel=>
     obtain ⟨Q,b2⟩:=c5.o rfl;refine ⟨c9,a0,e7,e8,rfl,by omega,e4,c7.o.fr z.o,D.o,j.o.trans ((Fr.of_below W.o).trans z.o),λa b=>F.o a ((k.o a).2 (zt b)),?_,?_,?_,?_⟩
     ·obtain ⟨G,M⟩:=m.o;obtain ⟨H,N⟩:=Z.o;exact ⟨G++H,by rw [N,M];simp⟩
     ·exact X.o.trans (aWl k.o b9.o Q D.o.ok.look b2)
     ·exact bDv A.o Q (λa b=>(k.o a).2 (zs b)) F.o
     ·intro y u p a b;rcases E.o y u (Q.ext p) a b with h|h
      ·rcases (k.o a).1 h with h|h
       ·exact zt (b2 y u p a h)
       ·exact zs h
      ·exact zt h
    case measure=>simp [aOk];omega
  ·have e1:d=[]:=zu (by omega);subst e1;have j:=aA i;have C:=aA f;have m:=aA s;have A:=aA q;have E:=aA r;clear o f i t s P q r;go_wp2;go_ret;refine ⟨true,e,rfl,C.o,j.o,m.o,λ_=>⟨A.o,λy u p a b=>?_⟩,by simp⟩;rcases E.o y u p a b with h|h
   ·simp at h
   ·exact h
theorem bDw(B e:Nat)(m:Value)(d:bH)(w:World)(o p:Bool)(j k:Option Addr)(q l:Nat)(b a:List Nd)(y:cB w B e m d)(v:fR w B j b)(x:fR w B k a)(z:a.length<=l)(G:aQ b 1=true)(H:aQ a 1=true)(t:b.length<=60)(u:a.length<=60)(C:kA (o,b) (p,a) d=none):∀g,(∃E,g=w.drewN E)->Calls zy 114 #[.pointer (some ⟨e,0,none⟩),.agg #[.bool o,.slice j b.length q],.agg #[.bool p,.slice k a.length l]] g λr n=>r=.returned (.bool false)/\(∃i,cB n B e m (d++i))/\Fr B w n:=by
 intro g f;refine (aEw B e m d g o p j k q l b a (y.drawn f) (v.fr ((Fr.refl _ _).drawn f)) (x.fr ((Fr.refl _ _).drawn f)) z G H t u).mono ?_;rintro r n ⟨F,I,rfl,D,A,⟨i,rfl⟩,s,J⟩;cases F with
 |true=>rw [C] at s;simp at s
 |false=>exact ⟨rfl,⟨i,D⟩,((Fr.refl _ _).drawn f).trans A⟩
theorem bDx(B d:Nat)(l:Value)(g p:bH)(w:World)(n o:Bool)(i j:Option Addr)(q k:Nat)(b a:List Nd)(A:cB w B d l g)(y:fR w B i b)(z:fR w B j a)(C:a.length<=k)(H:aQ b 1=true)(I:aQ a 1=true)(u:b.length<=60)(v:a.length<=60)(t:kA (n,b) (o,a) g=some p):∀f,(∃F,f=w.drewN F)->Calls zy 114 #[.pointer (some ⟨d,0,none⟩),.agg #[.bool n,.slice i b.length q],.agg #[.bool o,.slice j a.length k]] f λr m=>r=.returned (.bool true)/\cB m B d l p/\Fr B w m:=by
 intro f e;refine (aEw B d l g f n o i j q k b a (A.drawn e) (y.fr ((Fr.refl _ _).drawn e)) (z.fr ((Fr.refl _ _).drawn e)) C H I u v).mono ?_;rintro r m ⟨G,J,rfl,E,D,_,x,s⟩;cases G with
 |true=>
  have:=x rfl;rw [t] at this;simp at this;subst this;exact ⟨rfl,E,((Fr.refl _ _).drawn e).trans D⟩
 |false=>rw [t] at s;simp at s
theorem dG.take{a d:Nat}(b:dG w B (some ⟨a,d,none⟩) c)(k:Nat):dG w B (some ⟨a,d,none⟩) (c.take k):=by
 refine ⟨by have:=b.few;simp;omega,λj e=>?_⟩;have f:j<c.length:=by simp at e;omega
 have:=b.cell j f;simpa using this
theorem dG.drop{e d:Nat}(f:dG w B (some ⟨e,d,none⟩) c)(a:Nat):dG w B (some ⟨e,d+a*2,none⟩) (c.drop a):=by
 refine ⟨by have:=f.few;simp;omega,λb p=>?_⟩;have q:a+b<c.length:=by simp at p;omega
 obtain ⟨i,t,g,j,k,r,l,m,n,o⟩:=f.cell (a+b) q;obtain ⟨rfl,rfl⟩ : e=i/\d=t:=by simpa using k
 have s:(c.drop a)[b]=c[a+b]:=by simp
 rw [s];exact ⟨e,d+a*2,g,j,rfl,r,by rw [show d+a*2+b*2=d+(a+b)*2 by omega];exact l,by rw [show d+a*2+b*2+1=d+(a+b)*2+1 by omega];exact m,n,o⟩
theorem aOm(c:List Lt)(a:Nat)(e:a<c.length):∀b,b∈c↔b=c[a]\/b∈c.take a++c.drop (a+1):=by
 intro b;have d:c=c.take a++c[a]::c.drop (a+1):=by rw [<-List.drop_eq_getElem_cons e,List.take_append_drop]
 constructor
 ·intro hl;rw [d] at hl;rcases zv.1 hl with hl|hl
  ·exact zt (List.mem_append_left _ hl)
  ·rcases List.mem_cons.1 hl with hl|hl
   ·exact zs hl
   ·exact zt (List.mem_append_right _ hl)
 ·rintro (rfl|hl)
  ·exact zx _
  ·rcases zv.1 hl with hl|hl
   ·exact List.mem_of_mem_take hl
   ·exact List.mem_of_mem_drop hl
theorem bDy(b4:Nat)(g7:aGa b4):aGb (b4+1):=by
 intro B C g3 J b l w e i d c o9 l2 n a8 a7 o4 d9 d8 o0;have j3:=aA (aPq B C g3 J b l w (some ⟨e,i,none⟩) d c n a8 a7 d9 d8 l2);have k7:=aA g7;have n7:=aA n;have f0:=aA a8;have c3:=aA a7;have c6:=aA d9;have f1:=aA d8;have o3:=a7.few;have o5:=a8.few;clear g7 n a8 a7 d9 d8;go_enter Tryz.func100,Tryz.ntmps100;go_wp2_with (go_at_call 112;refine (aD j3).mono ?_;rintro L q ⟨a,rfl,U,h8,d7⟩;have j8:=aA h8;have c4:=aA d7;have p1:=d7.size;clear h8 d7);have l5:(a:Int)<=(d:Int):=by omega
 have l6:(a:Int)+1<=(c.length:Int):=by omega
 have l7:(c.length:Int)<=(d:Int):=by omega
 have l8:(0:Int)<=(a:Int):=by omega
 have l9:(a:Int)+1<=(d:Int):=by omega
 have m0:(0:Int)<=(a:Int)+1:=by omega
 have m1:((a:Int)+1).toNat=a+1:=by omega
 have m7:IntKind.i64.wrap ((a:Int)+1)=(a:Int)+1:=by rw [IntKind.wrap_i64];omega
 obtain ⟨m,p,m3,h1⟩ : ∃m p,(if d=a+1 then some (⟨e,i,none⟩ : Addr) else some ⟨e,i+(a+1)*2,none⟩)=some ⟨m,p,none⟩/\dG q B (some ⟨m,p,none⟩) (c.drop (a+1)):=by
  by_cases a6:d=a+1
  ·have:c.drop (a+1)=[]:=List.drop_eq_nil_of_le (by omega);rw [this];exact ⟨e,i,aH a6,⟨by simp,λa U=>by simp at U⟩⟩
  ·exact ⟨e,i+(a+1)*2,aI a6,(c3.o.fr c4.o).drop (a+1)⟩
 have b2:aB q (q.alloc (.cells #[.slice (some ⟨e,i,none⟩) a d,.slice (some ⟨m,p,none⟩) (c.length-(a+1)) (d-(a+1))] 51)):=(Below.refl _ _).alloc (zw _) _;have S:=uB q (.slice (some ⟨e,i,none⟩) a d) (.slice (some ⟨m,p,none⟩) (c.length-(a+1)) (d-(a+1))) 51;have h6:(c.take a).length=a:=by simp;omega
 have h7:(c.drop (a+1)).length=c.length-(a+1):=by simp
 have j2:=aA (λwx (F:∃b4,wx=(q.alloc (.cells #[.slice (some ⟨e,i,none⟩) a d,.slice (some ⟨m,p,none⟩) (c.length-(a+1)) (d-(a+1))] 51)).drewN b4)=>
  bDt B q.heap.size e i d m p (d-(a+1)) (c.take a) (c.drop (a+1)) wx (((((c3.o.fr c4.o).take a).fr (Fr.of_below b2)).fr ((Fr.refl _ _).drawn F))) ((h1.fr (Fr.of_below b2)).fr ((Fr.refl _ _).drawn F)) (by rw [h6];obtain ⟨m9,rfl⟩:=F;exact S.1) (by rw [h7];obtain ⟨m9,rfl⟩:=F;exact S.2))
 have p0:(c.take a++c.drop (a+1)).length+1=c.length:=by simp;omega
 have j4:=aA b2;have f7:=aA (c3.o.cell a U);have c9:=aA (f1.o c[a] (zx _));have P:=aA (aOm c a U);have j7:aM (mI (c.take a++c.drop (a+1))):=aA (f1.o.of λr hl=>(aOm c a U r).2 (zt hl));generalize hrest:c.take a++c.drop (a+1)=rest at *;obtain ⟨b9,F⟩ : ∃b9,b9=c[a]:=⟨_,rfl⟩;rw [<-F] at f7 c9 P;clear b2 S h6 h7 h1 hrest F;go_region_held3 (λ_=>True) (trivial) ((go_at_call 113;refine (aD j2 _ (by first|exact ⟨0,rfl⟩|exact ⟨1,rfl⟩|exact ⟨_,rfl⟩)).mono ?_;rintro L b8 ⟨p9,rfl,i2,R⟩;have j6:=aA R;replace R:=uC (W:=q.alloc (.cells #[.slice (some ⟨e,i,none⟩) a d,.slice (some ⟨m,p,none⟩) (c.length-(a+1)) (d-(a+1))] 51)) (by first|exact ⟨0,rfl⟩|exact ⟨1,rfl⟩|exact ⟨_,rfl⟩) R;have k6:=aA i2;have j5:=aA R;clear i2 R));have d1:aB q b8:=j4.o.trans (j5.o.mono (by simp));have g9:Below ((q.alloc (.cells #[.slice (some ⟨e,i,none⟩) a d,.slice (some ⟨m,p,none⟩) (c.length-(a+1)) (d-(a+1))] 51)).drew).heap.size ((q.alloc (.cells #[.slice (some ⟨e,i,none⟩) a d,.slice (some ⟨m,p,none⟩) (c.length-(a+1)) (d-(a+1))] 51)).drew) b8:=j6.o;obtain ⟨n1,n2,rfl,m4,g6,-⟩:=k6.o.lits g9 (by omega);have G:aM (Fr B w b8):=aA (c4.o.trans (Fr.of_below d1));have f3:=aA (j8.o.below d1);have k5:=aA g6;have o1:=f3.o.among;have p2:=(G.o).size;clear d1 g9 g6 m3 l5 l6 l7 l8 l9 m0 m1 m7;go_wp2;go_loopw [27] (λe2 wr=>∃g:Nat,g<=b.length/\e2=.int .i64 g/\cB wr B C (.slice g3 b.length J) l/\Fr B b8 wr/\(∀s∈b.take g,∀v,kA b9 s l=some v->¬gN b rest v)) (λe2 _=>b.length-(intOf e2).toNat);case atStart=>exact ⟨0,zo _,rfl,f3.o,Fr.refl _ _,by simp⟩
 case round=>
  obtain ⟨g,o6,rfl,n,M,Y⟩:=hrel;by_cases h5:g<b.length
  ·obtain ⟨a5,b5,t,u,rfl,m5,n5,n6,a2,d4⟩:=((f0.o.fr G.o).fr M).cell g h5;obtain ⟨E,a1⟩:=c6.o b[g] (zx _);obtain ⟨l1,n0,e8,e9,g4,b3,e4,i9,m8,g8⟩:=f7.o;obtain ⟨rfl,rfl⟩ : e=l1/\i=n0:=by simpa using g4
   have Q:=G.o.trans M;have c0:=Q.cell e4 b3;have e6:=Q.cell i9 b3;have d3:=g8.fr Q;have i3:=b3.fr (zz w _ e4) Q;obtain ⟨D,a0⟩:=c9.o;obtain ⟨n8,n9,h0⟩:=n.len;have o8:(l.length:Int)<=60:=by have:=n.ok.few;omega
   have Z:b.take (g+1)=b.take g++[b[g]]:=List.take_succ_eq_append_getElem h5;have i6:b[g]∈b:=zx _;have o7:(a:Int)<(c.length:Int):=by omega
   generalize b[g]=s at *;obtain ⟨j,k⟩:=s;obtain ⟨y,z⟩:=b9;simp only at n5 n6 E a1 d4 a2 c0 e6 d3 D a0 m8;have o:aB wr (wr.alloc (.cells #[.bool j,.slice t k.length u] 86)):=(Below.refl _ _).alloc (zw _) _;have S:=uB wr (.bool j) (.slice t k.length u) 86;have i4:=aBc (w:=wr) (B:=B) #[.bool j,.slice t k.length u] 86 (by decide) (by decide);have i5:lV (wr.alloc (.cells #[.bool j,.slice t k.length u] 86)) B e:=i3.fr (zz wr _ c0) (Fr.of_below o);have e5:=aC o c0;have e7:=aC o e6;have o2:=aC o h0;obtain ⟨d5,d6⟩:=S;have a9:=n.below o;have b0:=d3.fr (Fr.of_below o);have b1:=d4.fr (Fr.of_below o);have O:=aA (M.trans (Fr.of_below o));have f4:=aA Y;have f5:=aA Z;have k8:=aA i6;have H:=aA i4;have I:=aA i5;have p4:=(O.o).size;clear Y Z i6 n M Q i3 b3 m5 i4 i5 g8 d3 d4 e4 i9 g4 c0 e6 h0;cases hml:kA (y,z) (j,k) l with
   |none=>
    have c2:=aA (bDw B C (.slice (some ⟨a5,b5,none⟩) b.length J) l _ y j e8 t e9 u z k a9 b0 b1 a2 D E a0 a1 hml);have a4:=aA hml;clear a9 b0 b1 hml a2 E a1 D a0 o;go_wp2_with fail;generalize hWI:wr.alloc (.cells #[.bool j,.slice t k.length u] 86)=WI at *;clear hWI;first|go_region_with (go_at_call 114;refine (aD c2 _ (by first|exact ⟨0,rfl⟩|exact ⟨1,rfl⟩|exact ⟨_,rfl⟩)).mono ?_;rintro L e3 ⟨rfl,⟨l0,V⟩,f⟩;have f9:=f.cell e5 I.o;have g0:=f.cell e7 I.o;have g1:=f.cell d5 H.o;have g2:=f.cell d6 H.o;have c1:=aA (aEx B C _ l l0 e3 V);have a3:=aA (O.o.trans f);clear V f)|fail
    all_goals
     go_wp2_with (go_at_call 115;refine (aD c1).mono ?_;rintro L n4 ⟨rfl,X,T⟩;have c8:=aA X;have c5:=aA (a3.o.trans T);clear X T);go_roundw;case rel=>exact ⟨g+1,by omega,by go_num,c8.o,c5.o,by
      intro s hy v x;rw [f5.o] at hy;rcases zv.1 hy with hy|hy
      ·exact f4.o s hy v x
      ·simp at hy;subst hy;rw [a4.o] at x;simp at x⟩
     case measure=>simp [intOf];omega
   |some L1=>
    have c2:=aA (bDx B C (.slice (some ⟨a5,b5,none⟩) b.length J) l L1 _ y j e8 t e9 u z k a9 b0 b1 a2 D E a0 a1 hml);obtain ⟨d0,g5,h4⟩:=aWi (x:=(y,z)) (y:=(j,k)) D E hml;have a4:=aA hml;have c7:=aA g5;have f6:=aA (And.intro D E);have f2:=aA h4;clear a9 b0 b1 hml a2 E a1 D a0 o g5 h4;go_wp2_with fail;generalize hWI:wr.alloc (.cells #[.bool j,.slice t k.length u] 86)=WI at *;clear hWI;go_region_held3 (λb7=>b7.cell? ⟨e,i+a*2,none⟩=some (.bool y)/\b7.cell? ⟨e,i+a*2+1,none⟩=some (.slice e8 z.length e9)/\b7.cell? ⟨wr.heap.size,0,none⟩=some (.bool j)/\b7.cell? ⟨wr.heap.size,1,none⟩=some (.slice t k.length u)) (go_keep)
     (first
      |(go_at_call 114;refine (aD c2 _ (by first|exact ⟨0,rfl⟩|exact ⟨1,rfl⟩|exact ⟨_,rfl⟩)).mono ?_;rintro L e3 ⟨rfl,V,f⟩;have f9:=f.cell e5 I.o;have g0:=f.cell e7 I.o;have g1:=f.cell d5 H.o;have g2:=f.cell d6 H.o;have p3:=f.size;have j1:=aA (k7.o B C (some ⟨a5,b5,none⟩) J b L1 e3 n1 n2 rest (by omega) V (((f0.o.fr G.o).fr O.o).fr f) ((k5.o.fr O.o).fr f) m4 c6.o j7.o (by omega));have A:=aA f;clear V f)
      |(go_at_call 80;refine (aD j1).mono ?_;rintro L n3 ⟨b6,k9,rfl,e0,N,⟨f8,d2⟩,i0,i1⟩;have p5:=N.cell f9 (I.o.fr (zz _ _ e5) A.o);have p6:=N.cell g0 (I.o.fr (zz _ _ e7) A.o);have p7:=N.cell g1 (H.o.fr (zz _ _ d5) A.o);have p8:=N.cell g2 (H.o.fr (zz _ _ d6) A.o);have c1:=aA (aEx B C (.slice (some ⟨a5,b5,none⟩) b.length J) l (d0++f8) n3 (by rw [<-List.append_assoc,<-c7.o,<-d2];exact e0));have k1:=aA e0;have a3:=aA ((O.o.trans A.o).trans N);have k3:=aA i0;have k4:=aA i1;have j9:=aA d2;clear e0 N i0 i1 d2))
    go_wp2_with (go_at_call 115;refine (aD c1).mono ?_;rintro L n4 ⟨rfl,X,T⟩;have c8:=aA X;have c5:=aA (a3.o.trans T);clear X T)
    ·have e1:b6=true:=by first|assumption|(cases b6<;>simp_all)
     subst e1;go_ret;obtain ⟨h3,m2⟩:=k3.o rfl;have m6:=aDz (x:=(y,z)) (y:=(j,k)) f6.o.1 f6.o.2 a4.o;refine ⟨true,k9,rfl,k1.o,G.o.trans a3.o,⟨d0++f8,by rw [j9.o,c7.o];simp⟩,λ_=>⟨?_,?_⟩,by simp⟩
     ·refine kL.trans (c:=[(y,z)]) ⟨d0,c7.o,λi8 h9=>⟨⟨(y,z),by simp,(f2.o i8 h9).1⟩,(f2.o i8 h9).2⟩⟩ h3 (λr hl=>?_) (λr hl=>(P.o r).2 (zt hl));simp at hl;rw [hl];exact (P.o _).2 (zs rfl)
     ·intro j0 i7 h2 r hl;rcases (P.o r).1 hl with rfl|hl
      ·rw [((m6 j0 i7).1 (h3.ext h2)).2];exact k8.o
      ·exact m2 j0 i7 h2 r hl
    ·have e1:b6=false:=by first|assumption|(cases b6<;>simp_all)
     subst e1;go_roundw;case rel=>exact ⟨g+1,by omega,by go_num,c8.o,c5.o,by
      intro s hy v x;rw [f5.o] at hy;rcases zv.1 hy with hy|hy
      ·exact f4.o s hy v x
      ·simp at hy;subst hy;rw [a4.o] at x;simp at x;subst x;exact k4.o rfl⟩
     case measure=>simp [intOf];omega
  ·have Z:b.take g=b:=List.take_of_length_le (by omega);rw [Z] at Y;have k0:=aA n;have A:=aA M;have k2:aM (¬gN b c l):=aA (by
    intro l4;obtain ⟨s,hy,v,a6,l3⟩:=(aWj (λr hl=>(c6.o r hl).1) c9.o.1 P.o).1 l4;exact Y s hy v a6 l3)
   clear Z Y n M;go_wp2;go_ret;exact ⟨false,l,rfl,k0.o,G.o.trans A.o,⟨[],by simp⟩,by simp,λ_=>k2.o⟩
theorem aOn:∀n,aGb n
 |0=>λB i f g e a w b l d c k j=>by omega
 |n+1=>bDy n (aOl n (aOn n))
theorem bDz(a:Nat):aGa a:=aOl a (aOn a)
def iY(a:Value):Array Value:=#[a]++zg 61 (.slice none 0 0)
def xE:Array Value:=zg 62 (.slice none 0 0)
theorem aGc(a:Value):(iY a).size=62:=by simp [iY]
theorem aOo(a:Value):(iY a)[0]?=some a:=by simp [iY]
theorem aGd(b:Value)(a:Nat)(d:a<61):(iY b)[1+a]?=some (.slice none 0 0):=by unfold iY;rw [Array.getElem?_append_right (by simp)];simp [d]
theorem bE0(a:Option Addr)(b c:Nat):zy.built 136 [(0,.slice a b c)]=some (iY (.slice a b c)):=by kernel_rfl
theorem aOp:(zy.info? 136).map (λa=>(a.zero,a.size))=some (some (.agg xE),62):=by kernel_rfl
theorem bE1(w:World)(e a:Array Value)(d:TypeId):(w.alloc (.cells e d)).setRow w.heap.size a=w.alloc (.cells a d):=by
 unfold World.setRow World.alloc;congr 1
 apply Array.ext
 ·simp
 ·intro b j f;simp only [Array.getElem_modify];by_cases g:b<w.heap.size
  ·rw [aI (by omega)];simp [Array.getElem_push_lt g]
  ·have i:b=w.heap.size:=by simp at f;omega
   subst i;simp
theorem bE2(w:World):(Instr.alloc 136 true (.tuple #[])).run zy w=.ok (.pointer (some ⟨w.heap.size,0,none⟩)) (w.alloc (.cells xE 136)):=by
 have a:=aOp;cases hi:zy.info? 136 with
 |none=>rw [hi] at a;simp at a
 |some i=>
  rw [hi] at a;simp at a;have b:(Value.agg xE).cells=xE:=rfl;simp [Instr.alloc,zeroValue,typeInfo,hi,a.1,newVar,newRow,b]
theorem bE3{r:Array Oper}{s:List Oper}{d j k m:Oper}{e:Act}{o:Exit->Act->World->Prop}(v:d.guard=none)(x:j.guard=none)(y:k.guard=none)(z:m.guard=none)(t n l p:Operand)
  (A:d.op=.move t) (C:j.op=.build 136 #[(0,n)]) (D:k.op=.alloc 136) (E:m.op=.store 136 l p) (b:Option Addr) (a c:Nat) (I:e.eval t=.slice b a c) (H:(e.put d.dst (.slice b a c)).eval n=.slice b a c)
  (J:(((e.put d.dst (.slice b a c)).put j.dst (.agg (iY (.slice b a c)))).put k.dst (.pointer (some ⟨w.heap.size,0,none⟩))).eval l=.pointer (some ⟨w.heap.size,0,none⟩))
  (L:(((e.put d.dst (.slice b a c)).put j.dst (.agg (iY (.slice b a c)))).put k.dst (.pointer (some ⟨w.heap.size,0,none⟩))).eval p=.agg (iY (.slice b a c)))
  (f:wpList zy r o s ((((e.put d.dst (.slice b a c)).put j.dst (.agg (iY (.slice b a c)))).put k.dst (.pointer (some ⟨w.heap.size,0,none⟩))).put m.dst undef) (w.alloc (.cells (iY (.slice b a c)) 136))):wpList zy r o (d::j::k::m::s) e w:=by
 refine wpList_plain v λK hK=>?_
 have u:d.wp zy e w K o:=by
  unfold Oper.wp execOp;simp only [A,I,Sem.run_pure];refine hK _ _ ?_;have q:zy.built 136 ((#[(0,n)]:Array (Nat×Operand)).map λ(g,l)=>(g,(e.put d.dst (.slice b a c)).eval l)).toList=some (iY (.slice b a c)):=by simp only [List.map_toArray,List.map_cons,List.map_nil,H];exact bE0 b a c
  refine wpList_build x 136 #[(0,n)] C (by rw [q];rfl) ?_;rw [q];simp only [Option.getD_some];refine wpList_plain y λN F=>?_
  unfold Oper.wp execOp;simp only [D,Sem.run_bind,bE2,Sem.run_pure,Result.andThen_ok];refine F _ _ ?_;refine wpList_store_row z 136 l p E w.heap.size (iY (.slice b a c)) J L 136 xE (heap_alloc_new w _) ?_ ?_ ?_ ?_
  ·have f:=aOp;cases i:zy.info? 136 with
   |none=>rw [i] at f;simp at f
   |some g=>rw [i] at f;simp at f;simp [f.2,aGc]
  ·simp [aGc,xE]
  ·have G:(iY (.slice b a c)).all (λM=>M.oneCell')=true:=by
    rw [Array.all_eq_true];intro g i;rcases zm g with rfl|hp
    ·have:=aOo (.slice b a c);rw [zr i] at this;simp at this;rw [this];rfl
    ·have:=aGd (.slice b a c) (g-1) (by rw [aGc] at i;omega);rw [show 1+(g-1)=g by omega,zr i] at this;simp at this;rw [this];rfl
   exact G
  ·rw [bE1];exact f
 exact u
theorem cB.new(w:World)(a:Value):cB (w.alloc (.cells (iY a) 136)) w.heap.size w.heap.size a []:=by
 have e:(w.alloc (.cells (iY a) 136)).heap[w.heap.size]?=some (.cells (iY a) 136):=heap_alloc_new w _;have b:∀d,(w.alloc (.cells (iY a) 136)).cell? ⟨w.heap.size,d,none⟩=(iY a)[d]?:=λd=>by unfold World.cell?;simp only [e];rfl
 refine ⟨zw _,⟨_,e⟩,by rw [b];exact aOo a,λf g=>⟨_,by rw [b];exact aGd a f (by omega),rfl⟩,⟨.slice none 0 0,by rw [b];exact aGd a 60 (by omega),zl _ _ _ _⟩,mS.nil⟩
theorem aOq(a:aS c=true):mI c/\c.length<=8:=by simp only [aS,Bool.and_eq_true,bL,decide_eq_true_eq,List.all_eq_true] at a;exact ⟨λd b=>aKl (a.1.2 d b),a.1.1.1⟩
theorem dG.of{b:Option Addr}(h:cH w b c)(t:aAw w b c)(s:c.length<=8)(u:mI c):dG w w.heap.size b c:=by
 refine ⟨s,λa m=>?_⟩;obtain ⟨f,n,e,g,i,j,k,l⟩:=h.cell a m;refine ⟨f,n,e,g,i,zs (zz w _ j),j,k,t a m f n e _ g i k,l,λp x=>?_⟩;have v:=aWe (q:=0) (u c[a] (zx _)).1;have o:0<c[a].2.length:=by
  rcases zm c[a].2.length with h|h
  ·exact absurd (zu h) v
  ·exact h
 obtain ⟨y,z,d,r,_⟩:=l.cell 0 o;rw [x] at d;simp at d;rw [d];exact zz w _ r
theorem bE4(l e:Option Addr)(n g:Nat)(b a:List Lt)(w:World)(i:cH w l b)(j:cH w e a)(F:aAw w l b)(G:aAw w e a)(S:b.length<=n)(D:aS b=true)(E:aS a=true):Calls zy 51 #[.slice l b.length n,.slice e a.length g] w λr Y=>∃k:Bool,r=.returned (.bool k)/\(k=true↔b.length<=a.length/\gN a b [])/\aB w Y:=by
 obtain ⟨s,W⟩:=aOq D;obtain ⟨t,X⟩:=aOq E;have p:=aA s;have q:=aA t;have J:=aA i;have L:=aA j;have Q:=aA F;have R:=aA G;clear D E s t i j F G;go_enter Tryz.func51,Tryz.ntmps51;go_upto_region 1 with (fail);apply wp_region_lit;refine bE3 rfl rfl rfl rfl _ _ _ _ rfl rfl rfl rfl e a.length g rfl (by rfl) (by rfl) (by rfl) ?_;have u:=dG.of J.o Q.o W p.o;have v:=dG.of L.o R.o X q.o;have m:aB w (w.alloc (.cells (iY (.slice e a.length g)) 136)):=(Below.refl _ _).alloc (zw _) _;have o:=aA m;have I:=aA (bDz b.length w.heap.size w.heap.size e g a [] _ l n b (zw _) (cB.new w (.slice e a.length g)) (v.fr (Fr.of_below m)) (u.fr (Fr.of_below m)) S q.o p.o (by simp));clear u v m;by_cases y:b.length<=a.length
 ·have U:(b.length:Int)<=(a.length:Int):=by omega
  go_wp2_with (go_at_call 80;refine (aD I).mono ?_;rintro r a1 ⟨k,Z,rfl,z,x,-,A,C⟩;have N:=aA z;have M:=aA (o.o.trans ((x.below (by simp)).mono (zw _)));have O:=aA A;have P:=aA C;clear z x A C);go_ret;refine ⟨k,rfl,?_,M.o⟩;cases k with
  |true=>
   obtain ⟨T,V⟩:=O.o rfl;refine ⟨λ_=>⟨y,?_⟩,λ_=>rfl⟩;obtain ⟨H,i,j,_⟩:=aWm (d:=a) N.o.ok.look;exact ⟨H,i,T.ext j,V H i j⟩
  |false=>exact ⟨λf=>by simp at f,λf=>absurd f.2 (P.o rfl)⟩
 ·have U:decide ((b.length:Int)<=(a.length:Int))=false:=by rw [decide_eq_false_iff_not];omega
  have a0:(a.length:Int)<(b.length:Int):=by omega
  go_wp2;go_ret;exact ⟨false,rfl,⟨λf=>by simp at f,λf=>absurd f.1 y⟩,o.o⟩
theorem bE5{i:Int->List Nd}(f:Tm i):∀(d:List Nd) (b:Nat),aQ d b=true->aQ (subst i d) b=true:=by
 intro d b g;refine aFf _ b (bB0 d b (λe _ _=>aMh (f e.2)) (aMh g)) λe a=>?_
 unfold subst at a;obtain ⟨k,j,a⟩:=zi.1 a;split at a
 ·exact wY (f k.2) e a
 ·simp at a;subst a;exact wY g e j
theorem aOr(k:aS c=true):gN c c []:=by
 have p:Tm λa=>if 0<=a/\a<60 then [(⟨#[]⟩,a)] else [(⟨#[]⟩,0)]:=by
  intro a;simp only;have j:∀b:Int,0<=b->b<60->aQ [((⟨#[]⟩ : ByteArray),b)] 1=true:=by intro b l m;have e:=pP b;rw [mO];unfold dC;rw [aH e,jN e];simp [aQ,l,m]
  split
  ·rename_i f;exact j a f.1 f.2
  ·exact j 0 (by omega) (by omega)
 refine ⟨_,p,λa r f=>by simp [look] at f,λg i=>?_⟩;have n:=(kV k).term g i;have:subst (λa=>if 0<=a/\a<60 then [(⟨#[]⟩,a)] else [(⟨#[]⟩,0)]) g.2=g.2:=by
  rw [aKg (τ:=λb=>[(⟨#[]⟩,b)]) λq o e=>?_]
  ·exact bAz g.2
  ·have d:=wY n.1 q o;unfold dC at d;rw [aH e] at d;simp at d;rw [aH d]
 rw [this];exact i
theorem bE6{b d e:List Lt}(f:gN d b [])(j:gN e d []):gN e b []:=by obtain ⟨p,l,_,m⟩:=f;obtain ⟨q,n,_,o⟩:=j;refine ⟨λa=>subst q (p a),λa=>bE5 n _ 1 (l a),λa r i=>by simp [look] at i,λk g=>?_⟩;rw [<-bB2];exact o _ (m k g)
