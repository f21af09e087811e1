import Derived.Test.YthjhkgohninpcaaGreatDoorXHp0M
import Derived.Lib.SliceRun
import Derived.Test.YthjhkgohninpcaaGreatDoorUPut1M
import Derived.Test.YthjhkgohninpcaaGreatDoorUSzM
open Array renaming getElem?_eq_some_iff→zx
open List renaming getElem_mem→zz,take_succ_eq_append_getElem→zw,take_append_of_le_length→zv,set_cons_succ→zu,length_append→zs,findIdx_lt_length→zr,take_of_length_le→zq,any_eq_true→zp,length_set→zo,take_take→zn,replicate→zm,getElem?_eq_getElem→zj,append_nil→zg,getElem_of_mem→ze,take_set_of_le→zd,getElem?_map→za,take_length→z1
open Nat renaming le_refl→zy,lt_of_lt_of_le→zl,le_trans→zh,zero_le→z3
open Or renaming inl→z2,inr→z4
open Prod renaming fst→zk
namespace Go.Proofs.YthjhkgohninpcaaGreatDoor
open _root_.Go.Proofs.Tryz renaming prog→zt,underlying53→z0
open Value renaming ownBlock→zf,int→z5
open Go.RowKit Go.Shelf Go.WideMaps
set_option maxHeartbeats 8000000
set_option maxRecDepth 100000
variable{ks:List Nat}{B cap g n tp:Nat}{v:Value}{w w':World}
def eC(B:Nat)(w:World)(v:Value)(ks:List Nat):Prop:=w.ownsRow B 3 1 v ks.length (ks.map λa=>z5 .i64 (a:Nat))
theorem eC.cell{a:Option Addr}(c:eC B w (.slice a n cap) ks){i:Nat}(d:i<ks.length):∃g,a=some ⟨g,0,none⟩/\w.cell? ⟨g,i,none⟩=some (.int .i64 (ks[i]:Nat)):=by
 have e:w.ownsRow B 3 1 (.slice a n cap) ks.length (ks.map λk=>z5 .i64 (k:Nat)):=c;obtain ⟨_,⟨_,b⟩|⟨g,f,j,b,_⟩⟩:=c
 ·omega
 ·simp at b;refine ⟨g,b.1,?_⟩;obtain ⟨rfl,rfl,rfl⟩:=b;rw [e.cellAt i (by simpa using d)];simp [d]
theorem eC.shape(b:eC B w v ks):∃a cap,v=.slice a ks.length cap:=aW b
def pP(p:Nat->Bool)(ks:List Nat):Int:=if ks.findIdx p<ks.length then (ks.findIdx p:Nat) else -1
theorem aMd{p:Nat->Bool}{a:Nat}(d:a<ks.length)(f:p ks[a]=true)(i:∀b (c:b<a),p (ks[b]'(by omega))=false):pP p ks=(a:Nat):=by have e:ks.findIdx p=a:=(List.findIdx_eq d).2 ⟨f,λb c=>by simpa using i b c⟩;unfold pP;rw [e,aJ d]
theorem aFn{p:Nat->Bool}(d:∀a (b:a<ks.length),p ks[a]=false):pP p ks=-1:=by
 have c:ks.findIdx p=ks.length:=List.findIdx_eq_length.2 (λf e=>by
  obtain ⟨a,b,rfl⟩:=ze e;exact d a b)
 unfold pP;rw [c,aI (by omega)]
theorem bAf{p:Nat->Bool}:decide (0<=pP p ks)=ks.any p:=by
 unfold pP;split
 ·rename_i a;rw [show decide (0<=((ks.findIdx p:Nat):Int))=true by simp];rw [zr] at a;exact (zp.2 a).symm
 ·rename_i a;rw [zr] at a;have:ks.any p=false:=by
   rw [Bool.eq_false_iff];exact λb=>a (zp.1 b)
  rw [this];rfl
def aMe(w:World)(c d:Nat)(p:Nat->Bool)(ks:List Nat):Prop:=∀b∈ks,∀a,aC w a->Calls zt 107 #[.int .i64 (b:Nat),.pointer (some ⟨c,0,none⟩),.pointer (some ⟨d,0,none⟩)] a λe w'=>e=.returned (.bool (p b))/\aC a w'
theorem bAg(B A C:Nat)(p:Nat->Bool)(z:Option Addr)(cap:Nat)(ks:List Nat)(w:World)(e:eC B w (.slice z ks.length cap) ks)(P:ks.length<=1000000)(F:aMe w A C p ks):Calls zt 111 #[.slice z ks.length cap,.func (.func 107) #[] #[.pointer (some ⟨A,0,none⟩),.pointer (some ⟨C,0,none⟩)]] w λr w'=>r=.returned (.int .i64 (pP p ks))/\aC w w':=by
 have H:=aA F;have G:=aA e;clear F e;go_enter Tryz.func111,Tryz.ntmps111;go_wp2;go_loopw [8] (λx wr=>∃b:Nat,b<=ks.length/\x=.int .i64 b/\(∀a (d:a<ks.length),a<b->p ks[a]=false)/\aC w wr) (λx _=>ks.length-(intOf x).toNat);case atStart=>exact ⟨0,z3 _,rfl,λa _ e=>by omega,Below.refl _ _⟩
 case round=>
  obtain ⟨b,M,rfl,E,c⟩:=hrel;have o:=aA E;have l:=aA c;clear E;by_cases u:b<ks.length
  ·obtain ⟨g,rfl,s⟩:=G.o.cell u;have I:=aD c s;have O:(b:Int)<(ks.length:Int):=by omega
   obtain ⟨k,j⟩ : ∃k,ks[b]=k:=⟨_,rfl⟩;rw [j] at s I;have i:=aA (H.o k (by rw [<-j];exact zz u) wr c);have y:=aA j;have D:=c.size;clear s j c;cases hp:p k
   ·rw [hp] at i;have q:=aA hp;clear hp;go_wp2_with (first
     |(go_at_call 107;refine (aB i).mono ?_;rintro r J ⟨rfl,f⟩;have m:=aA (l.o.trans (f.mono D));clear f)
     |go_in)
    go_roundw;case rel=>exact ⟨b+1,by omega,by go_num,λa d L=>by
     rcases (show a<b\/a=b by omega) with e|rfl
     ·exact o.o a d e
     ·rw [y.o];exact q.o,m.o⟩
    case measure=>simp [intOf];omega
   ·rw [hp] at i;have q:=aA hp;clear hp;go_wp2_with (first
     |(go_at_call 107;refine (aB i).mono ?_;rintro r J ⟨rfl,f⟩;have m:=aA (l.o.trans (f.mono D));clear f)
     |go_in)
    go_ret;have t:=aMd u (by rw [y.o];exact q.o) (λa d=>o.o a (by omega) d);exact ⟨by rw [t];rfl,m.o⟩
  ·have N:b=ks.length:=by omega
   clear c;go_wp2;go_ret;have t:=aFn (λa d=>o.o a d (by omega));exact ⟨by rw [t];rfl,l.o⟩
theorem bAh(B b c:Nat)(p:Nat->Bool)(a:Option Addr)(cap:Nat)(ks:List Nat)(w:World)(e:eC B w (.slice a ks.length cap) ks)(o:ks.length<=1000000)(j:aMe w b c p ks):Calls zt 106 #[.slice a ks.length cap,.func (.func 107) #[] #[.pointer (some ⟨b,0,none⟩),.pointer (some ⟨c,0,none⟩)]] w λd w'=>d=.returned (.bool (ks.any p))/\aC w w':=by
 have k:=aA (bAg B b c p a cap ks w e o j);have f:=bAf (p:=p) (ks:=ks);clear e j;generalize pP p ks=r at *;generalize ks.any p=q at *;have l:=aA f;clear f;go_enter Tryz.func106,Tryz.ntmps106;go_wp2_with (go_at_call 111;refine (aB k).mono ?_;rintro d s ⟨rfl,i⟩;have m:=aA i;clear i);go_ret;exact ⟨by rw [<-l.o];rfl,m.o⟩
def aMf(w:World)(c d:Nat)(f:Nat->Bool)(ks:List Nat):Prop:=∀b∈ks,∀a,aC w a->Calls zt 67 #[.int .i64 (b:Nat),.pointer (some ⟨c,0,none⟩),.pointer (some ⟨d,0,none⟩)] a λe w'=>e=.returned (.bool (f b))/\aC a w'
theorem aMg(B A C:Nat)(p:Nat->Bool)(z:Option Addr)(cap:Nat)(ks:List Nat)(w:World)(e:eC B w (.slice z ks.length cap) ks)(P:ks.length<=1000000)(F:aMf w A C p ks):Calls zt 111 #[.slice z ks.length cap,.func (.func 67) #[] #[.pointer (some ⟨A,0,none⟩),.pointer (some ⟨C,0,none⟩)]] w λs w'=>s=.returned (.int .i64 (pP p ks))/\aC w w':=by
 have H:=aA F;have G:=aA e;clear F e;go_enter Tryz.func111,Tryz.ntmps111;go_wp2;go_loopw [8] (λi wr=>∃b:Nat,b<=ks.length/\i=.int .i64 b/\(∀a (d:a<ks.length),a<b->p ks[a]=false)/\aC w wr) (λi _=>ks.length-(intOf i).toNat);case atStart=>exact ⟨0,z3 _,rfl,λa _ e=>by omega,Below.refl _ _⟩
 case round=>
  obtain ⟨b,M,rfl,E,c⟩:=hrel;have q:=aA E;have m:=aA c;clear E;by_cases x:b<ks.length
  ·obtain ⟨g,rfl,t⟩:=G.o.cell x;have I:=aD c t;have O:(b:Int)<(ks.length:Int):=by omega
   obtain ⟨l,k⟩ : ∃l,ks[b]=l:=⟨_,rfl⟩;rw [k] at t I;have j:=aA (H.o l (by rw [<-k];exact zz x) wr c);have y:=aA k;have D:=c.size;clear t k c;cases hp:p l
   ·rw [hp] at j;have r:=aA hp;clear hp;go_wp2_with (first
     |(go_at_call 67;refine (aB j).mono ?_;rintro s J ⟨rfl,f⟩;have o:=aA (m.o.trans (f.mono D));clear f)
     |go_in)
    go_roundw;case rel=>exact ⟨b+1,by omega,by go_num,λa d L=>by
     rcases (show a<b\/a=b by omega) with e|rfl
     ·exact q.o a d e
     ·rw [y.o];exact r.o,o.o⟩
    case measure=>simp [intOf];omega
   ·rw [hp] at j;have r:=aA hp;clear hp;go_wp2_with (first
     |(go_at_call 67;refine (aB j).mono ?_;rintro s J ⟨rfl,f⟩;have o:=aA (m.o.trans (f.mono D));clear f)
     |go_in)
    go_ret;have u:=aMd x (by rw [y.o];exact r.o) (λa d=>q.o a (by omega) d);exact ⟨by rw [u];rfl,o.o⟩
  ·have N:b=ks.length:=by omega
   clear c;go_wp2;go_ret;have u:=aFn (λa d=>q.o a d (by omega));exact ⟨by rw [u];rfl,m.o⟩
theorem eC.set(b:eC B w (.slice (some ⟨g,0,none⟩) n cap) ks)(c:n=ks.length)(a x:Nat):eC B (w.setCell ⟨g,a,none⟩ (.int .i64 (x:Nat))) (.slice (some ⟨g,0,none⟩) n cap) (ks.set a x)/\w.grownBy (w.setCell ⟨g,a,none⟩ (.int .i64 (x:Nat))) (some g):=by subst c;have:=sZ (w:=w) b a (.int .i64 (x:Nat));refine ⟨?_,bX w ⟨g,a,none⟩ _⟩;unfold eC;rw [zo,List.map_set];exact this
theorem eC.take(c:eC B w (.slice (some ⟨g,0,none⟩) n cap) ks){m:Nat}(r:m<=ks.length):eC B w (.slice (some ⟨g,0,none⟩) m cap) (ks.take m):=by
 obtain ⟨p,⟨a,_⟩|⟨o,l,b,a,d,e,q,i,k,j⟩⟩:=c
 ·cases a
 ·simp at a;obtain ⟨rfl,_,rfl⟩:=a;have f:(ks.take m).length=m:=by simp;omega
  unfold eC;rw [f];refine ⟨by simp;omega,z4 ⟨g,cap,b,rfl,d,e,by omega,i,k,?_⟩⟩;rw [List.map_take,<-j,zn];congr 1
  omega
theorem eC.cleared{B:Nat}{g n cap:Nat}:∀(m a:Nat) (w:World) (ks:List Nat),eC B w (.slice (some ⟨g,0,none⟩) n cap) ks->n=ks.length->
  ∃b,eC B (w.setCells g a (zm m (.int .i64 0))) (.slice (some ⟨g,0,none⟩) n cap) b/\b.length=ks.length/\b.take a=ks.take a/\w.grownBy (w.setCells g a (zm m (.int .i64 0))) (some g)
 |0,a,w,ks,h,_=>⟨ks,h,rfl,rfl,⟨rfl,rfl,rfl,zy _,λ_ _ _=>rfl⟩⟩
 |m+1,a,w,ks,h,hn=>by
  obtain ⟨c,d⟩:=h.set hn a 0;obtain ⟨b,e,f,i,j⟩:=eC.cleared m (a+1) _ _ c (by rw [zo];exact hn);refine ⟨b,e,by rw [f,zo],?_,lR d j⟩;have:=congrArg (List.take a) i;rw [zn,zn,Nat.min_eq_left (Nat.le_succ a),zd (zy _)] at this;exact this
def bAi(w:World)(g c d:Nat)(p:Nat->Bool)(ks:List Nat):Prop:=∀b∈ks,∀a,w.grownBy a (some g)->Calls zt 67 #[.int .i64 (b:Nat),.pointer (some ⟨c,0,none⟩),.pointer (some ⟨d,0,none⟩)] a λe w'=>e=.returned (.bool (p b))/\aC a w'
theorem aMh{p:Nat->Bool}{a:Nat}(c:a<ks.length):(ks.take (a+1)).filter (λb=>!p b)=(ks.take a).filter (λb=>!p b)++if p ks[a] then [] else [ks[a]]:=by rw [zw c,List.filter_append];cases h:p ks[a]<;>simp [h]
theorem bAj(B c d:Nat)(b:Nat->Bool)(a:Option Addr)(cap:Nat)(ks:List Nat)(w:World)(j:eC B w (.slice a ks.length cap) ks)(q:ks.length<=1000000)(m:aMf w c d b ks)(e:ks.any b=false):Calls zt 66 #[.slice a ks.length cap,.func (.func 67) #[] #[.pointer (some ⟨c,0,none⟩),.pointer (some ⟨d,0,none⟩)]] w λi w'=>i=.returned (.slice a ks.length cap)/\aC w w':=by
 have f:=aA (aMg B c d b a cap ks w j q m);have l:pP b ks=-1:=aFn (λs p=>by
  rw [Bool.eq_false_iff];intro r;rw [zp.2 ⟨_,zz p,r⟩] at e;cases e)
 rw [l] at f;clear j m e l;go_enter Tryz.func66,Tryz.ntmps66;go_wp2_with (first
  |(go_at_call 111;refine (aB f).mono ?_;rintro i t ⟨rfl,k⟩;have o:=aA k;clear k)
  |go_in)
 go_ret;exact ⟨rfl,o.o⟩
theorem bAk(B H I:Nat)(d:Nat->Bool)(g cap:Nat)(ks:List Nat)(w:World)(y:eC B w (.slice (some ⟨g,0,none⟩) ks.length cap) ks)(d1:ks.length<=1000000)(N:bAi w g H I d ks)(b1:ks.any d=true):Calls zt 66 #[.slice (some ⟨g,0,none⟩) ks.length cap,.func (.func 67) #[] #[.pointer (some ⟨H,0,none⟩),.pointer (some ⟨I,0,none⟩)]] w λb w'=>b=.returned (.slice (some ⟨g,0,none⟩) (ks.filter λe=>!d e).length cap)/\eC B w' (.slice (some ⟨g,0,none⟩) (ks.filter λe=>!d e).length cap) (ks.filter λe=>!d e)/\w.grownBy w' (some g):=by
 have T:=aA (aMg B H I d _ cap ks w y d1 (λe d0 t P=>N e d0 t (iA P)));have L:ks.findIdx d<ks.length:=zr.2 (zp.1 b1);obtain ⟨f,D⟩ : ∃f,ks.findIdx d=f:=⟨_,rfl⟩;have a4:pP d ks=(f:Nat):=by unfold pP;rw [aJ L,D]
 rw [D] at L;have a9:d ks[f]=true:=by have:=List.findIdx_getElem (xs:=ks) (p:=d) (w:=by omega);simpa [D] using this
 have a3:(ks.take f).filter (λe=>!d e)=ks.take f:=by
  rw [List.filter_eq_self];intro m p;obtain ⟨c,a7,rfl⟩:=ze p;have e5:c<f:=by simp at a7;omega
  have:=List.not_of_lt_findIdx (xs:=ks) (p:=d) (i:=c) (by omega);rw [List.getElem_take];simpa using this
 have b0:(ks.take (f+1)).filter (λe=>!d e)=ks.take f:=by rw [aMh L,a3,aJ a9,zg]
 rw [a4] at T;have d9:ks.length<=cap:=by
  obtain ⟨_,⟨b,_⟩|⟨r,Z,a0,b,_,_,A,_⟩⟩:=y
  ·cases b
  ·simp at b;omega
 have c1:=aA b0;have b8:=aA y;have c0:=aA N;have e8:((f:Int)==-1)=false:=by rw [beq_eq_false_iff_ne];omega
 clear y N b1 a4 D a9 a3 b0;go_enter Tryz.func66,Tryz.ntmps66;go_wp2_with (first
  |(go_at_call 111;refine (aB T).mono ?_;rintro b f0 ⟨rfl,a2⟩;have U:=aA a2;clear a2)
  |go_in)
 have e7:(f:Int)<(ks.length:Int):=by omega
 go_loopw [5,6] (λd3 Q wr=>∃(a c:Nat) (i:List Nat),d3=.int .i64 a/\Q=.int .i64 c/\c<=ks.length/\a<c/\i.length=ks.length/\eC B wr (.slice (some ⟨g,0,none⟩) ks.length cap) i/\i.take a=(ks.take c).filter (λe=>!d e)/\(∀k,c<=k->i[k]?=ks[k]?)/\w.grownBy wr (some g)) (λ_ Q _=>ks.length-(intOf Q).toNat);case atStart=>exact ⟨f,f+1,ks,rfl,by simp,by omega,by omega,rfl,bB b8.o U.o (zy _),c1.o.symm,λ_ _=>rfl,iA U.o⟩
 case round=>
  obtain ⟨a,c,i,rfl,rfl,a7,e3,z,l,j,E,s⟩:=hrel;by_cases M:c<ks.length
  ·obtain ⟨m,p⟩ : ∃m,ks[c]=m:=⟨_,rfl⟩;have a1:i[c]'(by omega)=m:=by
    have:=E c (zy _);rw [zj (by omega),zj M,p] at this;exact Option.some.inj this
   obtain ⟨r,b,A⟩:=l.cell (i:=c) (by omega);cases b;rw [a1] at A;obtain ⟨b5,J⟩ : ∃b5:Nat,wr.cell? ⟨g,a,none⟩=some (.int .i64 (b5:Nat)):=by obtain ⟨r,b,J⟩:=l.cell (i:=a) (by omega);cases b;exact ⟨_,J⟩
   have u:=aA (c0.o m (by rw [<-p];exact zz M) wr s);have O:=aMh (p:=d) M;rw [p] at O;have c9:(c:Int)<(ks.length:Int):=by omega
   have e2:(a:Int)<(ks.length:Int):=by omega
   have V:=aA l;have Y:=aA j;have W:=aA E;have x:=aA s;have X:=aA O;have G:=aA z;have a6:∀t,wr.grownBy t none->t.frozen? ⟨g,a,none⟩=false:=λt P=>by
    obtain ⟨_,⟨b,_⟩|⟨r,Z,a0,b,_,C,_⟩⟩:=l
    ·cases b
    ·simp at b;obtain ⟨rfl,_⟩:=b;have:=P.block g (zx.1 C).1 (by simp);simp [World.frozen?,this,C]
   have b7:=aA a6;clear l j E s O a1 p z a6;cases hp:d m
   ·rw [hp] at u;have F:=aA hp;clear hp;go_wp2_with (first
     |(go_at_call 67;refine (aB u).mono ?_;rintro b S ⟨rfl,o⟩;have d5:=aD o J;have d6:=b7.o S (iA o);have q:=aA o;clear o)
     |go_in)
    go_roundw;case rel=>
     have c4:eC B S (.slice (some ⟨g,0,none⟩) ks.length cap) i:=bB V.o q.o (zy _);obtain ⟨c5,c7⟩:=c4.set G.o.symm a m;have c6:=G.o;refine ⟨a+1,c+1,i.set a m,by go_num,by go_num,by omega,by omega,by rw [zo];exact c6,c5,?_,λk j=>?_,lR x.o (lR (iA q.o) c7)⟩
     ·rw [X.o,F.o,<-Y.o,zw (by simp;omega),zd (zy _)];simp
     ·rw [List.getElem?_set_ne (by omega)];exact W.o k (by omega)
    case measure=>simp [intOf];omega
   ·rw [hp] at u;have F:=aA hp;clear hp;go_wp2_with (first
     |(go_at_call 67;refine (aB u).mono ?_;rintro b S ⟨rfl,o⟩;have q:=aA o;clear o)
     |go_in)
    go_roundw;case rel=>
     refine ⟨a,c+1,i,rfl,by go_num,by omega,by omega,G.o,bB V.o q.o (zy _),?_,λk j=>W.o k (by omega),lR x.o (iA q.o)⟩;rw [X.o,F.o,<-Y.o];simp
    case measure=>simp [intOf];omega
  ·have c8:c=ks.length:=by omega
   rw [c8,z1] at j;have a8:(ks.filter λe=>!d e).length=a:=by rw [<-j,List.length_take];omega
   have e0:∀R,(Builtin.clear_ #[25] R #[.slice (some ⟨g,a,none⟩) (ks.length-a) (cap-a)]).run zt wr=.ok (.tuple #[]) (wr.setCells g a (zm (ks.length-a) (.int .i64 0))):=λR=>
    Lib.run_clear_slice wr _ 3 R (.int .i64 0) Tryz.underlying25 (λw=>by obtain ⟨e9,c2,c3,d7,d8⟩:=info_parts rR;simp [zeroValue,typeInfo,c2,c3]) rfl rfl g a _ _ (by omega) (λk j=>by
     obtain ⟨r,b,A⟩:=l.cell (i:=a+k) (by omega);cases b;rw [A];rfl) (λk j=>by
     obtain ⟨_,⟨b,_⟩|⟨r,Z,a0,b,_,C,_⟩⟩:=l
     ·cases b
     ·simp at b;obtain ⟨rfl,_⟩:=b;simp [World.frozen?,C])
   obtain ⟨d4,b2,d2,b3,b4⟩:=eC.cleared (ks.length-a) a wr i l z.symm;have a5:eC B (wr.setCells g a (zm (ks.length-a) (.int .i64 0))) (.slice (some ⟨g,0,none⟩) a cap) (ks.filter λe=>!d e):=by have:=b2.take (m:=a) (by omega);rw [b3,j] at this;exact this
   have b6:=aA a5;have x:=aA (lR s b4);have b9:=aA a8;have c9:¬(c:Int)<(ks.length:Int):=by omega
   have e4:(a:Int)<=(ks.length:Int):=by omega
   have e1:(a:Int)<=(cap:Int):=by omega
   have e6:(ks.length:Int)<=(cap:Int):=by omega
   clear l j E s b2 d2 b3 b4 a5 z a8;go_wp2;go_ret;rw [b9.o];exact ⟨rfl,b6.o,x.o⟩
theorem bAl:(zt.info? 206).map (λa=>(a.zero,a.size,a.bytes))=some (some (.agg #[.string ⟨#[]⟩,.int .i64 0,.slice none 0 0,.int .i64 0]),4,56):=by kernel_rfl
theorem bAm(b:Tb)(a:Rw×Value):fT (b++[a])=fT b++[.string a.1.node.1,.int .i64 a.1.node.2,a.2,.int .i64 a.1.cls]:=by simp [fT]
structure fG(w w':World)(tp:Nat)(v:Value):Prop where
 os:w'.os=w.os
 tape:w'.tape=w.tape
 output:w'.output=w.output
 size:w.heap.size<=w'.heap.size
 block:∀k,k<w.heap.size->k≠tp->v.ownBlock≠some k->w'.heap[k]?=w.heap[k]?
theorem fG.refl(w:World)(tp:Nat)(v:Value):fG w w tp v:=⟨rfl,rfl,rfl,zy _,λ_ _ _ _=>rfl⟩
theorem fG.trans{w w1 l:World}{tp:Nat}{v j:Value}(a:fG w w1 tp v)(b:eU w v j)(k:fG w1 l tp j):fG w l tp v:=
 ⟨k.os.trans a.os,k.tape.trans a.tape,k.output.trans a.output,zh a.size k.size,λi d e f=>by
  rw [k.block i (zl d a.size) e (λc=>by
   rcases b with b|⟨g,b,m⟩
   ·exact f (b.symm.trans c)
   ·rw [b] at c;simp at c;omega),a.block i d e f]⟩
theorem fG.grown(a:w.grownBy w' v.ownBlock):fG w w' tp v:=⟨a.os,a.tape,a.output,a.size,λk c _ d=>a.block k c (λb=>d b.symm)⟩
theorem fG.below(a:aC w w'):fG w w' tp v:=⟨a.os,a.tape,a.output,a.size,λk b _ _=>a.block k b⟩
theorem fG.set(a:fG w w' tp v)(j:Nat)(x:Value):fG w (w'.setCell ⟨tp,j,none⟩ x) tp v:=by have b:=bX w' ⟨tp,j,none⟩ x;exact ⟨b.os.trans a.os,b.tape.trans a.tape,b.output.trans a.output,zh a.size b.size,λk c d e=>by rw [b.block k (zl c a.size) (by simpa using d),a.block k c d e]⟩
theorem fG.own{x:Value}{a:TypeId}{d:Nat}{e:List Value}(i:fG w w' tp v)(l:w.ownsRow B a d x n e)(j:x.ownBlock≠some tp)(h2:x.ownBlock=none\/x.ownBlock≠v.ownBlock):w'.ownsRow B a d x n e:=by
 obtain ⟨c,⟨rfl,o⟩|⟨g,cap,f,rfl,k,b,m⟩⟩:=l
 ·exact ⟨c,z2 ⟨rfl,o⟩⟩
 ·refine ⟨c,z4 ⟨g,cap,f,rfl,k,?_,m⟩⟩;rw [i.block g (zx.1 b).1 ?_ ?_,b]
  ·rintro rfl;exact j rfl
  ·intro a;rcases h2 with h2|h2
   ·simp [zf] at h2
   ·exact h2 (by rw [a];rfl)
theorem fG.low(a:fG w w' tp v)(f:B<=tp)(c:∀k,v.ownBlock=some k->B<=k)(d:B<=w.heap.size):Below B w w':=
 ⟨a.os,a.tape,a.output,a.size,λk e=>a.block k (by omega) (by omega) (λb=>by have:=c k b;omega)⟩
theorem cU.grow{c:World}{b:Value}{d:Tb}(a:cU w B tp v d){n:Nd}{i:Nat}(f:w.grownBy c v.ownBlock)(m:c.ownsRow B 206 4 b (d.length+1) (fT d++[.string n.1,.int .i64 n.2,.slice none 0 0,.int .i64 i])):cU (c.setCell ⟨tp,0,none⟩ b) B tp b (d++[(⟨n,i,[]⟩,.slice none 0 0)])/\fG w (c.setCell ⟨tp,0,none⟩ b) tp v:=by
 have e:c.heap[tp]?=some (.cells #[v] 181):=by rw [f.block tp (zx.1 a.box).1 (λk=>a.ne k.symm),a.box]
 have l:(c.setCell ⟨tp,0,none⟩ b).heap[tp]?=some (.cells #[b] 181):=by unfold World.setCell;simp [Array.getElem?_modify,e]
 refine ⟨⟨l,a.high,?_,?_⟩,(fG.grown f).set 0 b⟩
 ·rw [zs,bAm];exact kI m e (by decide)
 ·intro j hp;rcases List.mem_append.1 hp with hp|hp
  ·exact kI (dW (a.parts j hp) f (bW (a.parts j hp) a.row (by decide))) e (by decide)
  ·simp at hp;subst hp;exact World.ownsRow_nil _ _ _ _
theorem bAn(b:Tb):∀(a:Nat) (c:a<b.length) (e:List Nat) (d:Value),(fT b).set (a*4+2) d=fT (b.set a ({b[a].1 with parts:=e},d)):=by
 induction b with
 |nil=>intro a c;simp at c
 |cons x r ih=>
  intro a c e d;cases a with
  |zero=>rfl
  |succ a=>
   have:=ih a (by simpa using c) e d;rw [show (a+1)*4+2=a*4+2+1+1+1+1 by omega,zu,wO,wO,zu,zu,zu,zu,this];rfl
theorem cU.setParts{a:Tb}(c:cU w B tp (.slice (some ⟨g,0,none⟩) a.length cap) a)(b:Nat)(r:b<a.length)(f:List Nat)(d:Value)(s:w.ownsRow B 3 1 d f.length (jP f)):cU (w.setCell ⟨g,b*4+2,none⟩ d) B tp (.slice (some ⟨g,0,none⟩) a.length cap) (a.set b ({a[b].1 with parts:=f},d)):=by
 have j:=c.ne;simp [zf] at j;have l:∀{o:Value} {n:Nat} {p:List Value},w.ownsRow B 3 1 o n p->(w.setCell ⟨g,b*4+2,none⟩ d).ownsRow B 3 1 o n p:=λk=>
  rX k (by
   rcases bW k c.row (by decide) with e|e
   ·rw [e];simp
   ·exact λq=>e (by rw [<-q];rfl)) _
 refine ⟨?_,c.high,?_,?_⟩
 ·rw [heap_setCell_other _ _ _ _ (by simpa using λe=>j e.symm),c.box]
 ·have m:=(c.row.stored (b*4+2) d).1;rw [bAn a b r f d] at m;simpa using m
 ·intro t i;rcases List.mem_or_eq_of_mem_set i with i|rfl
  ·exact l (c.parts t i)
  ·exact l s
theorem bAo(b:Tb)(a:Nat)(e:a<b.length)(d:List Nat)(i:Value):(b.set a ({b[a].1 with parts:=d},i)).map zk=Go.Proofs.YthjhkgohninpcaaGreatDoor.setParts (b.map zk) a d:=by
 apply List.ext_getElem?;intro f;rw [uZ,za,za,List.getElem?_set];by_cases c:f=a
 ·subst c;simp [e]
 ·rw [aI (λj=>c j.symm),aI c]
structure mW(w:World)(B tp:Nat)(v:Value)(P:Tb)(up:Int)(s:List Nd)(k:Nat)(s':List Nd)(w':World)(v':Value)(P':Tb):Prop where
 tab:cU w' B tp v' P'
 put:fK up (P.map zk) 1 s (P'.map zk) [k] s'
 far:fG w w' tp v
 moved:eU w v v'
 old:∀p∈P',(∃q∈P,p.2=q.2)\/p.2.ownBlock=none\/∃g,p.2.ownBlock=some g/\w.heap.size<=g
 len:P'.length+s'.length<=P.length+s.length
structure uF(w:World)(B tp:Nat)(v:Value)(P0:Tb)(up:Int)(s:List Nd)(j:Nat)(s':List Nd)(pv:Value)(ps:List Nat)(w':World)(v':Value)(P':Tb):Prop where
 tab:cU w' B tp v' P'
 put:fK up (P0.map zk) j s (P'.map zk) ps s'
 far:fG w w' tp v
 moved:eU w v v'
 old:∀p∈P',(∃q∈P0,p.2=q.2)\/p.2.ownBlock=none\/∃g,p.2.ownBlock=some g/\w.heap.size<=g
 len:P'.length+s'.length<=P0.length+s.length
 own:w'.ownsRow w.heap.size 3 1 pv ps.length (jP ps)
 apart:∀p∈P',p.2.ownBlock=none\/p.2.ownBlock≠pv.ownBlock
section
variable {w w':World}{B tp:Nat}{v v' pv:Value}{P0 P':Tb}{up:Int}{s s':List Nd}{j:Nat}{ps:List Nat}
theorem uF.start(b:cU w B tp v P0):uF w B tp v P0 up s 0 s (.slice none 0 0) [] w v P0:=
 ⟨b,fK.nil _ _,fG.refl _ _ _,eU.refl _ _,λa c=>z2 ⟨a,c,rfl⟩,zy _,World.ownsRow_nil _ _ _ _,λa _=>by
  cases hb:a.2.ownBlock with
  |none=>exact z2 rfl
  |some g=>exact z4 (by simp [zf])⟩
theorem cU.grown(a:cU w B tp v P0){f:World}{c:Option Nat}(d:w.grownBy f c)(k:c≠some tp)(l:v.ownBlock=none\/v.ownBlock≠c)(m:∀b∈P0,b.2.ownBlock=none\/b.2.ownBlock≠c):cU f B tp v P0:=
 ⟨by rw [d.block tp (zx.1 a.box).1 (λi=>k i.symm),a.box],a.high,dW a.row d l,λb e=>dW (a.parts b e) d (m b e)⟩
theorem fK.len(a:fK up (P0.map zk) j s (P'.map zk) ps s'):P0.length<=P'.length:=by obtain ⟨g,b⟩:=a.inv;have:=b.more;simpa using this
theorem uF.next(a:uF w B tp v P0 up s j s' pv ps w' v' P'){k:Nat}{z:List Nd}{d w6:World}{u pv6:Value}{m:Tb}{X:Obj}(b:mW w' B tp v' P' up s' k z d u m):d.ownsRow w.heap.size 3 1 pv ps.length (jP ps)/\((d.alloc X).grownBy w6 pv.ownBlock->w6.ownsRow w.heap.size 3 1 pv6 (ps.length+1) (jP ps++[.int .i64 k])->eU (d.alloc X) pv pv6->uF w B tp v P0 up s (j+1) z pv6 (ps++[k]) w6 u m):=by
 have F:pv.ownBlock≠some tp:=dY a.own a.tab.box (by decide);have G:pv.ownBlock=none\/pv.ownBlock≠v'.ownBlock:=bW a.own a.tab.row (by decide);have p:=b.far.own a.own F G;refine ⟨p,λf E D=>?_⟩;have A:aC d (d.alloc X):=(Below.refl _ _).alloc (zy _) X;have N:(d.alloc X).heap.size=d.heap.size+1:=by simp
 have O:=b.far.size;have I:=a.far.size;have x:∀c∈m,c.2.ownBlock=none\/c.2.ownBlock≠pv.ownBlock:=by
  intro c i;rcases b.old c i with ⟨t,q,e⟩|e|⟨g,e,y⟩
  ·rw [e];exact a.apart t q
  ·exact z2 e
  ·right;intro o;rw [e] at o;have:=(bL a.own g o.symm).2;omega
 have H:cU w6 B tp u m:=(b.tab.below A).grown f (dY p b.tab.box (by decide)) (bW b.tab.row p (by decide)) x;have C:fG w w6 tp v:=by have l:=a.far.trans a.moved b.far;refine ⟨f.os.trans l.os,f.tape.trans l.tape,f.output.trans l.output,by have:=f.size;have:=l.size;omega,λr J L M=>?_⟩;rw [f.block r (by omega) (λe=>by have:=(bL a.own r e.symm).1;omega),heap_alloc_old _ _ (by omega),l.block r J L M]
 refine ⟨H,a.put.append b.put,C,a.moved.trans b.moved I,?_,by have:=a.len;have:=b.len;omega,by rw [zs,show jP (ps++[k])=jP ps++[z5 .i64 k] from List.map_append ..];exact E,?_⟩
 ·intro c i;rcases b.old c i with ⟨t,q,e⟩|e|⟨g,e,y⟩
  ·rw [e];exact a.old t q
  ·exact z4 (z2 e)
  ·exact z4 (z4 ⟨g,e,by omega⟩)
 ·intro c i;rcases D with e|⟨g,e,y⟩
  ·rw [e];exact x c i
  ·rw [e];cases hb:c.2.ownBlock with
   |none=>exact z2 rfl
   |some g'=>
    right;intro o;simp at o;have:=(bL (b.tab.parts c i) g' hb).2;omega
end
theorem fG.setV{wr:World}{i:Nat}{k l:Value}(b:fG w wr tp v)(o:eU w v k)(f:k.ownBlock=some g):fG w (wr.setCell ⟨g,i,none⟩ l) tp v:=by
 have c:=bX wr ⟨g,i,none⟩ l;refine ⟨c.os.trans b.os,c.tape.trans b.tape,c.output.trans b.output,zh b.size c.size,λj d m e=>?_⟩;rw [c.block j (zl d b.size) (λa=>?_),b.block j d m e];simp at a;subst a;rcases o with a|⟨p,a,q⟩
 ·exact e (by rw [<-a,f])
 ·rw [f] at a;simp at a;omega
theorem dO.lowB{a:Option Addr}{j:List Nd}(c:dO w a j)(o:∀p,a=some p->p.block<B)(f:Below B w w'):dO w' a j:=
 ⟨c.few,c.short,λd m=>by
  obtain ⟨b,e,rfl,k,l⟩:=c.cell d m;have i:=o _ rfl;exact ⟨b,e,rfl,(f.cell (p:=⟨b,e+d*2,none⟩) i).trans k,(f.cell (p:=⟨b,e+d*2+1,none⟩) i).trans l⟩⟩
def pQ(a:Tb)(b:Nat):Nat:=if h:b<a.length then a[b].1.cls else a.length+b
theorem aFo{c:Tb}(i:hH c)(e f:Nat):pQ c e=pQ c f↔bI c e f:=by
 unfold pQ;by_cases a:e<c.length<;>by_cases b:f<c.length
 ·rw [dif_pos a,dif_pos b];exact (bI.iff a b).symm
 ·rw [dif_pos a,dif_neg b];constructor
  ·intro d;have:=i.cls e a;omega
  ·rintro (d|⟨_,h,_⟩)
   ·omega
   ·exact absurd h b
 ·rw [dif_neg a,dif_pos b];constructor
  ·intro d;have:=i.cls f b;omega
  ·rintro (d|⟨h,_,_⟩)
   ·omega
   ·exact absurd h a
 ·rw [dif_neg a,dif_neg b];constructor
  ·intro d;exact z2 (by omega)
  ·rintro (d|⟨h,_,_⟩)
   ·omega
   ·exact absurd h a
theorem bAp(a b:List Nd):(a.take 501++b).take 501=(a++b).take 501:=by
 by_cases c:a.length<=501
 ·rw [zq c]
 ·have d:(a.take 501).length=501:=by simp;omega
  rw [zv (by omega),zv (by omega),zn];simp
theorem aMi(a:List Nd)(b:a.length<=501):a.take 501=a:=zq b
theorem bAq{a:Tb}{b:Nat}{f:List Nd}(e:b<a.length)(i:aS (bC a) (bI a) (pQ a) [b] f)(j:∀c (l:c<a.length),¬(a[c].1.cls=a[b].1.cls/\aM a[c].1.node=false)):f=[(⟨#[]⟩,(a[b].1.cls:Int))]:=by
 cases i with
 |var h1 h2=>
  cases h2;unfold pQ;rw [dif_pos e]
 |name h1 h2 h3=>
  obtain ⟨d,k⟩:=qA h2;exact absurd ⟨((bI.iff e d).1 h1).symm,k⟩ (j _ d)
theorem bAr{a:Tb}(p:hH a)(c:fH (bC a) (bI a))(l:eS (bC a) (bI a)){i b:Nat}{r:List Nd}(y:i<a.length)(d:b<a.length)(t:a[b].1.cls=a[i].1.cls)(z:aM a[b].1.node=false)(u:aS (bC a) (bI a) (pQ a) [i] r):∃f,r=a[b].1.node::f/\aS (bC a) (bI a) (pQ a) a[b].1.parts f:=by
 have j:(bC a).named b:=by show aM ((bC a).lab b)=false;rw [nK a b d];exact z
 have q:bI a i b:=(bI.iff y d).2 t.symm;cases u with
 |var h1 h2=>exact absurd j (h1 b q)
 |@name _ e _ f h1 h2 h3=>
  have m:bI a e b:=c.trans _ _ _ (c.symm _ _ h1) q;have s:=wN c l p.arity m h2 j;rw [zg] at h3;have k:=h3.same c (λA e x=>(aFo p A e).2 x) _ s;rw [qY a b d] at k;have o:=l e b m h2 j;rw [nK a b d] at o;exact ⟨f,by rw [o],k⟩
theorem aMj{i:World}{d b:Nat}{o:List Value}{e:TypeId}{m:Nat}{c:Obj}(j:w.ownsRow b e m v n o)(k:b<=w.heap.size)(a:((w.drewN d).alloc c).grownBy i v.ownBlock):Below b w i:=by have l:Below b w ((w.drewN d).alloc c):=(((aL ⟨d,rfl⟩).alloc (zy _) c:aC w ((w.drewN d).alloc c))).mono k;refine l.trans ⟨a.os,a.tape,a.output,a.size,λf p=>a.block f (by simp;omega) (λe=>?_)⟩;have:=(bL j f e.symm).1;omega
theorem aMk(w:World)(c d:Value)(f:TypeId)(n:Nat)(e:n=w.heap.size):∀j b,[c,d][j]?=some b->(w.alloc (.cells #[c,d] f)).cell? ⟨n,j,none⟩=some b:=by
 subst e;intro j b a;match j,a with
 |0,a=>simp at a;subst a;simp
 |1,a=>simp at a;subst a;simp
 |j+2,a=>simp at a
theorem bAs(B tp:Nat)(v:Value)(a:Tb)(J:hH a)(a7:fH (bC a) (bI a))(b2:eS (bC a) (bI a))(f4:a.length<=1000000)(g1:∀g4∈a,g4.1.parts.length<=1000000)(W:World)(E:cU W B tp v a)(e:Nat)(l:W.heap.size<=e):∀(n j:Nat) (q c:List Nd) (L:Value) (w:World),q.length<n->aS (bC a) (bI a) (pQ a) [j] q->j<a.length->Below e W w->e<=w.heap.size->lI w e L c->c.length<=501->
  Calls zt 144 #[.pointer (some ⟨tp,0,none⟩),L,.int .i64 j] w λx w'=>∃c7,x=.returned c7/\lI w' e c7 ((c++q).take 501)/\Below e w w':=by
 obtain ⟨c5,a8,a9,b0,b1⟩:=info_parts nB;obtain ⟨g8,g9,rfl,H⟩:=E.shape;intro n;induction n with
 |zero=>intro j q c L w f9;omega
 |succ n ih=>
  intro j q c L w f9 b6 V F R d g0;have z:cU w B tp (.slice g8 a.length g9) a:=E.below (F.mono l);obtain ⟨i2,i3,rfl⟩:=aW d;have f0:=aA ih;clear ih;by_cases h5:500<c.length
  ·have f3:(500:Int)<(c.length:Int):=by omega
   have u:=aA d;clear z H d;go_enter Tryz.func144,Tryz.ntmps144;go_wp2;go_ret;have x:(c++q).take 501=c:=by rw [zv (by omega),zq g0]
   exact ⟨_,rfl,by rw [x];exact u.o,Below.refl _ _⟩
  ·have f3:¬(500:Int)<(c.length:Int):=by omega
   have b5:=z.cell;obtain ⟨g,rfl,r,s,m,t⟩:=H j V;have f1:=Below.at' F l t;clear r s m t;have i0:(j:Int)<(a.length:Int):=by omega
   have Y:=aA (aHz B tp _ a a[j].1.cls w z f4);have a0:=aA b6;have Z:=aA H;have u:=aA d;have C:=aA F;have h0:=aA z;have e6:=aA (show a[j].1.cls=a[j].1.cls from rfl);clear z H d F b6;generalize hcls:a[j].1.cls=cl at *;have N:=aA hcls;clear hcls e6;go_enter Tryz.func144,Tryz.ntmps144;go_upto_region 5 with (first
    |(go_at_call 158;refine (aB Y).mono ?_;rintro x X ⟨i4,rfl,f5,D,rfl⟩)
    |go_in)
   clear Y;rcases f5 with ⟨rfl,c2⟩|⟨f,rfl,I,b8,b9⟩
   ·have a2:=aA (bAq V a0.o (by rw [N.o];exact c2));rw [N.o] at a2;clear c2;have d:=u.o;go_wp2_with (first
     |(at_builtin;refine wpList_append_own _ rfl (.tmp 27) (.tmp 30) 53 rfl e 106 c5 (.agg #[.string ⟨#[]⟩,.int .i64 0]) 2 24 z0 a8 a9 b0 b1 rfl (by decide) _ _ _ rfl ((aG6 d D).alloc _) ⟨w.heap.size,0,none⟩ 1 1 [.string ⟨#[]⟩,.int .i64 cl] rfl rfl ?d1 ?d2 ?d3 ?d4 ?d5 ?_)
     |go_in)
    case d1=>first|exact fS _ _ _ _ _ (by first|rfl|simp)|exact aMk (w.drewN D) _ _ 106 w.heap.size rfl
    case d2=>first|exact pU _ _|exact ⟨rfl,rfl⟩
    case d3=>unfold maxLen;omega
    case d4=>omega
    case d5=>first|omega|(simp;omega)
    intro g7 X y i _;clear d;have O:=aA y;have e0:=aA i;clear y i;go_wp2;go_ret;refine ⟨_,rfl,?_,?_⟩
    ·have:=O.o;unfold lI;rw [a2.o,aMi _ (by simp;omega),zs,pT];exact this
    ·exact aMj u.o R e0.o
   ·obtain ⟨c6,c1,b7⟩:=bAr J a7 b2 V I (by rw [N.o];exact b8) b9 a0.o;obtain ⟨k,c8,c9,d0⟩:=aKs a7 b2 J.arity (λA g2 f6=>(aFo J A g2).2 f6) b7;obtain ⟨f2,i,r,s,m,t⟩:=Z.o f I;simp at i;subst i;have a5:=Below.at' C.o l r;have a6:=Below.at' C.o l s;have Q:=Below.at' C.o l m;clear r s m t;have h7:(f:Int)<(a.length:Int):=by omega
    have h6:¬(f:Int)<0:=by omega
    have e4:=aA (E.parts a[f] (zz _));have h9:=g1 a[f] (zz _);have e3:=aA (J.parts f I);clear b8 b9 b7;have a3:=aA c1;have e7:=aA c8;have e8:=aA c9;have e9:=aA d0;clear c1 c8 c9 d0;generalize a[f].1.parts=pl at *;generalize hq2:a[f].2=pv at *;generalize a[f].1.node=nd at *;obtain ⟨o,p⟩:=nd;simp only at a5 a6;obtain ⟨g5,g6,rfl,c3⟩:=tN e4.o;have e2:=aA c3;have e5:=aA hq2;clear c3 hq2;have d:=u.o;go_wp2_with (first
     |(at_builtin;refine wpList_append_own _ rfl (.tmp 32) (.tmp 41) 53 rfl e 106 c5 (.agg #[.string ⟨#[]⟩,.int .i64 0]) 2 24 z0 a8 a9 b0 b1 rfl (by decide) _ _ _ rfl ((aG6 d D).alloc _) ⟨w.heap.size,0,none⟩ 1 1 [.string o,.int .i64 p] rfl rfl ?d1 ?d2 ?d3 ?d4 ?d5 ?_)
     |go_in)
    case d1=>first|exact fS _ _ _ _ _ (by first|rfl|simp)|exact aMk (w.drewN D) _ _ 106 w.heap.size rfl
    case d2=>first|exact pU _ _|exact ⟨rfl,rfl⟩
    case d3=>unfold maxLen;omega
    case d4=>omega
    case d5=>first|omega|(simp;omega)
    intro g7 X y i _;have b3:Below e w X:=aMj d R i;clear d a5 a6 Q f1 b5;have O:=aA y;have d7:=aA b3;clear y i b3;go_wp2;go_loopw [1,9] (λg3 A wr=>∃b:Nat,b<=pl.length/\A=.int .i64 b/\lI wr e g3 ((c++[(o,p)]++((pl.take b).map k).flatten).take 501)/\Below e w wr) (λ_ A _=>pl.length-(intOf A).toNat);case atStart=>
     refine ⟨0,z3 _,rfl,?_,d7.o⟩;unfold lI;rw [List.take_zero,List.map_nil,List.flatten_nil,zg,aMi _ (by simp;omega),zs,pT];exact O.o
    case round=>
     obtain ⟨b,h8,rfl,U,S⟩:=hrel;have G:=C.o.trans S;have c4:cU wr B tp _ a:=E.below (G.mono l);have b5:=c4.cell;obtain ⟨f2,i,r,s,m,t⟩:=Z.o f I;simp at i;subst i;have Q:=Below.at' G l m;rw [show (a[f].2:Value)=.slice g5 pl.length g6 from e5.o] at Q;clear r s m t c4;have P:=aA U;have M:=aA S;obtain ⟨i5,i7,i6,rfl⟩:=U.shape;clear U S;by_cases c0:b<pl.length
     ·have f8:(b:Int)<(pl.length:Int):=by omega
      obtain ⟨h4,rfl,a4⟩:=e2.o b c0;have h3:=Below.at' G l a4;have d6:=aA (f0.o pl[b] (k pl[b]) _ _ wr (by have:=e8.o pl[b] (zz _);have:=a3.o;have:=congrArg List.length this;simp at this;omega) (e7.o _ (zz _)) (e3.o _ (zz _)) G (zh R M.o.size) P.o (by simp;omega));have a1:aG ((pl.take (b+1)).map k=(pl.take b).map k++[k pl[b]]):=aA (by rw [zw c0,List.map_append];rfl);have d9:aG ((((c++[(o,p)]++((pl.take b).map k).flatten).take 501)++k pl[b]).take 501=(c++[(o,p)]++((pl.take (b+1)).map k).flatten).take 501):=aA (by rw [bAp,a1.o,List.flatten_append];simp);clear a4 P a1;generalize ((c++[(o,p)]++((pl.take b).map k).flatten).take 501)=cur at *;generalize pl[b]=pk at *;go_wp2_with (first
       |(go_at_call 144;refine (aB d6).mono ?_;rintro x i9 ⟨i8,rfl,T,b4⟩;have e1:=aA T;have d8:=aA b4;obtain ⟨h1,i1,h2,rfl⟩:=T.shape;clear T b4)
       |go_in)
      go_roundw;case rel=>exact ⟨b+1,by omega,by go_num,by rw [<-d9.o];exact e1.o,M.o.trans d8.o⟩
      case measure=>simp [intOf];omega
     ·have f7:b=pl.length:=by omega
      subst f7;have f8:¬((pl.length:Int)<(pl.length:Int)):=by omega
      go_wp2;go_ret;refine ⟨_,rfl,?_,M.o⟩;have:=P.o;rw [z1,e9.o] at this;rw [a3.o,show c++(o,p)::c6=c++[(o,p)]++c6 by simp];exact this
