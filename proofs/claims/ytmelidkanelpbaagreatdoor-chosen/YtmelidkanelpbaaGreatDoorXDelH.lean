import Derived.Test.YtmelidkanelpbaaGreatDoorXIntsH
import Derived.Test.YtmelidkanelpbaaGreatDoorXHp0H
import Derived.Test.YtmelidkanelpbaaGreatDoorVRes1H
open Array renaming getElem?_eq_some_iff→zz
open List renaming getElem_mem→zw,getElem?_eq_getElem→zv,take_succ_eq_append_getElem→zu,length_set→zt,replicate→zs,getElem?_append_left→zr,getElem?_eq_some_iff→zq,take_take→zp,take_set_of_le→zm,flatMap_append→zl,append_assoc→zk,any_eq_true→zj,take_length→zh
open Nat renaming le_refl→zy,le_trans→zx
namespace Go.Proofs.YtmelidkanelpbaaGreatDoor
open _root_.Go.Proofs.Tryz renaming prog→zn
open Go.RowKit Go.Shelf Go.WideMaps
set_option maxHeartbeats 8000000
set_option maxRecDepth 100000
variable{ks:List Nat}{B:Nat}
theorem dO.set{w:World}{a c d:Nat}(e:dO B w (.slice (some ⟨a,0,none⟩) c d) ks)(f:c=ks.length)(b x:Nat):dO B (w.setCell ⟨a,b,none⟩ (.int .i64 (x:Nat))) (.slice (some ⟨a,0,none⟩) c d) (ks.set b x)/\w.grownBy (w.setCell ⟨a,b,none⟩ (.int .i64 (x:Nat))) (some a):=by subst f;have:=sL (w:=w) e b (.int .i64 (x:Nat));refine ⟨?_,cN w ⟨a,b,none⟩ _⟩;unfold dO;rw [zt,List.map_set];exact this
theorem dO.take{w:World}{g n b:Nat}(d:dO B w (.slice (some ⟨g,0,none⟩) n b) ks){m:Nat}(s:m<=ks.length):dO B w (.slice (some ⟨g,0,none⟩) m b) (ks.take m):=by
 obtain ⟨q,⟨a,_⟩|⟨p,o,c,a,e,f,r,j,l,k⟩⟩:=d
 ·cases a
 ·simp at a;obtain ⟨rfl,_,rfl⟩:=a;have i:(ks.take m).length=m:=by simp;omega
  unfold dO;rw [i];refine ⟨by simp;omega,Or.inr ⟨g,b,c,rfl,e,f,by omega,j,l,?_⟩⟩;rw [List.map_take,<-k,zp];congr 1
  omega
theorem dO.cleared{B:Nat}{c e f:Nat}:∀(m a:Nat) (b:World) (ks:List Nat),dO B b (.slice (some ⟨c,0,none⟩) e f) ks->e=ks.length->
  ∃d,dO B (b.setCells c a (zs m (.int .i64 0))) (.slice (some ⟨c,0,none⟩) e f) d/\d.length=ks.length/\d.take a=ks.take a/\b.grownBy (b.setCells c a (zs m (.int .i64 0))) (some c)
 |0,a,b,ks,h,_=>⟨ks,h,rfl,rfl,⟨rfl,rfl,rfl,zy _,λ_ _ _=>rfl⟩⟩
 |m+1,a,b,ks,h,hn=>by
  obtain ⟨g,i⟩:=h.set hn a 0;obtain ⟨d,j,k,l,n⟩:=dO.cleared m (a+1) _ _ g (by rw [zt];exact hn);refine ⟨d,j,by rw [k,zt],?_,lP i n⟩;have:=congrArg (List.take a) l;rw [zp,zp,Nat.min_eq_left (Nat.le_succ a),zm (zy _)] at this;exact this
def bD8(g:World)(f c d:Nat)(p:Nat->Bool)(ks:List Nat):Prop:=∀b∈ks,∀a,g.grownBy a (some f)->Calls zn 50 #[.int .i64 (b:Nat),.pointer (some ⟨c,0,none⟩),.pointer (some ⟨d,0,none⟩)] a λe i=>e=.returned (.bool (p b))/\aB a i
theorem aO1{p:Nat->Bool}{a:Nat}(c:a<ks.length):(ks.take (a+1)).filter (λb=>!p b)=(ks.take a).filter (λb=>!p b)++if p ks[a] then [] else [ks[a]]:=by rw [zu c,List.filter_append];cases h:p ks[a]<;>simp [h]
theorem bD9(B e f:Nat)(d:Nat->Bool)(b:Option Addr)(c:Nat)(ks:List Nat)(a:World)(k:dO B a (.slice b ks.length c) ks)(q:ks.length<=1000000)(n:aOg a e f d ks)(g:ks.any d=false):Calls zn 49 #[.slice b ks.length c,.func (.func 50) #[] #[.pointer (some ⟨e,0,none⟩),.pointer (some ⟨f,0,none⟩)]] a λj s=>j=.returned (.slice b ks.length c)/\aB a s:=by
 have i:=aA (aOh B e f d b c ks a k q n);have m:pF d ks=-1:=aG9 (λt p=>by
  rw [Bool.eq_false_iff];intro r;rw [zj.2 ⟨_,zw p,r⟩] at g;cases g)
 rw [m] at i;clear k n g m;go_enter Tryz.func49,Tryz.ntmps49;go_wp2_with (first
  |(go_at_call 79;refine (aD i).mono ?_;rintro j u ⟨rfl,l⟩;have o:=aA l;clear l)
  |go_in)
 go_ret;exact ⟨rfl,o.o⟩
theorem bDa(B G H:Nat)(d:Nat->Bool)(e i:Nat)(ks:List Nat)(p:World)(x:dO B p (.slice (some ⟨e,0,none⟩) ks.length i) ks)(d1:ks.length<=1000000)(M:bD8 p e G H d ks)(b0:ks.any d=true):Calls zn 49 #[.slice (some ⟨e,0,none⟩) ks.length i,.func (.func 50) #[] #[.pointer (some ⟨G,0,none⟩),.pointer (some ⟨H,0,none⟩)]] p λb b4=>b=.returned (.slice (some ⟨e,0,none⟩) (ks.filter λf=>!d f).length i)/\dO B b4 (.slice (some ⟨e,0,none⟩) (ks.filter λf=>!d f).length i) (ks.filter λf=>!d f)/\p.grownBy b4 (some e):=by
 have S:=aA (aOh B G H d _ i ks p x d1 (λf d0 u O=>M f d0 u (gM O)));have J:ks.findIdx d<ks.length:=List.findIdx_lt_length.2 (zj.1 b0);obtain ⟨g,C⟩ : ∃g,ks.findIdx d=g:=⟨_,rfl⟩;have a3:pF d ks=(g:Nat):=by unfold pF;rw [aH J,C]
 rw [C] at J;have a8:d ks[g]=true:=by have:=List.findIdx_getElem (xs:=ks) (p:=d) (w:=by omega);simpa [C] using this
 have a2:(ks.take g).filter (λf=>!d f)=ks.take g:=by
  rw [List.filter_eq_self];intro n q;obtain ⟨c,a6,rfl⟩:=List.getElem_of_mem q;have e5:c<g:=by simp at a6;omega
  have:=List.not_of_lt_findIdx (xs:=ks) (p:=d) (i:=c) (by omega);rw [List.getElem_take];simpa using this
 have a9:(ks.take (g+1)).filter (λf=>!d f)=ks.take g:=by rw [aO1 J,a2,aH a8,List.append_nil]
 rw [a3] at S;have d9:ks.length<=i:=by
  obtain ⟨_,⟨b,_⟩|⟨s,Y,Z,b,_,_,z,_⟩⟩:=x
  ·cases b
  ·simp at b;omega
 have c1:=aA a9;have b8:=aA x;have c0:=aA M;have e8:((g:Int)==-1)=false:=by rw [beq_eq_false_iff_ne];omega
 clear x M b0 a3 C a8 a2 a9;go_enter Tryz.func49,Tryz.ntmps49;go_wp2_with (first
  |(go_at_call 79;refine (aD S).mono ?_;rintro b f0 ⟨rfl,a1⟩;have T:=aA a1;clear a1)
  |go_in)
 have e7:(g:Int)<(ks.length:Int):=by omega
 go_loopw [5,6] (λd3 P wr=>∃(a c:Nat) (j:List Nat),d3=.int .i64 a/\P=.int .i64 c/\c<=ks.length/\a<c/\j.length=ks.length/\dO B wr (.slice (some ⟨e,0,none⟩) ks.length i) j/\j.take a=(ks.take c).filter (λf=>!d f)/\(∀l,c<=l->j[l]?=ks[l]?)/\p.grownBy wr (some e)) (λ_ P _=>ks.length-(intOf P).toNat);case atStart=>exact ⟨g,g+1,ks,rfl,by simp,by omega,by omega,rfl,bG b8.o T.o (zy _),c1.o.symm,λ_ _=>rfl,gM T.o⟩
 case round=>
  obtain ⟨a,c,j,rfl,rfl,a6,e3,y,m,k,D,t⟩:=hrel;by_cases L:c<ks.length
  ·obtain ⟨n,q⟩ : ∃n,ks[c]=n:=⟨_,rfl⟩;have a0:j[c]'(by omega)=n:=by
    have:=D c (zy _);rw [zv (by omega),zv L,q] at this;exact Option.some.inj this
   obtain ⟨s,b,z⟩:=m.cell (i:=c) (by omega);cases b;rw [a0] at z;obtain ⟨b5,I⟩ : ∃b5:Nat,wr.cell? ⟨e,a,none⟩=some (.int .i64 (b5:Nat)):=by obtain ⟨s,b,I⟩:=m.cell (i:=a) (by omega);cases b;exact ⟨_,I⟩
   have v:=aA (c0.o n (by rw [<-q];exact zw L) wr t);have N:=aO1 (p:=d) L;rw [q] at N;have c9:(c:Int)<(ks.length:Int):=by omega
   have e2:(a:Int)<(ks.length:Int):=by omega
   have U:=aA m;have X:=aA k;have V:=aA D;have w:=aA t;have W:=aA N;have F:=aA y;have a5:∀u,wr.grownBy u none->u.frozen? ⟨e,a,none⟩=false:=λu O=>by
    obtain ⟨_,⟨b,_⟩|⟨s,Y,Z,b,_,A,_⟩⟩:=m
    ·cases b
    ·simp at b;obtain ⟨rfl,_⟩:=b;have:=O.block e (zz.1 A).1 (by simp);simp [World.frozen?,this,A]
   have b7:=aA a5;clear m k D t N a0 q y a5;cases hp:d n
   ·rw [hp] at v;have E:=aA hp;clear hp;go_wp2_with (first
     |(go_at_call 50;refine (aD v).mono ?_;rintro b R ⟨rfl,o⟩;have d5:=aC o I;have d6:=b7.o R (gM o);have r:=aA o;clear o)
     |go_in)
    go_roundw;case rel=>
     have c4:dO B R (.slice (some ⟨e,0,none⟩) ks.length i) j:=bG U.o r.o (zy _);obtain ⟨c5,c7⟩:=c4.set F.o.symm a n;have c6:=F.o;refine ⟨a+1,c+1,j.set a n,by go_num,by go_num,by omega,by omega,by rw [zt];exact c6,c5,?_,λl k=>?_,lP w.o (lP (gM r.o) c7)⟩
     ·rw [W.o,E.o,<-X.o,zu (by simp;omega),zm (zy _)];simp
     ·rw [List.getElem?_set_ne (by omega)];exact V.o l (by omega)
    case measure=>simp [intOf];omega
   ·rw [hp] at v;have E:=aA hp;clear hp;go_wp2_with (first
     |(go_at_call 50;refine (aD v).mono ?_;rintro b R ⟨rfl,o⟩;have r:=aA o;clear o)
     |go_in)
    go_roundw;case rel=>
     refine ⟨a,c+1,j,rfl,by go_num,by omega,by omega,F.o,bG U.o r.o (zy _),?_,λl k=>V.o l (by omega),lP w.o (gM r.o)⟩;rw [W.o,E.o,<-X.o];simp
    case measure=>simp [intOf];omega
  ·have c8:c=ks.length:=by omega
   rw [c8,zh] at k;have a7:(ks.filter λf=>!d f).length=a:=by rw [<-k,List.length_take];omega
   have e0:∀Q,(Builtin.clear_ #[28] Q #[.slice (some ⟨e,a,none⟩) (ks.length-a) (i-a)]).run zn wr=.ok (.tuple #[]) (wr.setCells e a (zs (ks.length-a) (.int .i64 0))):=λQ=>
    Lib.run_clear_slice wr _ 3 Q (.int .i64 0) Tryz.underlying28 (λp=>by obtain ⟨e9,c2,c3,d7,d8⟩:=info_parts tW;simp [zeroValue,typeInfo,c2,c3]) rfl rfl e a _ _ (by omega) (λl k=>by
     obtain ⟨s,b,z⟩:=m.cell (i:=a+l) (by omega);cases b;rw [z];rfl) (λl k=>by
     obtain ⟨_,⟨b,_⟩|⟨s,Y,Z,b,_,A,_⟩⟩:=m
     ·cases b
     ·simp at b;obtain ⟨rfl,_⟩:=b;simp [World.frozen?,A])
   obtain ⟨d4,b1,d2,b2,b3⟩:=dO.cleared (ks.length-a) a wr j m y.symm;have a4:dO B (wr.setCells e a (zs (ks.length-a) (.int .i64 0))) (.slice (some ⟨e,0,none⟩) a i) (ks.filter λf=>!d f):=by have:=b1.take (m:=a) (by omega);rw [b2,k] at this;exact this
   have b6:=aA a4;have w:=aA (lP t b3);have b9:=aA a7;have c9:¬(c:Int)<(ks.length:Int):=by omega
   have e4:(a:Int)<=(ks.length:Int):=by omega
   have e1:(a:Int)<=(i:Int):=by omega
   have e6:(ks.length:Int)<=(i:Int):=by omega
   clear m k D t b1 d2 b2 b3 a4 y a7;go_wp2;go_ret;rw [b9.o];exact ⟨rfl,b6.o,w.o⟩
section
attribute [local go_sem] Oper.semAt_some
noncomputable def dV(b:List (aK×Value))(a:Nat)(d:List Nat):List (aK×Int):=lM (aE b a) a++d.flatMap λc=>gA (aE b a) a (aE b c) c
def sJ(B:Nat)(b:World)(e:Nat)(a:aK)(c:Option Addr)(d:Nat):Prop:=b.heap[e]?=some (.cells #[.int .i64 a.r,.int .i64 a.a,.int .i64 a.b,.int .i64 a.i,.int .i64 a.j,.slice c a.c.length d] 53 (0,0))/\bR B b (.slice c a.c.length d) a.c
theorem sJ.kept{W a:World}{c:Nat}{f:aK}{b:Option Addr}{d:Nat}(e:sJ B W c f b d)(k:cO bU W a):sJ B a c f b d:=⟨k.kc _ _ _ e.1 (by decide),k.clause e.2 (by decide) (by decide)⟩
theorem sJ.cells{W:World}{a:Nat}{x:aK}{b:Option Addr}{c:Nat}(d:sJ B W a x b c):W.cell? ⟨a,0,none⟩=some (.int .i64 x.r)/\W.cell? ⟨a,1,none⟩=some (.int .i64 x.a)/\W.cell? ⟨a,2,none⟩=some (.int .i64 x.b)/\W.cell? ⟨a,3,none⟩=some (.int .i64 x.i)/\W.cell? ⟨a,4,none⟩=some (.int .i64 x.j)/\W.cell? ⟨a,5,none⟩=some (.slice b x.c.length c):=by refine ⟨?_,?_,?_,?_,?_,?_⟩<;>simp [World.cell?,d.1]
theorem aC1{d:List Nat}{k b f:World}{j:Option Nat}(n:∀a∈d,k.heap[a]?=some (.deferred (some [])))(m:b.grownBy f j)(o:∀e,j=some e->k.heap.size<=e/\∃i:Obj,b.heap[e]?=some i/\i.isCells=false)(g:∀a∈d,b.heap[a]?=some (.deferred (some []))):∀a∈d,f.heap[a]?=some (.deferred (some [])):=λa c=>by
 refine (m.block a (zz.1 (g a c)).1 (λl=>?_)).trans (g a c);have p:=(o a l.symm).1;have q:=(zz.1 (n a c)).1;omega
theorem aO2(n T Q R B:Nat)(k6 k5:Value)(b:List (aK×Value))(c:Nat)(g:List Nat)(l8:6<=n)(f7:∀k0∈b,kU k0.1.c)(c8:c<b.length)(g4:∀d∈g,d<b.length)(l9:g.length<=1000000)(l:World)(f4:B<=l.heap.size)(a7:rB B l T Q R k6 k5 b c g):tN Fence.wide n zn 76 #[.pointer (some ⟨T,0,none⟩),.pointer (some ⟨Q,0,none⟩),.pointer (some ⟨R,0,none⟩)] (sH B) bU (dV b c g) l:=by
 intro W b8 b9 f6 c7 f9 h0;have f1:=aA f9;have a0:=aA f6;have e9:=aA f7;have i2:=aA g4;clear f9 f6 f7 g4;refine callsIn_of_wp_marks Tryz.func76 rfl trivial ?_ rfl;simp only [Tryz.ntmps76,List.size_toArray,List.length_cons,List.length_nil,Nat.reduceAdd,Nat.reduceSub,Array.replicate_succ,Array.replicate_zero,List.push_toArray,List.append_toArray,List.nil_append,List.cons_append];obtain ⟨X,Y,rfl⟩:=bA a7.st.row;obtain ⟨d2,b7,rfl⟩:=bA a7.ot;have f2:=a7.x1.cell;have f3:=a7.x2.cell;have i5:=λp=>aC ((Below.refl l.heap.size l).alloc (zy _) p) f2
 have i6:=λp=>aC ((Below.refl l.heap.size l).alloc (zy _) p) f3
 have f0:=aA a7;clear a7 f2 f3;gi_wp2
 clear i5 i6;obtain ⟨l5,f8,d9,g7,m0⟩:=aFr l (.func (.yield W) #[] #[]) 130;simp only [f8] at *;have f5:=f0.o.kept (bW (S:=bU) d9);refine ⟨trivial,λ_=>by omega,(callsIn_wide.2 (bCp B _ b c _ f5.st c8)).mono ?_⟩;rintro U P ⟨b0,b1,d3,rfl,g1,M⟩;have C:aB l P:=bK d9 M;have g8:Boxed P l.heap.size 130 (.func (.yield W) #[] #[]):=(bW (S:=bU) M).boxed g7 (by decide);have c4:=f0.o.kept (bW (S:=bU) C);have c5:=qD a0.o h0 C;clear f8 g7 d9 M h0 f5;gi_wp2
 have g3:kU (aE b c):=by rw [jS c8];exact e9.o _ (zw c8)
 refine zA rfl (by omega) (gf:=96) (lb:=#[.pointer (some ⟨b0,0,none⟩),.pointer (some ⟨b1,0,none⟩)]) rfl trivial (enters_of Tryz.func96 (by kernel_rfl) rfl)
  (Enc:=sH B) (S:=bU) (L:=lM (aE b c) c)
  (λj8 j9=>bCn (n-1) b0 b1 B d3 (aE b c) c (by omega) g3 _ (zx (zx f4 C.size) (by simp;omega)) (g1.kept (bW (((Below.refl _ P).alloc (zy _) _).alloc (by simp) _))))
  (λa d6 l i=>by obtain ⟨m,o,rfl,_⟩:=i;rfl)
  (λe j=>b8 e j/\(rB B j T Q R (.slice X b.length Y) (.slice d2 g.length b7) b c g/\Boxed j l.heap.size 130 (.func (.yield W) #[] #[]))/\P.heap.size<=j.heap.size)
  (λa1 _ j=>a1=.ret/\∃e,b9 e j) ?hI ?hIx ?h0
  (λa y j=>∃z m o,y = {tmps:=#[.func (.yield W) #[] #[],.pointer (some ⟨T,0,none⟩),.pointer (some ⟨Q,0,none⟩),.pointer (some ⟨R,0,none⟩),.pointer (some ⟨l.heap.size,0,none⟩),.pointer (some ⟨z,0,none⟩),.int .i64 a.2,undef,undef,undef,undef,.slice X b.length Y,.int .i64 c,.func (.func 96) #[] #[.pointer (some ⟨b0,0,none⟩),.pointer (some ⟨b1,0,none⟩)],.agg #[.int .i64 a.1.r,.int .i64 a.1.a,.int .i64 a.1.b,.int .i64 a.1.i,.int .i64 a.1.j,.slice m a.1.c.length o],.int .i64 a.2,undef,undef,undef,undef,undef,undef,undef,undef,undef,undef,undef,undef,undef,undef,undef,undef,undef,undef,undef,undef,undef,undef,undef],defers:=[]}/\sJ B j z a.1 m o) ?hAx ?assign ?body ?done ?stop
 case hI=>exact (tO a0.o C.size).and ((tQ (λ_ _ _ i e=>⟨i.1.kept e,e.boxed i.2 (by decide)⟩)).and (λ_ _ _ _ i t _=>zx i t.size))
 case hIx=>
  rintro a1 k1 p v E ⟨G,e,H⟩ t x;exact ⟨G,e,tO c7 C.size e p v E H t x⟩
 case h0=>exact ⟨c5,⟨c4,g8⟩,zy _⟩
 case hAx=>
  intro a y;refine tQ ?_;rintro _ p v ⟨z,m,o,G,H⟩ e;exact ⟨z,m,o,G,H.kept e⟩
 case assign=>
  rintro e5 e a d6 s K O ⟨J,⟨q,u⟩,A⟩ ⟨m,o,rfl,b3⟩ hK;have d4:=aA b3;clear b3;gi_wp2
  have r:aB s (s.alloc (.cells #[.int .i64 a.1.r,.int .i64 a.1.a,.int .i64 a.1.b,.int .i64 a.1.i,.int .i64 a.1.j,.slice m a.1.c.length o] 53)):=(Below.refl _ s).alloc (zy _) _;exact hK _ _ (Mv.of_below (S:=[]) (B:=0) r).keepsFrom (bW r) ⟨qD a0.o J r,⟨q.kept (bW r),(bW (S:=bU) r).boxed u (by decide)⟩,zx A r.size⟩ ⟨s.heap.size,m,o,rfl,World.alloc_heap_new s _,d4.o.below r⟩
 case body=>
  rintro e5 e a y s i9 O ⟨J,⟨q,u⟩,A⟩ ⟨z,m,o,rfl,a3⟩;obtain ⟨k7,k8,k9,l0,l1,l2⟩:=a3.cells;have e7:=u.cell;have d8:=f1.o e a #[.agg #[.int .i64 a.1.r,.int .i64 a.1.a,.int .i64 a.1.b,.int .i64 a.1.i,.int .i64 a.1.j,.slice m a.1.c.length o],.int .i64 a.2] s (by unfold dV;rw [zr (zq.1 O).1];exact O) J ⟨m,o,rfl,a3.2⟩;obtain ⟨i7,k2,assign,body,j7,d7⟩:=d8;have a5:=aA q;have a8:=aA u;have d5:=aA A;clear q u A a3 J;gi_wp2
  refine ⟨λ_=>by omega,(xB d7).mono ?_⟩;rintro U i4 (⟨rfl,hJ4,hk4⟩|⟨rfl,hJx4,hk4⟩)
  ·gi_wp2
   exact ⟨kT hk4.2 C.size,hk4.1,hJ4,⟨a5.o.kept hk4.1,hk4.1.boxed a8.o (by decide)⟩,zx d5.o hk4.1.size⟩
  ·gi_wp2
   exact ⟨kT hk4 C.size,rfl,_,hJx4⟩
 case stop=>
  rintro a1 e a9 ⟨rfl,e4,V⟩ hK;gi_wp2
  exact zG (N:=l.heap.size) (I:=λj=>∃e,b9 e j) rfl (λ_ p v E ⟨e,i⟩ t x=>⟨e,c7 e p v E i t x⟩) (λd3 w i=>⟨⟨_,rfl⟩,.inr i⟩) [P.heap.size] a9 ⟨e4,V⟩ (λf hD=>by simp at hD;subst hD;exact ⟨C.size,hK⟩) (by simp)
 case done=>
  rintro a9 ⟨V,⟨b2,d1⟩,d0⟩ hK;have l4:=b2.x3.cell;gi_wp2
  clear l4;refine wpIn_loop (λy Z=>∃(k:Nat) (D:List Nat) (h7 g9 h1 h2 h3 h4 h5 h6 e6:Value),y = {tmps:=#[.func (.yield W) #[] #[],.pointer (some ⟨T,0,none⟩),.pointer (some ⟨Q,0,none⟩),.pointer (some ⟨R,0,none⟩),.pointer (some ⟨l.heap.size,0,none⟩),undef,undef,undef,h7,undef,undef,.slice X b.length Y,.int .i64 c,.func (.func 96) #[] #[.pointer (some ⟨b0,0,none⟩),.pointer (some ⟨b1,0,none⟩)],undef,undef,undef,undef,undef,undef,undef,.slice d2 g.length b7,.int .i64 g.length,.int .i64 k,g9,h1,h2,h3,h4,h5,h6,undef,undef,undef,undef,undef,undef,undef,e6],defers:=D.map λf=>{target:=.collected f,args:=#[]}}/\k<=g.length/\b8 (lM (aE b c) c++(g.take k).flatMap λd=>gA (aE b c) c (aE b d) d).length Z/\
    (rB B Z T Q R (.slice X b.length Y) (.slice d2 g.length b7) b c g/\Boxed Z l.heap.size 130 (.func (.yield W) #[] #[]))/\P.heap.size<=Z.heap.size/\(∀f∈D,l.heap.size<=f/\Z.heap[f]?=some (.deferred (some [])))/\D.Nodup)
   (λy _=>g.length-(intOf (y.tmps.getD 23 undef)).toNat) ?start ?round
  case start=>exact ⟨0,[P.heap.size],_,_,_,_,_,_,_,_,_,rfl,Nat.zero_le _,by simpa using V,⟨b2,d1⟩,d0,λf hD=>by simp at hD;subst hD;exact ⟨C.size,hK⟩,by simp⟩
  case round=>
   clear V b2 d1 d0 hK c4 c5 g8 g1;rintro _ Z ⟨k,D,h7,g9,h1,h2,h3,h4,h5,h6,e6,rfl,m1,c6,⟨q,u⟩,A,e2,e3⟩;by_cases b4:k<g.length
   ·have j0:(k:Int)<(g.length:Int):=by omega
    obtain ⟨d,c9⟩ : ∃d,g[k]=d:=⟨_,rfl⟩;have e0:d<b.length:=i2.o d (by rw [<-c9];exact zw b4);obtain ⟨F,rfl,j2⟩ : ∃F,d2=some ⟨F,0,none⟩/\Z.cell? ⟨F,k,none⟩=some (.int .i64 d):=by
     obtain ⟨_,⟨_,U⟩|⟨F,l6,l7,U,_⟩⟩:=q.ot
     ·omega
     ·simp at U;refine ⟨F,U.1,?_⟩;have:=q.ot;rw [U.1] at this;rw [this.cellAt k (by simpa using b4)];simp [b4,c9]
    have e7:=q.x1.cell;have l3:=q.x2.cell;have j1:kU (aE b d):=by rw [jS e0];exact e9.o _ (zw e0)
    have g6:(g.take (k+1)).flatMap (λd=>gA (aE b c) c (aE b d) d)=(g.take k).flatMap (λd=>gA (aE b c) c (aE b d) d)++gA (aE b c) c (aE b d) d:=by rw [qF (zv b4),c9,zl];simp
    have g2:∀e a,(gA (aE b c) c (aE b d) d)[e]?=some a->(dV b c g)[(lM (aE b c) c++(g.take k).flatMap λd=>gA (aE b c) c (aE b d) d).length+e]?=some a:=by
     intro e a O;have j3:g.flatMap (λd=>gA (aE b c) c (aE b d) d)=(g.take k).flatMap (λd=>gA (aE b c) c (aE b d) d)++(gA (aE b c) c (aE b d) d++(g.drop (k+1)).flatMap λd=>gA (aE b c) c (aE b d) d):=by
      conv=>lhs;rw [<-List.take_append_drop k g]
      rw [zl,List.drop_eq_getElem_cons b4,c9];simp
     unfold dV;rw [j3,<-zk,List.getElem?_append_right (by omega),Nat.add_sub_cancel_left,zr (zq.1 O).1];exact O
    generalize hbase:(lM (aE b c) c++(g.take k).flatMap λd=>gA (aE b c) c (aE b d) d).length=base at *;have i3:=aA g6;have i0:=aA g2;have h8:=aA hbase;have a5:=aA q;have a8:=aA u;have a6:=aA e2;have i1:=aA c6;clear g6 g2 hbase e2 c6 q u;gi_wp2
    refine ⟨trivial,λ_=>by omega,(callsIn_wide.2 (bCq B _ b c d _ a5.o.st c8 e0)).mono ?_⟩;rintro U a4 ⟨c2,c3,c0,c1,k4,k3,rfl,j4,M⟩;have c4:=a5.o.kept (bW (S:=bU) M);have j6:=(bW (S:=bU) M).boxed a8.o (by decide);have c5:=qD a0.o i1.o M;have b5:∀f∈D,a4.heap[f]?=some (.deferred (some [])):=λf hD=>(M.block f (zz.1 (a6.o f hD).2).1).trans (a6.o f hD).2
    have g5:P.heap.size<=a4.heap.size:=zx A M.size;have a2:l.heap.size<=a4.heap.size:=zx C.size g5;clear e7 l3 j2;gi_wp2
    refine zA rfl (by omega) (gf:=98) (lb:=#[.pointer (some ⟨c2,0,none⟩),.pointer (some ⟨c3,0,none⟩),.pointer (some ⟨c0,0,none⟩),.pointer (some ⟨c1,0,none⟩)]) rfl trivial (enters_of Tryz.func98 (by kernel_rfl) rfl)
     (Enc:=sH B) (S:=bU) (L:=gA (aE b c) c (aE b d) d)
     (λj8 j9=>bCo (n-1) c2 c3 c0 c1 B k4 k3 (aE b c) (aE b d) c d (by omega) g3 j1 _ (zx (zx f4 a2) (by simp;omega)) (j4.kept (bW (((Below.refl _ a4).alloc (zy _) _).alloc (by simp) _))))
     (λa d6 l i=>by obtain ⟨m,o,rfl,_⟩:=i;rfl)
     (λe j=>b8 (base+e) j/\(rB B j T Q R (.slice X b.length Y) (.slice (some ⟨F,0,none⟩) g.length b7) b c g/\Boxed j l.heap.size 130 (.func (.yield W) #[] #[]))/\(a4.heap.size<=j.heap.size/\∀f∈D,j.heap[f]?=some (.deferred (some []))))
     (λa1 _ j=>a1=.ret/\(∃e,b9 e j)/\∀f∈D,j.heap[f]?=some (.deferred (some []))) ?hI2 ?hIx2 ?h02
     (λa y j=>∃z m o,y = {tmps:=#[.func (.yield W) #[] #[],.pointer (some ⟨T,0,none⟩),.pointer (some ⟨Q,0,none⟩),.pointer (some ⟨R,0,none⟩),.pointer (some ⟨l.heap.size,0,none⟩),undef,undef,undef,.int .i64 d,.pointer (some ⟨z,0,none⟩),.int .i64 a.2,.slice X b.length Y,.int .i64 c,.func (.func 96) #[] #[.pointer (some ⟨b0,0,none⟩),.pointer (some ⟨b1,0,none⟩)],undef,undef,undef,undef,undef,undef,undef,.slice (some ⟨F,0,none⟩) g.length b7,.int .i64 g.length,.int .i64 k,.bool true,.pointer (some ⟨F,k,none⟩),.int .i64 d,.slice X b.length Y,.int .i64 c,.int .i64 d,.func (.func 98) #[] #[.pointer (some ⟨c2,0,none⟩),.pointer (some ⟨c3,0,none⟩),.pointer (some ⟨c0,0,none⟩),.pointer (some ⟨c1,0,none⟩)],.agg #[.int .i64 a.1.r,.int .i64 a.1.a,.int .i64 a.1.b,.int .i64 a.1.i,.int .i64 a.1.j,.slice m a.1.c.length o],.int .i64 a.2,undef,undef,undef,undef,undef,e6],defers:=[]}/\sJ B j z a.1 m o) ?hAx2 ?assign2 ?body2 ?done2 ?stop2
    case hI2=>
     refine (aFt a0.o a2 _).and ((tQ (λ_ _ _ i e=>⟨i.1.kept e,e.boxed i.2 (by decide)⟩)).and ?_);rintro _ p v E ⟨G,H⟩ t x;exact ⟨zx G t.size,aC1 b5 t x H⟩
    case hIx2=>
     rintro a1 k1 p v E ⟨G,⟨e,H⟩,i8⟩ t x;exact ⟨G,⟨e,tO c7 a2 e p v E H t x⟩,aC1 b5 t x i8⟩
    case h02=>exact ⟨c5,⟨c4,j6⟩,zy _,b5⟩
    case hAx2=>
     intro a y;refine tQ ?_;rintro _ p v ⟨z,m,o,G,H⟩ e;exact ⟨z,m,o,G,H.kept e⟩
    case assign2=>
     rintro e5 e a d6 s K O ⟨J,⟨q,u⟩,A,b6⟩ ⟨m,o,rfl,b3⟩ hK;have d4:=aA b3;clear b3;gi_wp2
     have r:aB s (s.alloc (.cells #[.int .i64 a.1.r,.int .i64 a.1.a,.int .i64 a.1.b,.int .i64 a.1.i,.int .i64 a.1.j,.slice m a.1.c.length o] 53)):=(Below.refl _ s).alloc (zy _) _;exact hK _ _ (Mv.of_below (S:=[]) (B:=0) r).keepsFrom (bW r) ⟨qD a0.o J r,⟨q.kept (bW r),(bW (S:=bU) r).boxed u (by decide)⟩,zx A r.size,λf hD=>(r.block f (zz.1 (b6 f hD)).1).trans (b6 f hD)⟩ ⟨s.heap.size,m,o,rfl,World.alloc_heap_new s _,d4.o.below r⟩
    case body2=>
     rintro e5 e a y s i9 O ⟨J,⟨q,u⟩,A,b6⟩ ⟨z,m,o,rfl,a3⟩;obtain ⟨k7,k8,k9,l0,l1,l2⟩:=a3.cells;have e7:=u.cell;have d8:=f1.o (base+e) a #[.agg #[.int .i64 a.1.r,.int .i64 a.1.a,.int .i64 a.1.b,.int .i64 a.1.i,.int .i64 a.1.j,.slice m a.1.c.length o],.int .i64 a.2] s (i0.o e a O) J ⟨m,o,rfl,a3.2⟩;obtain ⟨i7,k2,assign,body,j7,d7⟩:=d8;have a5:=aA q;have a8:=aA u;have d5:=aA A;have e8:=aA b6;clear q u A a3 J b6;gi_wp2
     refine ⟨λ_=>by omega,(xB d7).mono ?_⟩;rintro U i4 (⟨rfl,hJ4,hk4⟩|⟨rfl,hJx4,hk4⟩)
     ·gi_wp2
      exact ⟨kT hk4.2 a2,hk4.1,hJ4,⟨a5.o.kept hk4.1,hk4.1.boxed a8.o (by decide)⟩,zx d5.o hk4.1.size,λf hD=>hk4.2.same f _ (a6.o f hD).1 (e8.o f hD) rfl⟩
     ·gi_wp2
      exact ⟨kT hk4 a2,rfl,⟨_,hJx4⟩,λf hD=>hk4.same f _ (a6.o f hD).1 (e8.o f hD) rfl⟩
    case stop2=>
     rintro a1 e a9 ⟨rfl,⟨e4,V⟩,e1⟩ hK;gi_wp2
     refine zG (N:=l.heap.size) (I:=λj=>∃e,b9 e j) rfl (λ_ p v E ⟨e,i⟩ t x=>⟨e,c7 e p v E i t x⟩) (λd3 w i=>⟨⟨_,rfl⟩,.inr i⟩) (a4.heap.size::D) a9 ⟨e4,V⟩ (λf hD=>?_) (List.nodup_cons.2 ⟨λi=>?_,e3⟩)
     ·rcases List.mem_cons.1 hD with rfl|hD
      ·exact ⟨a2,hK⟩
      ·exact ⟨(a6.o f hD).1,e1 f hD⟩
     ·have:=(zz.1 (b5 _ i)).1;omega
    case done2=>
     rintro a9 ⟨V,⟨b2,d1⟩,d0,e1⟩ hK;have g0:(k:Int)+1=((k+1:Nat):Int):=rfl;have h9:=aA g0;clear g0;gi_wp2
     rw [h9.o];refine ⟨⟨k+1,a4.heap.size::D,.int .i64 d,.bool true,.pointer (some ⟨F,k,none⟩),.int .i64 d,.slice X b.length Y,.int .i64 c,.int .i64 d,.func (.func 98) #[] #[.pointer (some ⟨c2,0,none⟩),.pointer (some ⟨c3,0,none⟩),.pointer (some ⟨c0,0,none⟩),.pointer (some ⟨c1,0,none⟩)],.int .i64 ((k+1:Nat):Int),rfl,by omega,?_,⟨b2,d1⟩,zx g5 d0,λf hD=>?_,List.nodup_cons.2 ⟨λi=>?_,e3⟩⟩,?_⟩
     ·rw [i3.o,<-zk,List.length_append,h8.o];exact V
     ·rcases List.mem_cons.1 hD with rfl|hD
      ·exact ⟨a2,hK⟩
      ·exact ⟨(a6.o f hD).1,e1 f hD⟩
     ·have:=(zz.1 (b5 _ i)).1;omega
     ·simp [intOf];omega
   ·have j0:¬(k:Int)<(g.length:Int):=by omega
    have j5:k=g.length:=by omega
    gi_wp2
    refine zG (N:=l.heap.size) (I:=λj=>b8 (dV b c g).length j) rfl (λ_ p v E i t x=>a0.o _ p v E i t x) (λd3 w i=>⟨⟨_,rfl⟩,.inl i⟩) D Z ?_ e2 e3;rw [j5,zh] at c6;exact c6
end
