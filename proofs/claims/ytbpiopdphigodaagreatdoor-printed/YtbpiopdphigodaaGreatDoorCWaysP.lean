import Derived.Test.YtbpiopdphigodaaGreatDoorPClauseP
import Derived.Deep.RegionWith
import Derived.ArgAppend
import Derived.Deep.AppendLies
open List renaming take_succ_eq_append_getElem→zy,getElem_mem→zv,filter_cons_of_pos→zu,filter_cons_of_neg→zt,take_of_length_le→zs,filter_append→zr,mem_append→zo,filter_nil→zn,mem_filter→zj,mem_of_mem_take→zi,length_append→ze,any_eq_true→zb
open Nat renaming le_refl→zz,zero_le→zq,le_trans→zp,lt_of_lt_of_le→zm
open Or renaming inr→zh,inl→zf
namespace Go.Proofs.YtbpiopdphigodaaGreatDoor
open _root_.Go.Proofs.Tryz renaming prog→zw,underlying29→zl,ntmps158→zg,func158→zd
open World renaming cell?_of_block→zx,block_lt_of_cell?→zk
set_option maxHeartbeats 4000000
set_option maxRecDepth 100000
open Go.RowKit Go.Shelf
variable{G R:List Lt}{l:List Nd}{c0:Lt}{B b b0 cap o:Nat}{gk:Option Nat}{av gv v:Value}{w w1 wi wr wx:World}
def lQ(a:List Lt):Prop:=∀l∈a,aN l.2 1=true/\l.2.length<=60
theorem bU.len{d:Nat}{e:Value}{c:bD}(f:bU w B d e c):∃a cap,w.cell? ⟨d,61,none⟩=some (.slice a c.length cap):=by obtain ⟨j,g,i⟩:=f.bound;obtain ⟨a,cap,rfl⟩:=aY i;exact ⟨a,cap,g⟩
theorem sM(w:World)(a c:Value)(d:TypeId):(w.alloc (.cells #[a,c] d)).cell? ⟨w.heap.size,0,none⟩=some a/\(w.alloc (.cells #[a,c] d)).cell? ⟨w.heap.size,1,none⟩=some c:=by simp
theorem aMd(B n:Nat)(r:Option Addr)(s:Nat)(a:List Lt)(m:bD)(w:World)(j:Bool)(i:Option Addr)(k:Nat)(d:List Nd)(e:bU w B n (.slice r a.length s) m)(u:dD w B r a)(T:fM w B i d)(c5:aN d 1=true)(c6:d.length<=60)(X:lQ a):Calls zw 160 #[.pointer (some ⟨n,0,none⟩),.agg #[.bool j,.slice i d.length k]] w λt a2=>∃F:Nat,t=.returned (.int .i64 F)/\F<=8/\bU a2 B n (.slice r a.length s) m/\Fr B w a2:=by
 have q:aB w (w.alloc (.cells #[.bool j,.slice i d.length k] 41)):=(Below.refl _ _).alloc (zz _) _;have x:=e.below q;have Q:=u.fr (Fr.of_below q);have U:=T.fr (Fr.of_below q);have S:=yO (w:=w) (B:=B) #[.bool j,.slice i d.length k] 41 (by decide) (by decide);have V:=sM w (.bool j) (.slice i d.length k) 41;have d2:=u.few;have a8:aI (Fr B w (w.alloc (.cells #[.bool j,.slice i d.length k] 41))):=aA (Fr.of_below q);have d0:=x.among;have b3:=aA x;have a6:=aA Q;have b4:=aA U;have P:=aA S;have M:=aA V;have a5:=aA X;clear e u T q x Q U S V X;go_enter Tryz.func160,Tryz.ntmps160;go_wp2;generalize hW:w.alloc (.cells #[.bool j,.slice i d.length k] 41)=W at *;clear hW;go_loopw [5,14] (λb6 E wr=>∃c p:Nat,c<=a.length/\p<=c/\E=.int .i64 c/\b6=.int .i64 p/\bU wr B n (.slice r a.length s) m/\Fr B W wr) (λ_ E _=>a.length-(intOf E).toNat);case atStart=>exact ⟨0,0,zq _,zq _,rfl,rfl,b3.o,Fr.refl _ _⟩
 case round=>
  obtain ⟨c,p,d3,d5,rfl,rfl,e,f⟩:=hrel;by_cases c1:c<a.length
  ·obtain ⟨b,o,H,J,rfl,c2,b7,b8,D,z⟩:=(a6.o.fr f).cell c c1;obtain ⟨A,C⟩:=a5.o a[c] (zv _);obtain ⟨c8,c9,b9⟩:=e.len;have d4:(m.length:Int)<=60:=by have:=e.ok.few;omega
   have c3:=f.cell M.o.1 P.o;have c4:=f.cell M.o.2 P.o;generalize a[c]=y at *;obtain ⟨I,L⟩:=y;simp only at b7 b8 A C z D;have g:aB wr (wr.alloc (.cells #[.bool I,.slice H L.length J] 41)):=(Below.refl _ _).alloc (zz _) _;have a4:=aA (aBu B n _ m (wr.alloc (.cells #[.bool I,.slice H L.length J] 41)) j I i H k J d L (e.below g) (b4.o.fr (f.trans (Fr.of_below g))) (z.fr (Fr.of_below g)) D c5 A c6 C);have a9:=aA (f.trans (Fr.of_below g));have d1:=aD g b9;have d6:=aD g c3;have d7:=aD g c4;clear g e f z c2 D A C;go_wp2_with (first
    |(go_at_call 146;refine (aC a4).mono ?_;rintro t w1 ⟨F,c7,rfl,a0,Y,⟨b5,rfl⟩,-,-⟩;have a3:=aA (aBv B n _ m b5 w1 a0);have b1:=aA (a9.o.trans Y);clear a0 Y)
    |(go_at_call 147;refine (aC a3).mono ?_;rintro t d8 ⟨rfl,a1,Z⟩;have O:=aA a1;have N:=aA (b1.o.trans Z);clear a1 Z))
   ·go_roundw;case rel=>exact ⟨c+1,p+1,by omega,by omega,by go_num,by go_num,O.o,N.o⟩
    case measure=>simp [intOf];omega
   ·go_roundw;case rel=>exact ⟨c+1,p,by omega,by omega,by go_num,rfl,O.o,N.o⟩
    case measure=>simp [intOf];omega
  ·have b2:=aA e;have a7:=aA f;clear e f;go_wp2;go_ret;exact ⟨p,rfl,by omega,b2.o,a8.o.trans a7.o⟩
theorem aMe(B i:Nat)(g:Option Addr)(p:Nat)(e:List Lt)(n:bD)(w:World)(I:Option Addr)(a2:Nat)(a:List Lt)(d:bU w B i (.slice g e.length p) n)(t:dD w B g e)(s:dD w B I a)(M:lQ e)(L:lQ a)(a6:0<a.length):Calls zw 144 #[.pointer (some ⟨i,0,none⟩),.slice I a.length a2] w λJ T=>∃r:Nat,J=.returned (.int .i64 r)/\r<a.length/\bU T B i (.slice g e.length p) n/\Fr B w T:=by
 have a8:=d.among;have b1:=t.few;have a9:=s.few;have a1:=aA d;have W:=aA t;have V:=aA s;have a0:=aA M;have Z:=aA L;clear d t s M L;go_enter Tryz.func144,Tryz.ntmps144;go_wp2_with fail;go_quiet (fail);go_wp2;go_loopw [5,6,18] (λb a4 A wr=>∃c k q:Nat,c<=a.length/\k<a.length/\q<=9/\A=.int .i64 c/\b=.int .i64 k/\a4=.int .i64 q/\bU wr B i (.slice g e.length p) n/\Fr B w wr) (λ_ _ A _=>a.length-(intOf A).toNat);case atStart=>exact ⟨0,0,e.length+1,zq _,a6,by omega,rfl,rfl,by go_num,a1.o.drawn (by first|exact kG _ _ _|exact ⟨_,rfl⟩),(Fr.refl _ _).drawn (by first|exact kG _ _ _|exact ⟨_,rfl⟩)⟩
 case round=>
  obtain ⟨c,k,q,b2,P,b3,rfl,rfl,rfl,d,f⟩:=hrel;by_cases O:c<a.length
  ·obtain ⟨b,o,C,E,rfl,a7,a3,a5,S,u⟩:=(V.o.fr f).cell c O;obtain ⟨x,z⟩:=Z.o a[c] (zv _);generalize a[c]=y at *;obtain ⟨D,F⟩:=y;simp only at a3 a5 x z u S;have j:aB wr (wr.alloc (.cells #[.bool D,.slice C F.length E] 41)):=(Below.refl _ _).alloc (zz _) _;have U:=aA (aMd B i g p e n (wr.alloc (.cells #[.bool D,.slice C F.length E] 41)) D C E F (d.below j) (W.o.fr (f.trans (Fr.of_below j))) (u.fr (Fr.of_below j)) x z a0.o);have Y:=aA (f.trans (Fr.of_below j));clear j d f u a7 S x z;go_wp2_with (first
    |(go_at_call 160;refine (aC U).mono ?_;rintro J w1 ⟨r,rfl,b4,Q,N⟩;have m:=aA Q;have H:=aA (Y.o.trans N);clear Q N))
   ·go_roundw;case rel=>exact ⟨c+1,c,r,by omega,O,by omega,by go_num,rfl,rfl,m.o,H.o⟩
    case measure=>simp [intOf];omega
   ·go_roundw;case rel=>exact ⟨c+1,k,q,by omega,P,by omega,by go_num,rfl,rfl,m.o,H.o⟩
    case measure=>simp [intOf];omega
  ·have m:=aA d;have X:=aA f;clear d f;go_wp2;go_ret;exact ⟨k,rfl,P,m.o,X.o⟩
def mG(c:Nd)(l:List Nd):Bool:=l.any λa=>decide (c=a)
theorem aEl(c:Nd)(l:List Nd):mG c l=true↔c∈l:=by
 simp only [mG,zb,decide_eq_true_eq];constructor
 ·rintro ⟨d,a,rfl⟩;exact a
 ·intro a;exact ⟨c,a,rfl⟩
theorem aMf(c:Nd)(l:List Nd)(a:Nat)(d:a<l.length):mG c (l.take (a+1))=(mG c (l.take a) || decide (c=l[a])):=by rw [zy d,mG,mG,List.any_append];simp
theorem aMg{c:Nd}{d:Nat}(a:mG c (l.take d)=true):mG c l=true:=by rw [aEl] at a ⊢;exact zi a
theorem aMh(s:Option Addr)(D:Nat)(l:List Nd)(c:ByteArray)(d:Int)(w:World)(j:cS w s l):Calls zw 170 #[.slice s l.length D,.agg #[.string c,.int .i64 d]] w λE F=>∃A:Int,E=.returned (.int .i64 A)/\decide (0<=A)=mG (c,d) l/\aB w F:=by
 have L:=j.few;have m:aB w (w.alloc (.cells #[.string c,.int .i64 d] 43)):=(Below.refl _ _).alloc (zz _) _;have u:=sM w (.string c) (.int .i64 d) 43;have t:=j.below m (zz _);have p:=aA m;have q:=aA u;have C:=aA t;clear j m u t;go_enter Tryz.func170,Tryz.ntmps170;go_wp2;generalize hW:w.alloc (.cells #[.string c,.int .i64 d] 43)=W at *;clear hW;go_loopw [8] (λn wr=>∃a:Nat,a<=l.length/\n=.int .i64 a/\(∃z,wr=W.drewN z)/\mG (c,d) (l.take a)=false) (λn _=>l.length-(intOf n).toNat);case atStart=>exact ⟨0,zq _,rfl,⟨0,rfl⟩,rfl⟩
 case round=>
  obtain ⟨a,M,rfl,⟨z,rfl⟩,f⟩:=hrel;by_cases y:a<l.length
  ·obtain ⟨b,o,rfl,H,I⟩:=C.o.cell a y;have N:=q.o.1;have O:=q.o.2;have k:=tP (c,d) l[a];simp only at k;have J:=tO;have P:=tQ c l[a].1 d l[a].2;have e:=aMf (c,d) l a y;rw [f,Bool.false_or] at e;have r:=aA f;clear f;by_cases g:(c,d)=l[a]
   ·rw [fH g] at k e;have i:=aA (aMg e);clear g e;go_wp2;go_quiet (fail);go_wp2;go_ret;refine ⟨_,rfl,?_,aZ p.o (aQ (by first|exact kG _ _ _|exact ⟨_,rfl⟩))⟩;rw [i.o];simp
   ·rw [gH g] at k e;have i:=aA e;clear g e;go_wp2;go_quiet (fail);go_wp2;go_roundw;case rel=>exact ⟨a+1,by omega,by go_num,(by first|exact kG _ _ _|exact ⟨_,rfl⟩),i.o⟩
    case measure=>simp [intOf];omega
  ·have x:l.take a=l:=zs (by omega);rw [x] at f;have r:=aA f;clear x f;go_wp2;go_ret;exact ⟨_,rfl,by rw [r.o];rfl,aZ p.o (aQ (by first|exact kG _ _ _|exact ⟨_,rfl⟩))⟩
theorem aMi(d:Option Addr)(g:Nat)(l:List Nd)(a:ByteArray)(c:Int)(w:World)(j:cS w d l):Calls zw 159 #[.slice d l.length g,.agg #[.string a,.int .i64 c]] w λi r=>i=.returned (.bool (mG (a,c) l))/\aB w r:=by
 have e:aB w (w.alloc (.cells #[.string a,.int .i64 c] 43)):=(Below.refl _ _).alloc (zz _) _;have n:=aA (aMh d g l a c _ (j.below e (zz _)));have p:=aA e;clear e j;go_enter Tryz.func159,Tryz.ntmps159;go_wp2_with (go_at_call 170;refine (aC n).mono ?_;rintro i w1 ⟨s,rfl,m,k⟩;have f:=aA m;have q:=aA (p.o.trans (k.mono (by simp)));clear m k);go_ret;exact ⟨cX (by first|exact f.o|simpa using f.o),q.o⟩
def eU(c:bD)(d:List Nd)(a:Nd):Bool:=aM a && (look c a.2).isNone && mG a d
theorem aEm(w:World)(a:Option Addr)(l c:Nat):(binOp .eql 39 (.slice a l c) (.slice none 0 0)).run zw w=.ok (.bool a.isNone) w:=by simp only [binOp];simp [run_equal_slice_nil w 39 43 a l c Tryz.underlying39]
theorem sN{W c:World}(e:∃a,c=W.drewN a)(d:aB c w1):aB W w1:=by obtain ⟨a,rfl⟩:=e;exact (aQ ⟨a,rfl⟩).trans d
theorem aMj(B x Q I:Nat)(a1:Value)(n:bD)(s:Option Addr)(S:Nat)(e:List Nd)(c:ByteArray)(g:Int)(w:World)(y:bU w B x a1 n)(A:fM w B s e)(F:w.cell? ⟨Q,0,none⟩=some (.pointer (some ⟨x,0,none⟩)))(C:w.cell? ⟨I,1,none⟩=some (.slice s e.length S))(H:dE (c,g)=true):Calls zw 158 #[.agg #[.string c,.int .i64 g],.pointer (some ⟨Q,0,none⟩),.pointer (some ⟨I,0,none⟩)] w λr m=>r=.returned (.bool (eU n e (c,g)))/\aB w m:=by
 have f:aB w (w.alloc (.cells #[.string c,.int .i64 g] 43)):=(Below.refl _ _).alloc (zz _) _;have V:=sM w (.string c) (.int .i64 g) 43;have O:=aD f F;have N:=aD f C;have p:=aA (λwx=>nH c g wx);by_cases k:c.toList.isEmpty=true
 ·rw [k] at p;have a3:=aHz H k;obtain ⟨Y,a4⟩:=a3;simp only at Y a4;obtain ⟨d,rfl⟩:=Int.eq_ofNat_of_zero_le Y;obtain ⟨v,X,z⟩:=(y.below f).term d (by omega);have T:=aA (λwx (a2:cS wx s e)=>aMi s S e c (d:Int) wx a2);have u:=aA f;have a0:=aA (A.fr (Fr.of_below f)).nodes;obtain ⟨D,E⟩:=V;cases hl:look n (d:Int) with
  |none=>
   rw [hl] at z;obtain rfl:v=.slice none 0 0:=z;have a5:=λwx=>aEm wx none 0 0
   have q:=aA (show eU n e (c,(d:Int))=mG (c,(d:Int)) e by simp [eU,aM,k,hl]);clear y A F C f H k hl;go_enter zd,zg;go_wp2_with fail;generalize hW:w.alloc (.cells #[.string c,.int .i64 (d:Int)] 43)=W at *;clear hW;go_region_held3 (λm=>m.cell? ⟨w.heap.size,0,none⟩=some (.string c)/\m.cell? ⟨w.heap.size,1,none⟩=some (.int .i64 (d:Int))/\m.cell? ⟨Q,0,none⟩=some (.pointer (some ⟨x,0,none⟩))/\m.cell? ⟨I,1,none⟩=some (.slice s e.length S)/\m.cell? ⟨x,1+d,none⟩=some (.slice none 0 0)) (go_keep)
    (first
     |(go_at_call 36;refine (aC p _).mono ?_;rintro r w1 ⟨rfl,a⟩;replace a:=sN (W:=W) (by first|exact ⟨0,rfl⟩|exact ⟨1,rfl⟩|exact ⟨_,rfl⟩) a;have c0:=aD a D;have J:=aD a E;have L:=aD a O;have M:=aD a N;have U:=aD a X;have i:=aA a;clear a)
     |(go_at_call 159;refine (aC T _ (a0.o.below i.o (zz _))).mono ?_;rintro r b4 ⟨rfl,j⟩;have a8:=aD j c0;have a9:=aD j J;have b1:=aD j L;have b2:=aD j M;have b3:=aD j U;have Z:=aA (i.o.trans (j.mono i.o.size));clear j))
   go_wp2;go_ret;exact ⟨cX q.o.symm,aZ u.o Z.o⟩
  |some t=>
   rw [hl] at z;obtain ⟨a6,a7,rfl,-⟩:=z;have a5:=λwx=>aEm wx (some a6) t.length a7
   have q:=aA (show eU n e (c,(d:Int))=false by simp [eU,hl]);clear y A F C f H k hl T;go_enter zd,zg;go_wp2_with fail;generalize hW:w.alloc (.cells #[.string c,.int .i64 (d:Int)] 43)=W at *;clear hW;first|go_region_with (go_at_call 36;refine (aC p _).mono ?_;rintro r w1 ⟨rfl,a⟩;replace a:=sN (W:=W) (by first|exact ⟨0,rfl⟩|exact ⟨1,rfl⟩|exact ⟨_,rfl⟩) a;have c0:=aD a D;have J:=aD a E;have L:=aD a O;have M:=aD a N;have U:=aD a X;have i:=aA a;clear a)|fail
   all_goals
    go_wp2;go_ret;exact ⟨cX q.o.symm,aZ u.o i.o⟩
 ·have P:c.toList.isEmpty=false:=by simpa using k
  rw [P] at p;have q:=aA (show eU n e (c,g)=false by simp [eU,aM,P]);have u:=aA f;obtain ⟨D,E⟩:=V;clear y A F C f H k P;go_enter zd,zg;go_wp2_with fail;generalize hW:w.alloc (.cells #[.string c,.int .i64 g] 43)=W at *;clear hW;first|go_region_with (go_at_call 36;refine (aC p _).mono ?_;rintro r w1 ⟨rfl,a⟩;replace a:=sN (W:=W) (by first|exact ⟨0,rfl⟩|exact ⟨1,rfl⟩|exact ⟨_,rfl⟩) a;have c0:=aD a D;have J:=aD a E;have L:=aD a O;have M:=aD a N;have i:=aA a;clear a)|fail
  all_goals
   go_wp2;go_ret;exact ⟨cX q.o.symm,aZ u.o i.o⟩
theorem aMk{f:Nd->Bool}(l:List Nd)(k:Nat)(a:k<l.length):(l.take (k+1)).any f=((l.take k).any f || f l[k]):=by rw [zy a,List.any_append];simp
theorem aMl{f:Nd->Bool}{k:Nat}(a:(l.take k).any f=true):l.any f=true:=by rw [zb] at a ⊢;obtain ⟨e,d,c⟩:=a;exact ⟨e,zi d,c⟩
theorem aMm(u:Option Addr)(cap F H:Nat)(d:Nd->Bool)(l:List Nd)(w:World)(z:cS w u l)
  (C:∀q∈l,∀wx,aB w wx->Calls zw 158 #[.agg #[.string q.1,.int .i64 q.2],.pointer (some ⟨F,0,none⟩),.pointer (some ⟨H,0,none⟩)] wx λe r=>e=.returned (.bool (d q))/\aB wx r):Calls zw 169 #[.slice u l.length cap,.func (Fn.func 158) #[] #[.pointer (some ⟨F,0,none⟩),.pointer (some ⟨H,0,none⟩)]] w λe r=>∃I:Int,e=.returned (.int .i64 I)/\decide (0<=I)=l.any d/\aB w r:=by
 have Q:=z.few;have J:=aA C;clear C;go_enter Tryz.func169,Tryz.ntmps169;go_wp2;go_loopw [8] (λp wr=>∃a:Nat,a<=l.length/\p=.int .i64 a/\(l.take a).any d=false/\aB w wr) (λp _=>l.length-(intOf p).toNat);case atStart=>exact ⟨0,zq _,rfl,rfl,Below.refl _ _⟩
 case round=>
  obtain ⟨a,S,rfl,g,c⟩:=hrel;by_cases E:a<l.length
  ·obtain ⟨b,o,rfl,x,y⟩:=z.cell a E;have M:=aD c x;have N:=aD c y;have k:=aMk (f:=d) l a E;rw [g,Bool.false_or] at k;have n:=aMl (f:=d) (l:=l) (k:=a+1);rw [k] at n;have i:=aA (J.o l[a] (zv _) wr c);generalize l[a]=nd at *;obtain ⟨O,P⟩:=nd;simp only at M N;have s:=aA k;have t:=aA n;have j:=aA c;have A:=c.size;clear k n c g x y;cases hl:d (O,P)
   ·rw [hl] at i s;clear hl;go_wp2_with (go_at_call 158;refine (aC i).mono ?_;rintro e w1 ⟨rfl,f⟩;have m:=aA (j.o.trans (f.mono A));clear f);go_roundw;case rel=>exact ⟨a+1,by omega,by go_num,s.o,m.o⟩
    case measure=>simp [intOf];omega
   ·rw [hl] at i t;clear hl;go_wp2_with (go_at_call 158;refine (aC i).mono ?_;rintro e w1 ⟨rfl,f⟩;have m:=aA (j.o.trans (f.mono A));clear f);go_ret;exact ⟨_,rfl,by rw [t.o (by first|rfl|trivial)];simp,m.o⟩
  ·have D:l.take a=l:=zs (by omega);rw [D] at g;have L:=aA g;have j:=aA c;clear D c g;go_wp2;go_ret;exact ⟨_,rfl,by rw [L.o];rfl,j.o⟩
theorem aMn(c:Option Addr)(cap f g:Nat)(d:Nd->Bool)(l:List Nd)(w:World)(k:cS w c l)
  (n:∀e∈l,∀wx,aB w wx->Calls zw 158 #[.agg #[.string e.1,.int .i64 e.2],.pointer (some ⟨f,0,none⟩),.pointer (some ⟨g,0,none⟩)] wx λa i=>a=.returned (.bool (d e))/\aB wx i):Calls zw 157 #[.slice c l.length cap,.func (Fn.func 158) #[] #[.pointer (some ⟨f,0,none⟩),.pointer (some ⟨g,0,none⟩)]] w λa i=>a=.returned (.bool (l.any d))/\aB w i:=by
 have q:=aA (aMm c cap f g d l w k n);clear n k;go_enter Tryz.func157,Tryz.ntmps157;go_wp2_with (go_at_call 169;refine (aC q).mono ?_;rintro a w1 ⟨s,rfl,p,m⟩;have j:=aA p;have r:=aA m;clear p m);go_ret;exact ⟨cX (by first|exact j.o|simpa using j.o),r.o⟩
theorem aMo(l:List Nd):∀a,aN l a=true->∀d∈l,dE d=true:=by
 induction l with
 |nil=>intro a _ d hn;simp at hn
 |cons m r ih=>
  intro a c d hn;cases a with
  |zero=>simp [aN] at c
  |succ a=>
   rw [mQ,Bool.and_eq_true] at c;rcases List.mem_cons.1 hn with rfl|hn
   ·exact c.1
   ·exact ih _ c.2 d hn
theorem aMp(B d:Nat)(t:Value)(n:bD)(w:World)(j m:Bool)(e f:Option Addr)(g i:Nat)(a c:List Nd)(x:bU w B d t n)(y:fM w B e a)(z:fM w B f c)(I:aN a 1=true):Calls zw 143 #[.pointer (some ⟨d,0,none⟩),.agg #[.bool j,.slice e a.length g],.agg #[.bool m,.slice f c.length i]] w λu J=>u=.returned (.bool (a.any (eU n c)))/\aB w J:=by
 have k:aB w (((w.alloc (.cells #[.pointer (some ⟨d,0,none⟩)] 170)).alloc (.cells #[.bool j,.slice e a.length g] 41)).alloc (.cells #[.bool m,.slice f c.length i] 41)):=(((Below.refl _ _).alloc (zz _) _).alloc (by simp) _).alloc (by simp;omega) _;have r:(((w.alloc (.cells #[.pointer (some ⟨d,0,none⟩)] 170)).alloc (.cells #[.bool j,.slice e a.length g] 41)).alloc (.cells #[.bool m,.slice f c.length i] 41)).cell? ⟨w.heap.size,0,none⟩=some (.pointer (some ⟨d,0,none⟩)):=aD ((Below.refl _ _).alloc (zz _) _) (aD ((Below.refl _ _).alloc (zz _) _) (by simp));have s:(((w.alloc (.cells #[.pointer (some ⟨d,0,none⟩)] 170)).alloc (.cells #[.bool j,.slice e a.length g] 41)).alloc (.cells #[.bool m,.slice f c.length i] 41)).cell? ⟨w.heap.size+2,1,none⟩=some (.slice f c.length i):=by have:=(sM ((w.alloc (.cells #[.pointer (some ⟨d,0,none⟩)] 170)).alloc (.cells #[.bool j,.slice e a.length g] 41)) (.bool m) (.slice f c.length i) 41).2;rwa [show ((w.alloc (.cells #[.pointer (some ⟨d,0,none⟩)] 170)).alloc (.cells #[.bool j,.slice e a.length g] 41)).heap.size=w.heap.size+2 by simp] at this
 have C:=aMo a 1 I;have D:=aA (aMn e g w.heap.size (w.heap.size+2) (eU n c) a _ (y.fr (Fr.of_below k)).nodes (λq H wx p=>aMj B d w.heap.size (w.heap.size+2) t n f i c q.1 q.2 wx ((x.below k).below p) ((z.fr (Fr.of_below k)).fr (Fr.of_below p)) (aD p r) (aD p s) (C q H)));have E:=aA k;clear k r s C x y z;go_enter Tryz.func143,Tryz.ntmps143;go_wp2_with (go_at_call 157;refine (aC D).mono ?_;rintro u w1 ⟨rfl,A⟩;have F:=aA (aZ E.o A);clear A);go_ret;exact ⟨rfl,F.o⟩
theorem aMq{d:bD}{f c:Lt}(e:f.2.any (eU d c.2)=false):∀a∈f.2,aM a=true->look d a.2=none->a∉c.2:=by intro a j k g i;rw [List.any_eq_false] at e;have:=e a j;simp [eU,k,g,(aEl a c.2).2 i] at this
def pD(w:World)(B:Nat)(v:Value)(l:List Nd):Prop:=∃a cap,v=.slice a l.length cap/\l.length<=cap/\fM w B a l
def iE(w:World)(B b0:Nat)(wr:World)(v:Value)(G:List Lt):Prop:=∃a:List (Lt×Value),a.map Prod.fst=G/\wr.ownsRow b0 41 2 v a.length (bC a)/\∀c∈a,pD w B c.2 c.1.2
theorem iE.nil(w:World)(B b0:Nat)(wr:World):iE w B b0 wr (.slice none 0 0) []:=⟨[],rfl,World.ownsRow_nil _ _ _ _,by simp⟩
theorem iE.below(a:iE w B b0 wr v G)(k:aB wr wx):iE w B b0 wx v G:=by obtain ⟨P,c,d,e⟩:=a;exact ⟨P,c,bF d k (zz _),e⟩
theorem iE.kept{a:Option Nat}(d:iE w B b0 wr v G)(k:wr.grownBy wx a)(i:v.ownBlock=none\/v.ownBlock≠a):iE w B b0 wx v G:=by obtain ⟨c,e,f,g⟩:=d;exact ⟨c,e,f.kept k i,g⟩
theorem iE.lt(c:iE w B b0 wr v G):∀a,v.ownBlock=some a->b0<=a/\a<wr.heap.size:=by obtain ⟨P,_,d,_⟩:=c;exact cL d
theorem aMr{f:Nat}{a e:Nat}{m:List Value}(c:w.ownsRow f 41 2 (.slice (some ⟨a,0,none⟩) e cap) e m):lF w B a:=by
 obtain ⟨_,⟨c,_⟩|⟨i,g,q,k,s,j,_⟩⟩:=c
 ·simp at c
 ·obtain ⟨rfl,-⟩ : a=i/\cap=g:=by simpa using k
  refine zh λp n r d=>?_
  rw [j] at d;simp at d;rw [<-d.2.1];exact ⟨by decide,by decide⟩
theorem iE.lits(u:iE w B b0 wr v G)(m:aB w wr)(i:G.length<=8):∃c cap,v=.slice c G.length cap/\G.length<=cap/\dD wr B c G/\∀p,c=some p->v.ownBlock=some p.block:=by
 obtain ⟨P,rfl,g,x⟩:=u;have d:=g;obtain ⟨_,⟨rfl,f⟩|⟨e,cap,C,rfl,D,E,y,F,I,H⟩⟩:=g
 ·exact ⟨none,0,by simp [f],by simp [f],⟨i,λm A=>by simp at A;omega⟩,by simp⟩
 ·refine ⟨some ⟨e,0,none⟩,cap,by simp,by simpa using y,⟨i,λa z=>?_⟩,λp k=>by simp at k;subst k;rfl⟩;have j:a<P.length:=by simpa using z
  obtain ⟨n,q,r,s,t⟩:=x P[a] (zv _);refine ⟨e,0,n,q,rfl,aMr d,?_,?_,?_,?_⟩
  ·rw [Nat.zero_add,d.cellAt (a*2) (by omega),(vG P a j).1];simp
  ·rw [Nat.zero_add,d.cellAt (a*2+1) (by omega),(vG P a j).2,r];simp
  ·simpa using s
  ·have:=t.fr (Fr.of_below m);simpa using this
def iQ(w:World)(B b o:Nat)(c0:Lt)(wr:World)(v:Value)(gk:Option Nat)(G:List Lt):Prop:=
 (v=.slice (some ⟨b,o,none⟩) 1 1/\G=[c0]/\gk=none)\/(iE w B w.heap.size wr v G/\gk=v.ownBlock/\0<G.length)
theorem iQ.below(a:iQ w B b o c0 wr v gk G)(k:aB wr wx):iQ w B b o c0 wx v gk G:=by
 rcases a with a|⟨c,d⟩
 ·exact zf a
 ·exact zh ⟨c.below k,d⟩
theorem iQ.kept{d:Option Nat}(c:iQ w B b o c0 wr v gk G)(k:wr.grownBy wx d)(i:∀a,d=some a->gk≠some a):iQ w B b o c0 wx v gk G:=by
 rcases c with c|⟨f,rfl,g⟩
 ·exact zf c
 ·refine zh ⟨f.kept k ?_,rfl,g⟩;cases hv:v.ownBlock with
  |none=>exact zf rfl
  |some a=>
   right;intro e;exact i a e.symm hv
theorem iQ.lt(c:iQ w B b o c0 wr v gk G):∀a,gk=some a->w.heap.size<=a/\a<wr.heap.size:=by
 rcases c with ⟨_,_,rfl⟩|⟨d,rfl,_⟩
 ·intro a e;simp at e
 ·exact d.lt
theorem iQ.lits{c:List Lt}(s:0<c.length)(x:dD w B (some ⟨b,o,none⟩) c)(r:iQ w B b o c[0] wr v gk G)(m:aB w wr)(u:G.length<=8):∃i j cap,v=.slice (some ⟨i,j,none⟩) G.length cap/\G.length<=cap/\dD wr B (some ⟨i,j,none⟩) G:=by
 rcases r with ⟨rfl,rfl,rfl⟩|⟨d,_,e⟩
 ·refine ⟨b,o,1,rfl,zz _,⟨by simp,λC y=>?_⟩⟩;have z:C=0:=by simpa using y
  subst z;obtain ⟨a,g,n,p,q,A,d,t,e,f⟩:=(x.fr (Fr.of_below m)).cell 0 s;obtain ⟨rfl,rfl⟩ : b=a/\o=g:=by simpa using q
  exact ⟨b,o,n,p,rfl,A,d,t,e,f⟩
 ·obtain ⟨D,cap,rfl,f,k,_⟩:=d.lits m u;obtain ⟨a,g,_,_,rfl,_⟩:=k.cell 0 e;exact ⟨a,g,cap,rfl,f,k⟩
theorem iQ.more{a:Value}{x:Lt}{P:List (Lt×Value)}(d:P.map Prod.fst=G)(c:∀p∈P,pD w B p.2 p.1.2)(f:pD w B a x.2)
  (e:w1.ownsRow w.heap.size 41 2 v (P.length+1) (bC P++[.bool x.1,a])):iQ w B b o c0 w1 v v.ownBlock (G++[x]):=by
 refine zh ⟨⟨P++[(x,a)],by simp [d],by rw [xR,ze];exact e,λp hp=>?_⟩,rfl,by simp⟩;rcases zo.1 hp with hp|hp
 ·exact c p hp
 ·simp at hp;subst hp;exact f
theorem iE.more{a:Value}{x:Lt}{P:List (Lt×Value)}(d:P.map Prod.fst=G)(c:∀p∈P,pD w B p.2 p.1.2)(f:pD w B a x.2)
  (e:w1.ownsRow b0 41 2 v (P.length+1) (bC P++[.bool x.1,a])):iE w B b0 w1 v (G++[x]):=by
 refine ⟨P++[(x,a)],by simp [d],by rw [xR,ze];exact e,λp hp=>?_⟩;rcases zo.1 hp with hp|hp
 ·exact c p hp
 ·simp at hp;subst hp;exact f
structure kJ(w wr:World)(B b o:Nat)(c0:Lt)(p:Lt->Bool)(gk:Option Nat)(G R:List Lt)(wi:World)(gv av:Value):Prop where
 grp:∃gk',iQ w B b o c0 wi gv gk' (G++R.filter p)/\(∀k,av.ownBlock=some k->gk'≠some k)/\(gk'=gk\/∃k,gk'=some k/\wr.heap.size<=k)
 row:iE w B wr.heap.size wi av (R.filter λy=>!p y)
 rest:∀k,k<wr.heap.size->gk≠some k->wi.heap[k]?=wr.heap[k]?
 size:wr.heap.size<=wi.heap.size
 low:aB w wi
theorem kJ.below{p:Lt->Bool}(a:kJ w wr B b o c0 p gk G R wi gv av)(k:aB wi wx):kJ w wr B b o c0 p gk G R wx gv av:=by obtain ⟨gk',d,e,f⟩:=a.grp;exact ⟨⟨gk',d.below k,e,f⟩,a.row.below k,λj c g=>by rw [k.block j (zm c a.size)];exact a.rest j c g,zp a.size k.size,a.low.trans (k.mono a.low.size)⟩
theorem kJ.group{e p:Nat}{y:Lt}{j:Lt->Bool}{gk':Option Nat}(c:kJ w wr B b o c0 j gk G R wi gv av)(n:j y=true)
  (k:∀a,av.ownBlock=some a->gk'≠some a) (f:gk'=gk\/∃a,gk'=some a/\wr.heap.size<=a)
  (r:iQ w B b o c0 w1 (.slice (some ⟨e,0,none⟩) p cap) (some e) (G++R.filter j++[y])) (i:wi.grownBy w1 gk') (hat:gk'=some e\/wi.heap.size<=e) (q:∀a,gk'=some a->w.heap.size<=a):kJ w wr B b o c0 j gk G (R++[y]) w1 (.slice (some ⟨e,0,none⟩) p cap) av:=by
 refine ⟨⟨some e,?_,λa g=>?_,?_⟩,?_,λa g m=>?_,zp c.size i.size,c.low.grown i c.low.size λa d=>q a d⟩
 ·rw [zr,zu n,zn,<-List.append_assoc];exact r
 ·rcases hat with hat|hat
  ·rw [<-hat];exact k a g
  ·have:=(c.row.lt a g).2;simp;omega
 ·rcases hat with hat|hat
  ·rw [<-hat];exact f
  ·exact zh ⟨e,rfl,zp c.size hat⟩
 ·rw [zr,zt (by simp [n]),zn,List.append_nil];refine c.row.kept i ?_;cases hv:av.ownBlock with
  |none=>exact zf rfl
  |some a=>exact zh (λd=>k a hv d.symm)
 ·rw [i.block a (zm g c.size) (λd=>?_)]
  ·exact c.rest a g m
  ·rcases f with f|⟨t,f,s⟩
   ·exact m (by rw [<-f];exact d.symm)
   ·rw [f] at d;simp at d;omega
theorem kJ.apart{e m:Nat}{y:Lt}{p:Lt->Bool}(a:kJ w wr B b o c0 p gk G R wi gv av)(j:p y=false)
  (s:iE w B wr.heap.size w1 (.slice (some ⟨e,0,none⟩) m cap) ((R.filter λy=>!p y)++[y])) (f:wi.grownBy w1 av.ownBlock) (hat:av.ownBlock=some e\/e=wi.heap.size) (t:w.heap.size<=wr.heap.size):kJ w wr B b o c0 p gk G (R++[y]) w1 gv (.slice (some ⟨e,0,none⟩) m cap):=by
 obtain ⟨n,g,i,q⟩:=a.grp;refine ⟨⟨n,?_,λk d=>?_,q⟩,?_,λk d r=>?_,zp a.size f.size,a.low.grown f a.low.size λk c=>zp t (a.row.lt k c).1⟩
 ·rw [zr,zt (by simp [j]),zn,List.append_nil];exact g.kept f i
 ·simp [Value.ownBlock] at d;subst d;rcases hat with hat|hat
  ·exact i _ hat
  ·intro c;have:=(g.lt _ c).2;omega
 ·rw [zr,zu (by simp [j]),zn];exact s
 ·rw [f.block k (zm d a.size) (λc=>?_)]
  ·exact a.rest k d r
  ·have:=(a.row.lt k c.symm).1;omega
theorem kJ.start{p:Lt->Bool}(a:iQ w B b o c0 wr gv gk G)(c:aB w wr):kJ w wr B b o c0 p gk G [] wr gv (.slice none 0 0):=
 ⟨⟨gk,by simpa using a,by simp [Value.ownBlock],zf rfl⟩,iE.nil _ _ _ _,λ_ _ _=>rfl,zz _,c⟩
theorem dD.move{f:Option Addr}(j:dD wr B f R)(p:∀a,a<wr.heap.size->gk≠some a->wi.heap[a]?=wr.heap[a]?)(F:∀q,f=some q->gk≠some q.block)(A:∀a,gk=some a->B<=a):dD wi B f R:=by
 refine ⟨j.few,λa D=>?_⟩;obtain ⟨b,o,s,cap,d,hs,k,x,y,c⟩:=j.cell a D;have e:=p b (zk wr _ k) (F _ d);refine ⟨b,o,s,cap,d,?_,(zx e).trans k,(zx e).trans x,y,⟨⟨c.nodes.few,c.nodes.short,λI C=>?_⟩,c.low⟩⟩
 ·rcases hs with hs|hs
  ·exact zf hs
  ·exact zh λt r u H=>hs t r u (by rw [<-e];exact H)
 ·obtain ⟨g,J,i,m,z⟩:=c.nodes.cell I C;have E:=c.low _ i;have n:=p g (zk wr _ m) (λd=>by have:=A _ d;simp at E;omega);exact ⟨g,J,i,(zx n).trans m,(zx n).trans z⟩
theorem dD.tail{c:List Lt}(d:dD w B (some ⟨b,o,none⟩) c):dD w B (some ⟨b,o+2,none⟩) c.tail:=by
 refine ⟨by have:=d.few;simp;omega,λa n=>?_⟩;have p:a+1<c.length:=by simp at n;omega
 obtain ⟨f,s,e,cap,g,q,i,j,k,m⟩:=d.cell (a+1) p;obtain ⟨rfl,rfl⟩ : b=f/\o=s:=by simpa using g
 have r:c.tail[a]=c[a+1]:=by simp
 rw [r];exact ⟨b,o+2,e,cap,rfl,q,by rw [show o+2+a*2=o+(a+1)*2 by omega];exact i,by rw [show o+2+a*2+1=o+(a+1)*2+1 by omega];exact j,k,m⟩
theorem aMs{e:Type}(a:e->Bool)(G R c:List e)(f:∀l,l∈c↔l∈G\/l∈R):∀l,l∈c↔l∈G++R.filter a\/l∈R.filter λg=>!a g:=by
 intro l;rw [f l,zo,zj,zj];by_cases d:a l=true
 ·simp [d]
 ·simp [d]
theorem aEn{d:Type}(c:d->Bool)(R:List d):(R.filter c).length+(R.filter λe=>!c e).length=R.length:=by
 induction R with
 |nil=>rfl
 |cons x r ih=>
  by_cases a:c x=true
  ·rw [zu a,zt (by simp [a])];simp;omega
  ·rw [zt a,zu (by simp [a])];simp;omega
def aMt(a G R:List Lt):Prop:=∀l,l∈a↔l∈G\/l∈R
theorem fM.back{c:Option Addr}(a:fM wr B c l)(k:aB w wr)(m:B<=w.heap.size):fM w B c l:=
 ⟨⟨a.nodes.few,a.nodes.short,λj i=>by
  obtain ⟨b,o,d,f,g⟩:=a.nodes.cell j i;have n:b<B:=a.low _ d;have e:=k.block b (by omega);exact ⟨b,o,d,(zx e).symm.trans f,(zx e).symm.trans g⟩⟩,a.low⟩
theorem aMu(B f2:Nat)(h0:Value)(i:bD)(w:World)(b o H:Nat)(c:List Lt)(h7:bU w B f2 h0 i)(d8:dD w B (some ⟨b,o,none⟩) c)(q2:c.length<=H)(h3:lQ c)(d7:0<c.length)(h2:B<=w.heap.size):Calls zw 122 #[.pointer (some ⟨f2,0,none⟩),.slice (some ⟨b,o,none⟩) c.length H] w λQ m=>∃(G R:List Lt) (c9 d6 d0:Nat) (x:Option Addr) (O:Nat),Q=.returned (.tuple #[.slice (some ⟨c9,d6,none⟩) G.length d0,.slice x R.length O])/\G.length<=d0/\R.length<=O/\
   dD m B (some ⟨c9,d6,none⟩) G/\dD m B x R/\aMt c G R/\G.length+R.length=c.length/\0<G.length/\aCh i G R/\aB w m:=by
 have q1:=d8.few;have n2:(1:Int)<=(H:Int):=by omega
 have n3:(1:Int)<=(c.length:Int):=by omega
 have n4:(c.length:Int)<=(H:Int):=by omega
 obtain ⟨p3,n9,j0⟩ : ∃x,(if H=1 then some (⟨b,o,none⟩ : Addr) else some ⟨b,o+2,none⟩)=x/\dD w B x c.tail:=by
  refine ⟨_,rfl,?_⟩;by_cases l9:H=1
  ·have:c.tail=[]:=List.eq_nil_of_length_eq_zero (by simp;omega);rw [this];exact ⟨by simp,λN b5=>by simp at b5⟩
  ·rw [aF l9];exact d8.tail
 have k8:=aA h7;have e5:=aA d8;have g4:=aA h3;have l3:=aA j0;have k2:aI (iQ w B b o c[0] w (.slice (some ⟨b,o,none⟩) 1 1) none [c[0]]):=aA (zf ⟨rfl,rfl,rfl⟩);clear h7 d8 h3 j0;obtain ⟨g1,f5,f6,f7,f8⟩:=info_parts sK;go_enter Tryz.func122,Tryz.ntmps122;go_wp2_with fail;go_quiet (fail);go_wp2;have f0:aI (aB w (w.drewN nq)):=aA (aQ ⟨_,rfl⟩);clear n9 n2 n3 n4;go_loopw [4,5,6] (λgv p4 g2 wr=>∃(j:Nat) (G R:List Lt) (gk:Option Nat) (x:Option Addr) (O:Nat),j<=G.length/\g2=.int .i64 j/\iQ w B b o c[0] wr gv gk G/\p4=.slice x R.length O/\R.length<=O/\dD wr B x R/\(∀q,x=some q->gk≠some q.block)/\aB w wr/\
   (∀l,l∈c↔l∈G\/l∈R)/\G.length+R.length=c.length/\0<G.length/\(∀g∈G.take j,∀a∈R,g.2.any (eU i a.2)=false)) (λ_ _ g2 _=>c.length-(intOf g2).toNat)
 case atStart=>
  refine ⟨0,[c[0]],c.tail,none,p3,H-1,zq _,rfl,k2.o.below f0.o,?_,by simp;omega,l3.o.fr (Fr.of_below f0.o),by simp,f0.o,?_,by simp;omega,by simp,by simp⟩
  ·simp
  ·intro l;cases c with
   |nil=>simp at d7
   |cons g r=>simp
 case round=>
  obtain ⟨j,G,R,gk,x,O,q4,rfl,U,rfl,o0,d9,Z,J,b6,n7,m0,b7⟩:=hrel;have m1:G.length<=8:=by omega
  obtain ⟨c9,d6,d0,rfl,m8,f4⟩:=U.lits d7 e5.o J m1;have o5:=J.size;by_cases i8:j<G.length
  ·have n1:(j:Int)<(G.length:Int):=by omega
   obtain ⟨g,M⟩ : ∃g,g=G[j]:=⟨_,rfl⟩;have o7:g∈c:=(b6 g).2 (zf (by rw [M];exact zv _));obtain ⟨j1,o6⟩:=g4.o g o7;have i5:∀N,gk=some N->B<=N:=λN b5=>zp h2 (U.lt N b5).1
   have k6:=aA (kJ.start (p:=λa=>g.2.any (eU i a.2)) U J);have g6:=aA M;have e8:=aA d9;have l0:=aA Z;have c5:=aA b6;have l1:=aA b7;have k4:=aA i5;have p7:=aA U.lt;have g3:=aA J;clear M d9 Z b6 b7 i5 U J f4;go_wp2;generalize hWR:wr=W0 at *;clear hWR;go_loopw [4,7,22] (λgv av g0 wi=>∃f:Nat,f<=R.length/\g0=.int .i64 f/\kJ w W0 B b o c[0] (λa=>g.2.any (eU i a.2)) gk G (R.take f) wi gv av) (λ_ _ g0 _=>R.length-(intOf g0).toNat);case atStart=>exact ⟨0,zq _,rfl,k6.o⟩
   case round=>
    obtain ⟨f,q3,rfl,t⟩:=hrel;by_cases i6:f<R.length
    ·obtain ⟨f3,L,Y,b3⟩:=t.grp;have n8:=aEn (λa=>g.2.any (eU i a.2)) (R.take f);have q7:(R.take f).length<=f:=List.length_take_le _ _;have h6:(G++(R.take f).filter λa=>g.2.any (eU i a.2)).length<=8:=by simp;omega
     obtain ⟨S,T,l8,rfl,m9,h5⟩:=L.lits d7 e5.o t.low h6;have n6:j<(G++(R.take f).filter λa=>g.2.any (eU i a.2)).length:=by simp;omega
     have i7:(G++(R.take f).filter λa=>g.2.any (eU i a.2))[j]=g:=by rw [List.getElem_append_left i8];exact g6.o.symm
     obtain ⟨l6,p2,e1,e3,Q,o1,a0,a2,j4,e0⟩:=h5.cell j n6;obtain ⟨rfl,rfl⟩ : S=l6/\T=p2:=by simpa using Q
     rw [i7] at a0 a2 j4 e0;have h9:=e8.o.move t.rest l0.o k4.o;obtain ⟨p8,q8,n,s,rfl,o2,b8,b9,f9,b1⟩:=h9.cell f i6;obtain ⟨a,z⟩ : ∃a,a=R[f]:=⟨_,rfl⟩;have o9:a∈c:=(c5.o a).2 (zh (by rw [z];exact zv _));obtain ⟨o3,o8⟩:=g4.o a o9;rw [<-z] at b8 b9 f9 b1;have i9:R.take (f+1)=R.take f++[a]:=by rw [zy i6,z]
     have h8:=k8.o.below t.low;have n5:(j:Int)<((G++(R.take f).filter λa=>g.2.any (eU i a.2)).length:Int):=by omega
     generalize hGG:(G++(R.take f).filter λa=>g.2.any (eU i a.2))=GG at *;obtain ⟨e2,P⟩:=g;obtain ⟨k,e⟩:=a;simp only at a0 a2 j4 e0 b8 b9 f9 b1 o3 o8 j1 o6 L Y b3;have y:aB wr (wr.alloc (.cells #[.bool k,.slice n e.length s] 41)):=(Below.refl _ _).alloc (zz _) _;have m7:=sM wr (.bool k) (.slice n e.length s) 41;have a4:=aA (λwx (M:∃p0,wx=(wr.alloc (.cells #[.bool k,.slice n e.length s] 41)).drewN p0)=>aMp B f2 h0 i wx e2 k e1 n e3 s P e ((h8.below y).drawn M) ((e0.fr (Fr.of_below y)).fr ((Fr.refl _ _).drawn M)) ((b1.fr (Fr.of_below y)).fr ((Fr.refl _ _).drawn M)) j1);have a1:=aD y a0;have a3:=aD y a2;obtain ⟨V,X⟩:=m7;have c4:=aA (t.below y);have c2:=aA (L.below y);have k3:=aA Y;have g5:=aA b3;have e9:=aA i9;have e4:aI (pD w B (.slice n e.length s) e):=aA ⟨n,s,rfl,f9,b1.back t.low h2⟩;clear t L Y b3 i9 h8 e0 b1 o1 o2 h5 z n8 h9;cases hpv:P.any (eU i e) with
     |false=>
      rw [hpv] at a4;have c6:=aA hpv;clear hpv;go_wp2_with fail;generalize hWI:wr.alloc (.cells #[.bool k,.slice n e.length s] 41)=WI at *;clear y hWI;go_region_held3 (λm=>m.cell? ⟨S,T+j*2,none⟩=some (.bool e2)/\m.cell? ⟨S,T+j*2+1,none⟩=some (.slice e1 P.length e3)/\m.cell? ⟨wr.heap.size,0,none⟩=some (.bool k)/\m.cell? ⟨wr.heap.size,1,none⟩=some (.slice n e.length s)) (go_keep)
       ((go_at_call 143;refine (aC a4 _ (by first|exact ⟨0,rfl⟩|exact ⟨1,rfl⟩|exact ⟨_,rfl⟩)).mono ?_;rintro Q w1 ⟨rfl,d⟩;replace d:=sN (W:=WI) (by first|exact ⟨0,rfl⟩|exact ⟨1,rfl⟩|exact ⟨_,rfl⟩) d;have c0:=aD d a1;have a7:=aD d a3;have g8:=aD d V;have g9:=aD d X;have F:=aA d;clear d))
      clear a1 a3 V X a0 a2 b8 b9 c0 a7;obtain ⟨f1,I,E,a9⟩:=(c4.o.below F.o).row;have e7:=aA I;have a5:=aA a9;have m3:f1.length<=8:=by have:=congrArg List.length I;simp at this;have p9:=List.length_filter_le (λa=>!(P.any (eU i a.2))) (R.take f);omega
      clear I a9;have u:=aA (c4.o.below F.o);have j3:=(u.o).size;go_wp2_with (first
       |(at_builtin;refine wpList_append_lies _ rfl _ _ 29 rfl W0.heap.size 41 g1 (.agg #[.bool false,.slice none 0 0]) 2 32 zl f5 f6 f7 f8 rfl (by decide) _ _ _ rfl (E.alloc _) ⟨w1.heap.size,0,none⟩ 1 1 [.bool k,.slice n e.length s] rfl rfl ?d1 ?d2 (by decide) ?d3 ?d4 ?d5 _ rfl ?_)
       |go_in)
      case d1=>exact kH _ _ _ _ _ (by simp)
      case d2=>first|exact sL _ _ _ _|exact ⟨rfl,rfl⟩
      case d3=>unfold maxLen;omega
      case d4=>omega
      case d5=>simp;omega
      intro h1 cap j5 A D b2 _;have a6:=aA (kJ.apart (y:=(k,e)) (u.o.below ((Below.refl _ _).alloc (zz _) _)) c6.o (iE.more (x:=(k,e)) e7.o a5.o e4.o A) D (b2.imp id λa8=>by rw [a8];simp) o5);clear A D b2 E;go_wp2;go_roundw;case rel=>exact ⟨f+1,by omega,by go_num,by rw [e9.o];exact a6.o⟩
      case measure=>simp [intOf];omega
     |true=>
      rw [hpv] at a4;have c6:=aA hpv;clear hpv;rcases c2.o with ⟨j2,h4,b4⟩|⟨⟨f1,I,E,a9⟩,b4,-⟩
      ·have o4:(b=S/\o=T)/\GG.length=1/\l8=1:=by
        have:=j2;simp at this;exact ⟨⟨this.1.1.symm,this.1.2.symm⟩,this.2⟩
       obtain ⟨⟨m5,m6⟩,m2,n0⟩:=o4;subst m5 m6 n0;obtain ⟨l5,p1,c7,c8,l7,-,j6,j7,j8,i1⟩:=e5.o.cell 0 d7;obtain ⟨rfl,rfl⟩ : b=l5/\o=p1:=by simpa using l7
       have k1:aI (pD w B (.slice c7 c[0].2.length c8) c[0].2):=aA ⟨c7,c8,rfl,j8,i1⟩;have e6:aI (G++(R.take f).filter (λa=>P.any (eU i a.2))=[c[0]]):=aA (hGG.trans h4);have c3:=aA b4;have q5:(j:Int)<1:=by omega
       subst h4;clear j2 m2 b4 i1 j8 hGG i7 n5 m9 h6;go_wp2_with fail;generalize hWI:wr.alloc (.cells #[.bool k,.slice n e.length s] 41)=WI at *;clear y hWI;go_region_held3 (λm=>m.cell? ⟨b,o+j*2,none⟩=some (.bool e2)/\m.cell? ⟨b,o+j*2+1,none⟩=some (.slice e1 P.length e3)/\m.cell? ⟨wr.heap.size,0,none⟩=some (.bool k)/\m.cell? ⟨wr.heap.size,1,none⟩=some (.slice n e.length s)) (go_keep)
        ((go_at_call 143;refine (aC a4 _ (by first|exact ⟨0,rfl⟩|exact ⟨1,rfl⟩|exact ⟨_,rfl⟩)).mono ?_;rintro Q w1 ⟨rfl,d⟩;replace d:=sN (W:=WI) (by first|exact ⟨0,rfl⟩|exact ⟨1,rfl⟩|exact ⟨_,rfl⟩) d;have c0:=aD d a1;have a7:=aD d a3;have g8:=aD d V;have g9:=aD d X;have F:=aA d;clear d))
       clear a1 a3 V X a0 a2 b8 b9 c0 a7;have u:=aA (c4.o.below F.o);have j3:=(u.o).size;have p5:=Below.at' ((u.o.below ((Below.refl _ _).alloc (zz _) (.cells #[.bool k,.slice n e.length s] 41))).low) (zz _) j6;have p6:=Below.at' ((u.o.below ((Below.refl _ _).alloc (zz _) (.cells #[.bool k,.slice n e.length s] 41))).low) (zz _) j7;clear j6 j7;go_wp2_with (first
        |(at_builtin;refine wpList_append_grows _ rfl _ _ 29 rfl 41 g1 (.agg #[.bool false,.slice none 0 0]) 2 32 zl f5 f6 f7 f8 rfl (by decide) (some ⟨b,o,none⟩) 1 1 (bC [(c[0],.slice c7 c[0].2.length c8)]) (by rfl) (by simp) rfl ?s2 ⟨w1.heap.size,0,none⟩ 1 1 [.bool k,.slice n e.length s] rfl rfl ?d1 ?d2 (by decide) ?d3 ?d4 ?_)
        |go_in)
       case s2=>
        rintro _ ⟨⟩ q q9 C;rw [Addr.add_lit];match q,C with
        |0,C=>simp [bC] at C;subst C;simpa using p5
        |1,C=>simp [bC] at C;subst C;simpa using p6
        |q+2,C=>simp [bC] at C
       case d1=>exact kH _ _ _ _ _ (by simp)
       case d2=>first|exact sL _ _ _ _|exact ⟨rfl,rfl⟩
       case d3=>unfold maxLen;omega
       case d4=>omega
       intro r0 j5 A D;obtain ⟨h1,cap,rfl,i4,-⟩:=A.form (by omega);have a6:=aA (kJ.group (y:=(k,e)) (gk':=none) (u.o.below ((Below.refl _ _).alloc (zz _) _)) c6.o (by simp) (by rw [<-c3.o];exact g5.o)
        (by rw [e6.o];exact iQ.more (x:=(k,e)) (P:=[(c[0],.slice c7 c[0].2.length c8)]) rfl (λq Z=>by simp at Z;subst Z;exact k1.o) e4.o (gS (B':=w.heap.size) A (by have:=(u.o).low.size;first|(simp;omega)|omega))) D (zh (by simpa using i4)) (by simp))
       clear A D i4;go_wp2;go_roundw;case rel=>exact ⟨f+1,by omega,by go_num,by rw [e9.o];exact a6.o⟩
       case measure=>simp [intOf];omega
      ·have e7:=aA I;have a5:=aA a9;have c3:=aA b4;have e6:=aA hGG;have m3:f1.length<=8:=by
        have:=congrArg List.length I;simp at this;omega
       have k9:=aA E;clear I a9 b4 hGG E;go_wp2_with fail;generalize hWI:wr.alloc (.cells #[.bool k,.slice n e.length s] 41)=WI at *;clear y hWI;go_region_held3 (λm=>m.cell? ⟨S,T+j*2,none⟩=some (.bool e2)/\m.cell? ⟨S,T+j*2+1,none⟩=some (.slice e1 P.length e3)/\m.cell? ⟨wr.heap.size,0,none⟩=some (.bool k)/\m.cell? ⟨wr.heap.size,1,none⟩=some (.slice n e.length s)) (go_keep)
        ((go_at_call 143;refine (aC a4 _ (by first|exact ⟨0,rfl⟩|exact ⟨1,rfl⟩|exact ⟨_,rfl⟩)).mono ?_;rintro Q w1 ⟨rfl,d⟩;replace d:=sN (W:=WI) (by first|exact ⟨0,rfl⟩|exact ⟨1,rfl⟩|exact ⟨_,rfl⟩) d;have c0:=aD d a1;have a7:=aD d a3;have g8:=aD d V;have g9:=aD d X;have F:=aA d;clear d))
       clear a1 a3 V X a0 a2 b8 b9 c0 a7;have u:=aA (c4.o.below F.o);have j3:=(u.o).low.size;have E:=bF k9.o F.o (zz _);go_wp2_with (first
        |(at_builtin;refine wpList_append_lies _ rfl _ _ 29 rfl w.heap.size 41 g1 (.agg #[.bool false,.slice none 0 0]) 2 32 zl f5 f6 f7 f8 rfl (by decide) _ _ _ rfl (E.alloc _) ⟨w1.heap.size,0,none⟩ 1 1 [.bool k,.slice n e.length s] rfl rfl ?d1 ?d2 (by decide) ?d3 ?d4 ?d5 _ rfl ?_)
        |go_in)
       case d1=>exact kH _ _ _ _ _ (by simp)
       case d2=>first|exact sL _ _ _ _|exact ⟨rfl,rfl⟩
       case d3=>unfold maxLen;omega
       case d4=>omega
       case d5=>simp;omega
       intro h1 cap j5 A D b2 _;have a6:=aA (kJ.group (y:=(k,e)) (gk':=f3) (u.o.below ((Below.refl _ _).alloc (zz _) _)) c6.o k3.o g5.o
        (by rw [e6.o];exact iQ.more (x:=(k,e)) e7.o a5.o e4.o A) (by rw [c3.o];exact D) (by rw [c3.o];exact b2.imp id λa8=>by rw [a8];simp) (λN b5=>(c2.o.lt N b5).1))
       clear A D b2 E;go_wp2;go_roundw;case rel=>exact ⟨f+1,by omega,by go_num,by rw [e9.o];exact a6.o⟩
       case measure=>simp [intOf];omega
    ·have i0:R.take f=R:=zs (by omega);rw [i0] at t;have q6:=aEn (λa=>g.2.any (eU i a.2)) R;obtain ⟨f3,L,Y,b3⟩:=t.grp;obtain ⟨g7,l4,rfl,m4,i2,i3⟩:=t.row.lits t.low (by omega);have c2:=aA L;have j9:=aA i2;have k0:=aA (λq (a8:g7=some q)=>Y q.block (i3 q a8));have k7:=aA t.low;have l2:aI (∀c1∈(G++R.filter λa=>g.2.any (eU i a.2)).take (j+1),∀a∈R.filter λa=>!(g.2.any (eU i a.2)),c1.2.any (eU i a.2)=false):=aA (by
      intro c1 hz a z;rw [List.take_append_of_le_length (by omega),zy i8] at hz;rw [zj] at z;rcases zo.1 hz with hz|hz
      ·exact l1.o c1 hz a z.1
      ·simp at hz;rw [hz,<-g6.o];simpa using z.2)
     have q0:(G++R.filter λa=>g.2.any (eU i a.2)).length=G.length+(R.filter λa=>g.2.any (eU i a.2)).length:=by simp
     clear i0 t L Y b3 i2 i3;go_wp2;go_roundw;case rel=>exact ⟨j+1,_,_,f3,g7,l4,by omega,by go_num,c2.o,rfl,m4,j9.o,k0.o,k7.o,aMs _ G R c c5.o,by omega,by omega,l2.o⟩
     case measure=>simp [intOf];omega
  ·have k5:=aA f4;have e8:=aA d9;have c5:=aA b6;have g3:=aA J;have a5:aI (aCh i G R):=aA (by
    intro c1 hz a z;rw [zs (by omega)] at b7;exact aMq (b7 c1 hz a z))
   have n1:¬(j:Int)<(G.length:Int):=by omega
   clear f4 d9 Z b6 b7 U J;go_wp2;go_ret2;exact ⟨G,R,c9,d6,d0,x,O,rfl,m8,o0,k5.o,e8.o,c5.o,n7,m0,a5.o,g3.o⟩
