import Derived.Test.YtbpiopdphigodaaGreatDoorPClauseP
import Derived.Test.YtbpiopdphigodaaGreatDoorGPureP
import Derived.Deep.AppendLies
import Derived.Deep.DrawnRows
import Derived.Test.YtbpiopdphigodaaGreatDoorVRes1P
open List renaming take_succ_eq_append_getElem→zv,take_of_length_le→zu,drop_eq_getElem_cons→zo,getElem_mem→zm,mem_of_getElem?→zk,length_append→zh
open Nat renaming le_refl→zz,le_trans→zq,lt_of_lt_of_le→zp,zero_le→zn
namespace Go.Proofs.YtbpiopdphigodaaGreatDoor
open Calls renaming quiet_of_same→zx
open _root_.Go.Proofs.Tryz renaming prog→zy,ntmps79→zt,func79→zs,ntmps105→zi,func105→zg,ntmps78→zf,func78→ze
open Value renaming slice→zr
open World renaming cell?→zw,alloc_heap_new→zj
open Go.RowKit Go.Shelf Go.WideMaps
set_option maxHeartbeats 8000000
set_option maxRecDepth 100000
variable{l:List UInt8}{B g n:Nat}{s x:Value}{W w w3:World}
theorem aQw(a:List Lt)(b:Nat)(c:b<a.length)(n:Nat)(e:n<a[b].2.length)(x:Int)(f:eW (a[b].2.take n) (mR (a.take b))=some x)(d:jC (some x) a[b].2[n]=none):mR a=none:=by
 rw [aU7 a b,zo c,List.foldl_cons,aU6 a[b].2 _ n,f,zo e];have:eW (a[b].2[n]::a[b].2.drop (n+1)) (some x)=none:=by show eW (a[b].2.drop (n+1)) (jC (some x) a[b].2[n])=none;rw [d,aCj]
 rw [this,aI2]
theorem aQx(T:Option Addr)(a6:Nat)(b:List Lt)(w:World)(I:bP w T b)(c1:aS b<=60):Calls zy 64 #[.slice T b.length a6] w λy b4=>y=.returned (.bool (mR b).isSome)/\aB w b4:=by
 have c3:=I.few;have a5:=aA I;clear I;go_enter Tryz.func64,Tryz.ntmps64;go_wp2;go_loopw [3,10] (λO M wr=>∃(c:Nat) (x:Int),c<=b.length/\M=.int .i64 c/\O=.int .i64 x/\0<=x/\x<=aS (b.take c)/\mR (b.take c)=some x/\aB w wr) (λ_ M _=>b.length-(intOf M).toNat);case atStart=>exact ⟨0,0,zn _,rfl,rfl,by omega,by simp,rfl,Below.refl _ _⟩
 case round=>
  obtain ⟨c,x,c4,rfl,rfl,b1,c6,C,o⟩:=hrel;have c2:=tT b c;by_cases A:c<b.length
  ·obtain ⟨b9,d1,b7,b8,rfl,U,X,Z⟩:=a5.o.cell c A;have a7:=aD o U;have a8:=aD o X;have a1:=tT b (c+1);rw [zv A,pZ] at a1;have E:=aA (aU5 b c A);have S:aI (aS (b.take (c+1))=aS (b.take c)+b[c].2.length):=by
    rw [zv A,pZ];exact rfl
   have D:=aA (λn a3 a=>aQw b c A n a3 a);rw [C] at E D;have H:=aA Z;have G:=aA o;have b0:=o.size;generalize b[c]=z at *;obtain ⟨d2,i⟩:=z;simp only at a7 a8 E D H S a1;have c9:=H.o.few;clear U X Z o C;go_wp2;go_loopw [3,17] (λO N b5=>∃(n:Nat) (a:Int),n<=i.length/\N=.int .i64 n/\O=.int .i64 a/\0<=a/\a<=aS (b.take c)+n/\eW (i.take n) (some x)=some a/\aB w b5) (λ_ N _=>i.length-(intOf N).toNat);case atStart=>exact ⟨0,x,zn _,rfl,rfl,b1,by omega,rfl,G.o.alloc b0 _⟩
   case round=>
    obtain ⟨n,a,a3,rfl,rfl,L,c7,u,p⟩:=hrel;by_cases J:n<i.length
    ·obtain ⟨c0,d0,rfl,V,Y⟩:=H.o.cell n J;have b2:=aD p V;have b3:=aD p Y;have j:=aA (aU4 i (some x) n J);have v:=aA (D.o n J a u);rw [u] at j;generalize i[n]=nd at *;obtain ⟨s,k⟩:=nd;simp only at b2 b3;have q:=aA (λb6=>nH s k b6);have r:=aA p;have F:=p.size;clear V Y u p;cases hv:s.toList.isEmpty
     ·have d:aI (jC (some a) (s,k)=some a):=aA (by simp [jC,aM,hv]);rw [hv] at q;rw [d.o] at j;clear hv v d;go_wp2_with (go_at_call 36;refine (aC q _).mono ?_;rintro y R ⟨rfl,e⟩;obtain ⟨P,Q,f⟩:=fY e;have m:=aA (r.o.trans (f.mono F));clear e f);go_roundw;case rel=>exact ⟨n+1,a,by omega,by go_num,rfl,L,by omega,j.o,m.o⟩
      case measure=>simp [intOf];omega
     ·rw [hv] at q;by_cases a0:a<k
      ·have d:=aA (v.o (by simp [jC,aM,hv,a0]));clear hv v j;go_wp2_with (go_at_call 36;refine (aC q _).mono ?_;rintro y R ⟨rfl,e⟩;obtain ⟨P,Q,f⟩:=fY e;have m:=aA (r.o.trans (f.mono F));clear e f);go_ret;exact ⟨cX (by rw [d.o];rfl),m.o⟩
      ·by_cases t:k=a
       ·have d:aI (jC (some a) (s,k)=some (a+1)):=aA (by simp [jC,aM,hv,t]);rw [d.o] at j;have a9:(k==a)=true:=by simp [t]
        clear hv v d t;go_wp2_with (go_at_call 36;refine (aC q _).mono ?_;rintro y R ⟨rfl,e⟩;obtain ⟨P,Q,f⟩:=fY e;have m:=aA (r.o.trans (f.mono F));clear e f);go_roundw;case rel=>exact ⟨n+1,a+1,by omega,by go_num,by go_num,by omega,by omega,j.o,m.o⟩
        case measure=>simp [intOf];omega
       ·have d:aI (jC (some a) (s,k)=some a):=aA (by simp only [jC,aM,hv,if_true,aF a0,aF t]);rw [d.o] at j;have a9:(k==a)=false:=by simp [t]
        clear hv v d t;go_wp2_with (go_at_call 36;refine (aC q _).mono ?_;rintro y R ⟨rfl,e⟩;obtain ⟨P,Q,f⟩:=fY e;have m:=aA (r.o.trans (f.mono F));clear e f);go_roundw;case rel=>exact ⟨n+1,a,by omega,by go_num,rfl,L,by omega,j.o,m.o⟩
        case measure=>simp [intOf];omega
    ·have a4:i.take n=i:=zu (by omega);rw [a4] at u;have d:=aA (E.o.trans u);have r:=aA p;have c5:n=i.length:=by omega
     have c8:a<=aS (b.take c)+i.length:=by omega
     clear u p a4 D E;go_wp2;go_roundw;case rel=>exact ⟨c+1,a,by omega,by go_num,rfl,L,by rw [S.o];omega,d.o,r.o⟩
     case measure=>simp [intOf];omega
  ·have a2:b.take c=b:=zu (by omega);rw [a2] at C;have d:=aA C;have G:=aA o;clear a2 C o;go_wp2;go_ret;exact ⟨cX (by rw [d.o];rfl),G.o⟩
theorem aQy(c:Option Addr)(r:Nat)(a:List Lt)(w:World)(k:bP w c a)(E:aS a<=60)(z:∀x∈a,pM x.2):Calls zy 35 #[.slice c a.length r] w λj M=>j=.returned (.bool (decide (a=aT a)))/\aB w M:=by
 have v:=aA (aUg a z);have u:=aA (aGe c r a w k);have P:=k.few;have O:=(rF a).1;have A:=aA (λwx (H:bP wx c a)=>aQx c r a wx H E);have D:=aA k;clear k z;by_cases o:(bV a).length=a.length
 ·have G:(((bV a).length:Int)==(a.length:Int))=true:=by rw [beq_iff_eq];omega
  have p:aI (decide (a=aT a)=(mR a).isSome):=aA (by rw [v.o,o];simp);clear o;generalize hdl:(bV a).length=m at *;go_enter Tryz.func35,Tryz.ntmps35;go_wp2_with (first
   |(go_at_call 61;refine (aC u).mono ?_;rintro j N ⟨I,q,rfl,d,t,f,b⟩;obtain ⟨J,L,rfl⟩:=aY f;have e:q.length=m:=(by rw [<-hdl,<-d];simp);rw [e];have i:=aA b;have F:=b.size;clear d t f b e)
   |(go_at_call 64;refine (aC A _ (D.o.below i.o (zz _))).mono ?_;rintro j Q ⟨rfl,y⟩;have C:=aA (i.o.trans (y.mono F));clear y))
  go_ret;exact ⟨cX p.o.symm,C.o⟩
 ·have G:(((bV a).length:Int)==(a.length:Int))=false:=by rw [beq_eq_false_iff_ne];omega
  have p:aI (decide (a=aT a)=false):=aA (by rw [v.o];simp [o]);clear o;generalize hdl:(bV a).length=m at *;go_enter Tryz.func35,Tryz.ntmps35;go_wp2_with (first
   |(go_at_call 61;refine (aC u).mono ?_;rintro j N ⟨I,q,rfl,d,t,f,b⟩;obtain ⟨J,L,rfl⟩:=aY f;have e:q.length=m:=(by rw [<-hdl,<-d];simp);rw [e];have i:=aA b;clear d t f b e))
  go_ret;exact ⟨cX p.o.symm,i.o⟩
theorem aBw(q:Option Addr)(C:Nat)(a:List Lt)(w:World)(o:bP w q a)(Q:iW w):Calls zy 19 #[.slice q a.length C] w λi U=>i=.returned (.bool (bK a))/\aB w U:=by
 have a8:=o.few;have f:=uG q C a w o;have Z:=aA Q;have L:=aA o;clear Q;by_cases k:cZ a=true
 ·have a4:a.length<=8/\aS a<=60:=by simpa [cZ] using k
  rw [k] at f;have v:=aA f;have p:aI (bK a=((a.all λl=>gD l.2) && decide (a=aT a))):=by unfold bK;rw [k];exact Bool.true_and _▸rfl
  obtain ⟨a7,a2⟩:=a4;clear f k o;go_enter Tryz.func19,Tryz.ntmps19;go_wp2_with (go_at_call 33;refine (aC v).mono ?_;rintro i b1 ⟨rfl,a3⟩);go_loopw [10] (λH wr=>∃b:Nat,b<=a.length/\H=.int .i64 b/\aB w wr/\((a.take b).all λl=>gD l.2)=true) (λH _=>a.length-(intOf H).toNat);case atStart=>exact ⟨0,zn _,rfl,a3,rfl⟩
  case round=>
   obtain ⟨b,a9,rfl,c,j⟩:=hrel;by_cases S:b<a.length
   ·obtain ⟨a6,b0,M,N,rfl,O,P,D⟩:=L.o.cell b S;have a0:=aD c O;have a1:=aD c P;have z:aI (((a.take (b+1)).all λl=>gD l.2)=gD a[b].2):=by
     rw [zv S,List.all_append,j];exact Bool.and_true _▸rfl
    have y:aI (gD a[b].2=false->bK a=false):=λG=>by
     rw [p.o,Bool.and_eq_false_iff];left;rw [List.all_eq_false];exact ⟨a[b],zm _,by simp [G]⟩
    have E:=c.size;generalize a[b]=x at *;obtain ⟨a5,I⟩:=x;simp only at a0 a1 D;have r:aB w (wr.alloc (.cells #[.bool a5,.slice M I.length N] 41)):=c.alloc E _;have e:=aQs M N I _ (D.below r (zz _)) (Z.o.below r (zz _));have J:=aA r;clear O P j c D r;cases ha:gD I
    ·rw [ha] at e;have A:=aA (y.o ha);have t:=aA e;clear e ha y z;go_wp2_with (go_at_call 34;refine (aC t).mono ?_;rintro i V ⟨rfl,d⟩;have m:=aA (aZ J.o d);clear d);go_ret;exact ⟨cX A.o.symm,m.o⟩
    ·rw [ha] at e;have A:=aA (z.o.trans ha);have t:=aA e;clear e ha y z;go_wp2_with (go_at_call 34;refine (aC t).mono ?_;rintro i V ⟨rfl,d⟩;have m:=aA (aZ J.o d);clear d);go_roundw;case rel=>exact ⟨b+1,by omega,by go_num,m.o,A.o⟩
     case measure=>simp [intOf];omega
   ·have R:a.take b=a:=zu (by omega);rw [R] at j;have Y:aI (bK a=decide (a=aT a)):=by rw [p.o,j];exact Bool.true_and _▸rfl
    have T:∀x∈a,pM x.2:=λx G=>aUh (List.all_eq_true.1 j x G)
    have X:=aA (aQy q C a wr (L.o.below c (zz _)) a2 T);have u:=aA c;have E:=c.size;clear R j c T;go_wp2_with (go_at_call 35;refine (aC X).mono ?_;rintro i V ⟨rfl,d⟩;have m:=aA (u.o.trans (d.mono E));clear d);go_ret;exact ⟨cX Y.o.symm,m.o⟩
 ·have F:cZ a=false:=by simpa using k
  rw [F] at f;have p:aI (bK a=false):=by unfold bK;rw [F];rfl
  have v:=aA f;clear f k F o;go_enter Tryz.func19,Tryz.ntmps19;go_wp2_with (go_at_call 33;refine (aC v).mono ?_;rintro i U ⟨rfl,c⟩;have u:=aA c;clear c);go_ret;exact ⟨cX p.o.symm,u.o⟩
theorem aGh{b:Nat}{c:World}(d:Ok b w c)(f:w.heap[g]?=some (.cells #[s,x] 41))(e:b≠g):c.heap[g]?=some (.cells #[s,x] 41):=
 d g _ f (λa=>e (by simpa using a.symm)) (λi j a=>by simp at a)
theorem aQz(l:List Nd)(a:Nat):∀b∈hH l a,∃n∈l,b.1=n.1:=by
 induction a with
 |zero=>intro b hu;simp [hH] at hu
 |succ a ih=>
  intro b hu;simp only [hH,List.mem_append] at hu;rcases hu with hu|hu
  ·exact ih b hu
  ·cases hk:l[a]? with
   |none=>rw [hk] at hu;simp at hu
   |some n=>
    rw [hk] at hu;have c:n∈l:=zk hk;simp only [Option.map_some,Option.getD_some,lD] at hu;split at hu
    ·simp at hu
    ·simp at hu;exact ⟨n,c,by rw [hu]⟩
theorem aR0(b:List Lt)(c:Nat):∀a∈jX b c,∃x∈b,∃n∈x.2,a.1=n.1:=by
 induction c with
 |zero=>intro a hu;simp [jX] at hu
 |succ c ih=>
  intro a hu;simp only [jX,List.mem_append] at hu;rcases hu with hu|hu
  ·exact ih a hu
  ·cases hk:b[c]? with
   |none=>rw [hk] at hu;simp at hu
   |some x=>
    rw [hk] at hu;have f:x∈b:=zk hk;obtain ⟨n,e,d⟩:=aQz x.2 x.2.length a (by simpa using hu);exact ⟨x,f,n,e,d⟩
theorem aR1{c:Option Addr}{a:List Lt}(d:bP w c a):∀b (f:b<(eJ a).length),(eJ a)[b].1.size<=140737488355328:=by intro b f;obtain ⟨x,j,n,i,e⟩:=aR0 a a.length (eJ a)[b] (zm _);rw [e];exact (d.shorts x j).2 n i
theorem aR2(w:World):(Instr.build 64 #[]).run zy w=.ok (.agg #[.pointer none,.slice none 0 0]) w:=run_build w 64 _ _ (by kernel_rfl)
theorem aGi(B a:Nat)(l:List UInt8)(w:World)(e:Bd B a l w)(i:B<=w.heap.size):Calls zy 24 #[.pointer (some ⟨a,0,none⟩)] w λb c=>b=.returned (.string ⟨l.toArray⟩)/\Below B w c:=by
 have d:Calls zy 24 #[.pointer (some ⟨a,0,none⟩)] w _:=Any.Builder_String_any_k aSr yS B a l w e i;refine d.mono ?_;rintro b c ⟨rfl,_,f,_⟩;exact ⟨rfl,f⟩
structure St(B g:Nat)(w3:World)(l:List UInt8)(n:Nat)(s x:Value)(W:World):Prop where
 bd:Bd B B l W
 bl:Below B w3 W
 le:B<=W.heap.size
 bx:W.heap[g]?=some (.cells #[s,x] 41)
 len:l.length<=n
 eq:w3.heap.size=B
 gt:B<W.heap.size
theorem St.cells(a:St B g w3 l n s x W):W.cell? ⟨g,0,none⟩=some s/\W.cell? ⟨g,1,none⟩=some x:=wD a.bx
theorem St.new{wr:World}(d:Bd w3.heap.size w3.heap.size l wr)(b:aB w3 wr)(e:l.length<=n):St w3.heap.size wr.heap.size w3 l n s x (wr.alloc (.cells #[s,x] 41)):=by
 have a:aB wr (wr.alloc (.cells #[s,x] 41)):=(Below.refl _ _).alloc (zz _) _;have c:=b.size;have f:=a.size;have i:(wr.alloc (.cells #[s,x] 41)).heap.size=wr.heap.size+1:=by show (wr.heap.push _).size=_;simp
 exact ⟨d.below a,b.trans (a.mono c),by omega,aU3 _ _,e,rfl,by omega⟩
theorem St.str(a:St B g w3 l n s x W)(i:B≠g)(b:ByteArray)(m:n+b.size<=1000000):Calls zy 21 #[.pointer (some ⟨B,0,none⟩),.string b] W λd k=>d=.returned (.tuple #[.int .i64 b.size,.nilIface])/\St B g w3 (l++b.data.toList) (n+b.size) s x k:=by
 refine (tA B B l b W a.bd (by have:=a.len;omega) a.le).mono ?_;rintro d o ⟨rfl,f,c,j⟩;refine ⟨rfl,f,a.bl.trans c,zq a.le c.size,aGh j a.bx i,?_,a.eq,zp a.gt c.size⟩;have:=a.len;have e:b.data.toList.length=b.size:=rfl;rw [zh,e];omega
theorem St.byte(a:St B g w3 l n s x W)(f:B≠g)(c:UInt8)(k:n<=1000000):Calls zy 22 #[.pointer (some ⟨B,0,none⟩),.int .u8 c.toNat] W λd j=>d=.returned .nilIface/\St B g w3 (l++[c]) (n+1) s x j:=by
 refine (vY B B l c W a.bd (by have:=a.len;omega) a.le).mono ?_;rintro d m ⟨rfl,e,b,i⟩;refine ⟨rfl,e,a.bl.trans b,zq a.le b.size,aGh i a.bx f,?_,a.eq,zp a.gt b.size⟩;have:=a.len;rw [zh];simp;omega
theorem St.term(b:St B g w3 l n s x W){d:Option Addr}{f:Nat}{a:List Nd}(r:cS w3 d a)(o:a.length<=f)(k:a.length<=60)(q:aN a 1=true)(t:n+12000<=99000):Calls zy 23 #[.pointer (some ⟨B,0,none⟩),.slice d a.length f] W λj c=>∃e i,j=.returned (.slice e (cE 60 a).2.length i)/\Bd B B (l++(cE 60 a).1) c/\Below B w3 c/\B<c.heap.size:=by
 refine (aTg 60 B B l d f a 0 w3 W b.bd r b.bl (Nat.le_of_eq b.eq) b.le o k k q (by have:=b.len;omega)).mono ?_;rintro j c ⟨e,i,rfl,_,_,p,m,_⟩;exact ⟨e,i,rfl,p,b.bl.trans m,zp b.gt m.size⟩
theorem aR3(u:Option Addr)(b1:Nat)(a:List Lt)(w:World)(i:bP w u a)(b7:pL w u a)(b5:iW w):Calls zy 11 #[.slice u a.length b1] w λc g5=>∃e1 e0,c=.returned (.tuple #[.string ⟨e1.toArray⟩,.int .i64 e0])/\aB0 a e1 e0/\aB w g5:=by
 have v:=aBw u b1 a w i b5;by_cases p:bK a=true
 ·obtain ⟨⟨h9,h8⟩,c8⟩:=aB1 p;rw [p] at v;have a2:=aA v;have a5:=aA i;have c3:=aA c8;have c5:=aA p;have e6:=aA b7;have e4:=aA (λwx (I:bP wx u a)=>aGm u b1 a wx I (by omega));have i8:(eJ a).length<=60:=by
   have h5:=aHe a a.length;have h6:=tT a a.length;have h7:(eJ a).length=(jX a a.length).length:=rfl;omega
  have e9:=aA (aR1 i);have i0:=aR2;clear v i c8 p b5 b7;go_enter Tryz.func11,Tryz.ntmps11;go_wp2_with (first
   |(go_at_call 19;refine (aC a2).mono ?_;rintro c g6 ⟨rfl,y⟩;have N:=aA y;have f2:=y.size;clear y)
   |(go_at_call 20;refine (aC e4 _ (a5.o.below N.o (zz _))).mono ?_;rintro c g7 ⟨j1,rfl,d7,c9⟩;obtain ⟨g3,g4,rfl,d4⟩:=aGk d7 (by omega) e9.o;have e2:=aA (aT3 g3 g4 (eJ a) g7 d4);have c4:=aA (N.o.trans (c9.mono f2));have f3:=c4.o.size;clear d7 d4 c9)
   |(go_at_call 16;refine (aC e2).mono ?_;rintro c w3 ⟨c1,rfl,d8,d0⟩;have E:=aA d8;have k:=aA (c4.o.trans (d0.mono f3));have b4:=k.o.size;clear d8 d0))
  ·have C:0<=c1:=by assumption
   go_ret2;exact ⟨[],5,wE rfl rfl,Or.inr ⟨λi=>E.o.1 C i.2,rfl,rfl⟩,k.o⟩
  ·have C:c1<0:=by assumption
   have A:a.length=0:=by have I:((a.length:Int)==0)=true:=(by assumption);rw [beq_iff_eq] at I;omega
   have a6:=aA (E.o.2 C);have H:Bd w3.heap.size w3.heap.size [] (w3.alloc (.cells #[.pointer none,.slice none 0 0] 64)):=Lib.IsBuilderF.of (Lib.fresh_isBuilder 64 5 w3);have z:aB w3 (w3.alloc (.cells #[.pointer none,.slice none 0 0] 64)):=(Below.refl _ _).alloc (zz _) _;have e3:=aA (tA w3.heap.size w3.heap.size [] ⟨#[36,102,97,108,115,101]⟩ _ H (by decide) z.size);have e5:=aA z;have a4:aI (eR a=[]++[36,102,97,108,115,101]++[46,10]):=aA (by unfold eR;rw [aG A];rfl);have f0:=aA A;clear E H z A;refine (aC e3).mono ?_;rintro c c2 ⟨rfl,d3,d1,f5⟩;have e7:=aA d3;have O:=aA (e5.o.trans d1);have U:=O.o.size;clear d3 d1 f5;go_wp2;go_loopw [25] (λJ wr=>J=.int .i64 0/\wr=c2) (λ_ _=>0);case atStart=>exact ⟨rfl,rfl⟩
   case round=>
    obtain ⟨rfl,rfl⟩:=hrel;have a1:=aA (tA w3.heap.size w3.heap.size _ ⟨#[46,10]⟩ wr e7.o (by decide) U);have i2:¬((0:Int)<(a.length:Int)):=by have:=f0.o;omega
    go_wp2_with (first
     |(go_at_call 21;refine (aC a1).mono ?_;rintro c L ⟨rfl,G,o,b9⟩;have a0:=aA (aGi w3.heap.size w3.heap.size _ L G (zq U o.size));have a3:=aA (O.o.trans o);clear G o b9)
     |(go_at_call 24;refine (aC a0).mono ?_;rintro c M ⟨rfl,d⟩;have e:=aA (a3.o.trans d);clear d))
    go_ret2;exact ⟨eR a,0,wE (by rw [a4.o];rfl) rfl,Or.inl ⟨c5.o,a6.o,rfl,rfl⟩,k.o.trans (e.o.mono b4)⟩
  ·have C:c1<0:=by assumption
   have A:¬a.length=0:=by have I:((a.length:Int)==0)=false:=(by assumption);rw [beq_eq_false_iff_ne] at I;omega
   have a6:=aA (E.o.2 C);have H:Bd w3.heap.size w3.heap.size [] (w3.alloc (.cells #[.pointer none,.slice none 0 0] 64)):=Lib.IsBuilderF.of (Lib.fresh_isBuilder 64 5 w3);have z:aB w3 (w3.alloc (.cells #[.pointer none,.slice none 0 0] 64)):=(Below.refl _ _).alloc (zz _) _;have a4:aI (eR a=mI a a.length++[46,10]):=aA (by unfold eR;rw [aF A]);have h0:=aA (a5.o.below k.o (zz _));rename_i f6 f7 h1 h2;clear E A f6 f7 C;go_loopw [25] (λJ wr=>∃b:Nat,b<=a.length/\J=.int .i64 b/\Bd w3.heap.size w3.heap.size (mI a b) wr/\aB w3 wr/\w3.heap.size<wr.heap.size) (λJ _=>a.length-(intOf J).toNat);case atStart=>exact ⟨0,zn _,rfl,H,z,by show w3.heap.size<(w3.heap.push _).size;simp⟩
   case round=>
    obtain ⟨b,i3,rfl,F,j,i7⟩:=hrel;have d5:=aF9 c3.o b;by_cases b8:b<a.length
    ·obtain ⟨f1,f8,a9,b0,rfl,c7,b3,d6⟩:=a5.o.cell b b8;have V:=e6.o b b8 f1 f8 a9 _ b0 rfl b3;have b6:=k.o.trans (j.mono b4);have h3:=aD b6 c7;have h4:=aD b6 b3;have P:=aA (d6.below k.o (zz _));have R:=aA (aAz a b b8);obtain ⟨d9,Y⟩:=yW (c3.o a[b] (zm _));generalize a[b]=x at *;obtain ⟨Z,c6⟩:=x;have Q:=aA d9;have g9:=aA F;have g8:=aA j;have i1:=j.size;have S:St w3.heap.size wr.heap.size w3 (mI a b) (12010*b) (.bool Z) (.slice a9 c6.length b0) (wr.alloc (.cells #[.bool Z,.slice a9 c6.length b0] 41)):=St.new F j d5;have i5:b<=7:=by omega
     have X:w3.heap.size≠wr.heap.size:=by omega
     have i6:=S.le;have T:=aA S;obtain ⟨i9,j0⟩:=S.cells;clear c7 b3 d6 b6 d9 F j H z S d5;by_cases i4:0<b
     ·have D:aI (¬b=0):=aA (by omega);cases Z with
      |true=>
       go_wp2_with (first
        |(go_at_call 21;refine (T.o.str X ⟨#[32,124,32]⟩ (by show _+3<=_;omega)).mono ?_;rintro c c2 ⟨rfl,r⟩;obtain ⟨f9,g0⟩:=r.cells;have a7:=aA r;clear r)
        |(go_at_call 22;refine (a7.o.byte X 126 (by show _+3<=_;omega)).mono ?_;rintro c L ⟨rfl,t⟩;obtain ⟨g1,g2⟩:=t.cells;have a8:=aA t;clear t)
        |(go_at_call 23;refine (a8.o.term P.o V Y Q.o (by show _+3+1+_<=_;omega)).mono ?_;rintro c M ⟨c0,b2,rfl,f,d,q⟩;have m:=aA f;have e:=aA d;clear f d))
       go_roundw;case rel=>exact ⟨b+1,by omega,by go_num,by rw [R.o];have:=m.o;simpa [qB,D.o] using this,e.o,q⟩
       case measure=>simp [intOf];omega
      |false=>
       go_wp2_with (first
        |(go_at_call 21;refine (T.o.str X ⟨#[32,124,32]⟩ (by show _+3<=_;omega)).mono ?_;rintro c c2 ⟨rfl,r⟩;obtain ⟨f9,g0⟩:=r.cells;have a7:=aA r;clear r)
        |(go_at_call 23;refine (a7.o.term P.o V Y Q.o (by show _+3+_<=_;omega)).mono ?_;rintro c M ⟨c0,b2,rfl,f,d,q⟩;have m:=aA f;have e:=aA d;clear f d))
       go_roundw;case rel=>exact ⟨b+1,by omega,by go_num,by rw [R.o];have:=m.o;simpa [qB,D.o] using this,e.o,q⟩
       case measure=>simp [intOf];omega
     ·have D:aI (b=0):=aA (by omega);cases Z with
      |true=>
       go_wp2_with (first
        |(go_at_call 22;refine (T.o.byte X 126 (by omega)).mono ?_;rintro c L ⟨rfl,t⟩;obtain ⟨g1,g2⟩:=t.cells;have a8:=aA t;clear t)
        |(go_at_call 23;refine (a8.o.term P.o V Y Q.o (by omega)).mono ?_;rintro c M ⟨c0,b2,rfl,f,d,q⟩;have m:=aA f;have e:=aA d;clear f d))
       go_roundw;case rel=>exact ⟨b+1,by omega,by go_num,by rw [R.o];have:=m.o;simpa [qB,D.o] using this,e.o,q⟩
       case measure=>simp [intOf];omega
      |false=>
       go_wp2_with (first
        |(go_at_call 23;refine (T.o.term P.o V Y Q.o (by omega)).mono ?_;rintro c M ⟨c0,b2,rfl,f,d,q⟩;have m:=aA f;have e:=aA d;clear f d))
       go_roundw;case rel=>exact ⟨b+1,by omega,by go_num,by rw [R.o];have:=m.o;simpa [qB,D.o] using this,e.o,q⟩
       case measure=>simp [intOf];omega
    ·have f4:b=a.length:=by omega
     subst f4;have a1:=aA (tA w3.heap.size w3.heap.size _ ⟨#[46,10]⟩ wr F (by show _+2<=_;omega) (by omega));have O:=aA j;have U:=j.size;clear F j;go_wp2_with (first
      |(go_at_call 21;refine (aC a1).mono ?_;rintro c L ⟨rfl,G,o,b9⟩;have a0:=aA (aGi w3.heap.size w3.heap.size _ L G (zq U o.size));have a3:=aA (O.o.trans o);clear G o b9)
      |(go_at_call 24;refine (aC a0).mono ?_;rintro c M ⟨rfl,d⟩;have e:=aA (a3.o.trans d);clear d))
     go_ret2;exact ⟨eR a,0,wE (by rw [a4.o];rfl) rfl,Or.inl ⟨c5.o,a6.o,rfl,rfl⟩,k.o.trans (e.o.mono b4)⟩
 ·have d2:bK a=false:=by simpa using p
  rw [d2] at v;have a2:=aA v;have e8:aI (aB0 a [] 5):=Or.inr ⟨λi=>p i.1,rfl,rfl⟩;clear v i p d2 b5 b7;go_enter Tryz.func11,Tryz.ntmps11;go_wp2_with (go_at_call 19;refine (aC a2).mono ?_;rintro c g6 ⟨rfl,y⟩;have N:=aA y;clear y);go_ret2;exact ⟨[],5,wE rfl rfl,e8.o,N.o⟩
theorem aR4(b:Option Addr)(e:Nat)(a:List Lt)(w:World)(i:bP w b a)(m:pL w b a)(j:iW w):Calls zy 6 #[.slice b a.length e] w λf t=>∃d c,f=.returned (.tuple #[.string ⟨d.toArray⟩,.int .i64 c])/\aB0 a d c/\aB w t:=by
 have p:=aA (aR3 b e a w i m j);clear i m j;go_enter Tryz.func6,Tryz.ntmps6;go_wp2_with (go_at_call 11;refine (aC p).mono ?_;rintro f u ⟨d,c,rfl,o,k⟩;have r:=aA o;have q:=aA k;clear o k);go_ret2;exact ⟨d,c,wE rfl rfl,r.o,q.o⟩
def aBx(c d:List Lt)(e f:Int)(a b:Nat):Prop:=∃(i:a<c.length) (j:b<d.length),e=a/\f=b/\c[a].1≠d[b].1
def nI(a c:List Lt)(j k:Int)(f:List Lt)(i:Bool)(e:Int):Prop:=
 (¬(bK a=true/\bK c=true)/\f=[]/\i=false/\e=5)\/
 (bK a=true/\bK c=true/\(((¬∃b d,aBx a c j k b d)/\f=[]/\i=false/\e=6)\/
  ∃b d,aBx a c j k b d/\jG (aW 0 (a.getD b default).2++aW 1 (c.getD d default).2) 0 (a.getD b default).2.length (bE 0 [(a,b),(c,d)]) f i e))
theorem nI.one{j k:List Lt}{p q:Int}{r t:List Lt}{u v:Bool}{m o:Int}(c:nI j k p q r u m)(a:nI j k p q t v o):r=t/\u=v/\m=o:=by
 rcases c with ⟨i,rfl,rfl,rfl⟩|⟨i,A,c⟩
 ·rcases a with ⟨_,rfl,rfl,rfl⟩|⟨b,C,_⟩
  ·exact ⟨rfl,rfl,rfl⟩
  ·exact absurd ⟨b,C⟩ i
 ·rcases a with ⟨b,_⟩|⟨_,_,a⟩
  ·exact absurd ⟨i,A⟩ b
  ·rcases c with ⟨b,rfl,rfl,rfl⟩|⟨d,e,f,c⟩
   ·rcases a with ⟨_,rfl,rfl,rfl⟩|⟨d,e,f,_⟩
    ·exact ⟨rfl,rfl,rfl⟩
    ·exact absurd ⟨d,e,f⟩ b
   ·rcases a with ⟨b,_⟩|⟨y,z,D,a⟩
    ·exact absurd ⟨d,e,f⟩ b
    ·obtain ⟨_,_,E,F,_⟩:=f;obtain ⟨_,_,G,H,_⟩:=D;obtain rfl:d=y:=by omega
     obtain rfl:e=z:=by omega
     exact aDb c a
def qH(f:List Lt->Bool->Int->Prop)(w:World)(i:Ending)(d:World):Prop:=
 ∃c a e b,i=.returned (.tuple #[c,.bool e,.int .i64 b])/\f a e b/\bN w.heap.size d c a/\a.length<=100/\aB w d
theorem qH.none{S:List Lt->Bool->Int->Prop}{w':World}{a:Int}(b:S [] false a)(c:aB w w'):qH S w (.returned (.tuple #[.slice none 0 0,.bool false,.int .i64 a])) w':=
 ⟨_,[],false,a,rfl,b,bN.nil _ _,by simp,c⟩
theorem aGj(d:Option Addr)(n e:Nat)(a:Int)(w:World):Calls zy 105 #[.slice d n e,.int .i64 a] w λf i=>f=.returned (.bool (decide (0<=a/\a<n)))/\i=w:=by
 by_cases b:0<=a
 ·by_cases c:a<n
  ·have:decide (0<=a/\a<n)=true:=by simp [b,c]
   rw [this];go_enter zg,zi;go_wp2;go_ret;exact ⟨rfl,rfl⟩
  ·have:decide (0<=a/\a<n)=false:=by simp [c]
   rw [this];go_enter zg,zi;go_wp2;go_ret;exact ⟨rfl,rfl⟩
 ·have:decide (0<=a/\a<n)=false:=by simp [b]
  rw [this];go_enter zg,zi;go_wp2;go_ret;exact ⟨rfl,rfl⟩
theorem aR5(I J:Option Addr)(z A:Nat)(a b:List Lt)(o p:Int)(w:World)(M:bP w I a)(S:bP w J b)(a1:iW w):Calls zy 79 #[.slice I a.length z,.int .i64 o,.slice J b.length A,.int .i64 p] w λk d2=>qH (nI a b o p) w k d2:=by
 have t:=aA (aBw I z a w M a1);have c4:=aA a1;have a9:=aA M;have Y:=aA S;clear M S a1;cases i1:bK a with
 |false=>
  have m:aI (nI a b o p [] false 5):=aA (Or.inl ⟨by simp [i1],rfl,rfl,rfl⟩);rw [i1] at t;clear i1;go_enter zs,zt;go_wp2_with (go_at_call 19;refine (aC t).mono ?_;rintro k N ⟨rfl,c⟩;have f:=aA c;clear c);go_returns;exact qH.none m.o f.o
 |true=>
  rw [i1] at t;have v:=aA (λr (u:aB w r)=>aBw J A b r (Y.o.below u (zz _)) (c4.o.below u (zz _)));cases i2:bK b with
  |false=>
   have m:aI (nI a b o p [] false 5):=aA (Or.inl ⟨by simp [i2],rfl,rfl,rfl⟩);rw [i2] at v;clear i1 i2;go_enter zs,zt;go_wp2_with (first
    |(go_at_call 19;refine (aC v _ f.o).mono ?_;rintro k G ⟨rfl,i⟩;have j:=aA (f.o.trans (i.mono q));clear i)
    |(go_at_call 19;refine (aC t).mono ?_;rintro k N ⟨rfl,c⟩;have f:=aA c;have q:=c.size;clear c))
   go_returns;exact qH.none m.o j.o
  |true=>
   rw [i2] at v;have P:=aA (And.intro i1 i2);have D:=aA (λr=>aGj I a.length z o r);have H:=aA (λr=>aGj J b.length A p r);have y:aI ((¬∃d e,aBx a b o p d e)->nI a b o p [] false 6):=aA λc6=>Or.inr ⟨i1,i2,Or.inl ⟨c6,rfl,rfl,rfl⟩⟩
   clear i1 i2;by_cases C:0<=o/\o<a.length
   ·rw [fH C] at D;obtain ⟨d,rfl⟩ : ∃d:Nat,o=d:=⟨o.toNat,by omega⟩;have T:d<a.length:=by omega
    by_cases E:0<=p/\p<b.length
    ·rw [fH E] at H;obtain ⟨e,rfl⟩ : ∃e:Nat,p=e:=⟨p.toNat,by omega⟩;have U:e<b.length:=by omega
     have e0:(d:Int)<(a.length:Int):=by omega
     have e2:(e:Int)<(b.length:Int):=by omega
     have e1:(0:Int)<=(d:Int):=by omega
     have e3:(0:Int)<=(e:Int):=by omega
     obtain ⟨Z,a7,d4,d5,rfl,L,_,_⟩:=a9.o.cell d T;obtain ⟨a0,a8,d6,d7,rfl,R,_,_⟩:=Y.o.cell e U;by_cases F:a[d].1=b[e].1
     ·have m:=aA (y.o (λ⟨b0,b1,b6,b7,b8,b9,c9⟩=>by
       obtain rfl:d=b0:=by omega
       obtain rfl:e=b1:=by omega
       exact c9 F))
      rw [F] at L;clear y C E F;go_enter zs,zt;go_upto_region 3 with (first
       |(go_at_call 19;refine (aC v _ f.o).mono ?_;rintro k G ⟨rfl,i⟩;have j:=aA (f.o.trans (i.mono q));clear i)
       |(go_at_call 19;refine (aC t).mono ?_;rintro k N ⟨rfl,c⟩;have f:=aA c;have q:=c.size;clear c))
      have b2:=aD j.o L;have b3:=aD j.o R;go_quiet (first|(go_at_call_of 105 (zr (some ⟨Z,a7,none⟩) a.length z);exact zx (aC D _))|(go_at_call_of 105 (zr (some ⟨a0,a8,none⟩) b.length A);exact zx (aC H _)));go_wp2;go_returns;exact qH.none m.o (aZ j.o (aQ ⟨_,rfl⟩))
     ·have c7:(a[d].1==b[e].1)=false:=by simpa using F
      have a3:=kL P.o.1;have a6:=kL P.o.2;have c0:=aA (λ(r:World) (u:aB w r)=>aJx (some ⟨Z,a7,none⟩) (some ⟨a0,a8,none⟩) z A a b d e r (a9.o.below u (zz _)) (Y.o.below u (zz _)) a3.term a6.term T U a3.len a6.len);have m:aI (∀V X Q w3 O,aB w w3->wR w3 w3.heap.size (aW 0 a[d].2++aW 1 b[e].2) 0 a[d].2.length (bE 0 [(a,d),(b,e)]) V X Q O->qH (nI a b d e) w (.returned (.tuple #[V,.bool X,.int .i64 Q])) O):=aA λV X Q w3 O u b5=>by
       obtain ⟨c8,M,S,c5⟩:=(b5.lift u).out;exact ⟨V,c8,X,Q,rfl,Or.inr ⟨P.o.1,P.o.2,Or.inr ⟨d,e,⟨T,U,rfl,rfl,F⟩,by simpa [T,U] using M⟩⟩,S,c5,(b5.lift u).low⟩
      clear y C E a3 a6;obtain ⟨d8,a2⟩ : ∃x,a[d].1=x:=⟨_,rfl⟩;obtain ⟨d9,a5⟩ : ∃x,b[e].1=x:=⟨_,rfl⟩;rw [a2] at L;rw [a5] at R;rw [a2,a5] at c7;clear a2 a5 F;go_enter zs,zt;go_upto_region 3 with (first
       |(go_at_call 19;refine (aC v _ f.o).mono ?_;rintro k G ⟨rfl,i⟩;have j:=aA (f.o.trans (i.mono q));clear i)
       |(go_at_call 19;refine (aC t).mono ?_;rintro k N ⟨rfl,c⟩;have f:=aA c;have q:=c.size;clear c))
      have b2:=aD j.o L;have b3:=aD j.o R;go_quiet (first|(go_at_call_of 105 (zr (some ⟨Z,a7,none⟩) a.length z);exact zx (aC D _))|(go_at_call_of 105 (zr (some ⟨a0,a8,none⟩) b.length A);exact zx (aC H _)));have a4:aB w (G.drewN nq):=aZ j.o (aQ (w1:=G.drewN nq) ⟨nq,rfl⟩);have c1:=aA (c0.o _ a4);have c3:=aA a4;clear L R b2 b3 a4;go_wp2_with (first
       |(go_at_call 106;refine (aC c1).mono ?_)
       |go_in)
      rintro k O ⟨d1,d3,d0,rfl,b4⟩;have c2:=aA (m.o d1 d3 d0 _ O c3.o b4);clear b4;go_wp2;go_returns;exact c2.o
    ·rw [gH E] at H;have m:=aA (y.o (λ⟨b0,b1,b6,b7,b8,b9,_⟩=>E (by omega)));clear y C E;go_enter zs,zt;go_upto_region 3 with (first
      |(go_at_call 19;refine (aC v _ f.o).mono ?_;rintro k G ⟨rfl,i⟩;have j:=aA (f.o.trans (i.mono q));clear i)
      |(go_at_call 19;refine (aC t).mono ?_;rintro k N ⟨rfl,c⟩;have f:=aA c;have q:=c.size;clear c))
     go_quiet (first|(go_at_call_of 105 (zr I a.length z);exact zx (aC D _))|(go_at_call_of 105 (zr J b.length A);exact zx (aC H _)));go_wp2;go_returns;exact qH.none m.o (aZ j.o (aQ ⟨_,rfl⟩))
   ·rw [gH C] at D;have m:=aA (y.o (λ⟨d,e,b6,b7,b8,b9,_⟩=>C (by omega)));clear y C;go_enter zs,zt;go_upto_region 3 with (first
     |(go_at_call 19;refine (aC v _ f.o).mono ?_;rintro k G ⟨rfl,i⟩;have j:=aA (f.o.trans (i.mono q));clear i)
     |(go_at_call 19;refine (aC t).mono ?_;rintro k N ⟨rfl,c⟩;have f:=aA c;have q:=c.size;clear c))
    go_quiet ((go_at_call 105;exact zx (aC D _)));go_wp2;go_returns;exact qH.none m.o (aZ j.o (aQ ⟨_,rfl⟩))
theorem aBy(a n:Int)(w:World):Calls zy 78 #[.int .i64 a,.int .i64 n] w λd e=>d=.returned (.bool (decide (0<=a/\a<n)))/\e=w:=by
 by_cases b:0<=a
 ·by_cases c:a<n
  ·have:decide (0<=a/\a<n)=true:=by simp [b,c]
   rw [this];go_enter ze,zf;go_wp2;go_ret;exact ⟨rfl,rfl⟩
  ·have:decide (0<=a/\a<n)=false:=by simp [c]
   rw [this];go_enter ze,zf;go_wp2;go_ret;exact ⟨rfl,rfl⟩
 ·have:decide (0<=a/\a<n)=false:=by simp [b]
  rw [this];go_enter ze,zf;go_wp2;go_ret;exact ⟨rfl,rfl⟩
theorem aR6(x:Lt):lP x x=true:=by rw [aEc];simp
theorem aR7(y z:Option Addr)(O P:Nat)(l:List Lt)(w:World)(o:bP w y l)(C:bP w z l):Calls zy 47 #[.slice y l.length O,.slice z l.length P,.func (Fn.func 48) #[] #[]] w λA Q=>A=.returned (.bool true)/\aB w Q:=by
 have a0:=o.few;have t:=aA o;have u:=aA C;clear o C;go_enter Tryz.func47,Tryz.ntmps47;go_wp2;go_loopw [17] (λp wr=>∃a:Nat,a<=l.length/\p=.int .i64 a/\aB w wr) (λp _=>l.length-(intOf p).toNat);case atStart=>exact ⟨0,zn _,rfl,Below.refl _ _⟩
 case round=>
  obtain ⟨a,a1,rfl,b⟩:=hrel;by_cases E:a<l.length
  ·obtain ⟨S,a3,J,L,rfl,i,j,q⟩:=t.o.cell a E;obtain ⟨T,a4,M,N,rfl,k,m,r⟩:=u.o.cell a E;have e:=aA (λ(G:World) (F:aB w G)=>aBt l[a].1 l[a].1 J M L N l[a].2 l[a].2 G (q.below F (zz _)) (r.below F (zz _)));rw [show lP (l[a].1,l[a].2) (l[a].1,l[a].2)=true from aR6 _] at e;generalize l[a]=x at *;obtain ⟨a6,R⟩:=x;simp only at i j k m e q r;have U:=aD b i;have V:=aD b j;have d:=λc=>Below.trans b ((Below.refl w.heap.size wr).alloc b.size c)
   have X:=λc=>aD (d c) k
   have Y:=λc=>aD (d c) m
   have a2:(a:Int)<(l.length:Int):=by omega
   have v:=aA b;have f:=aA (λc I=>Below.trans (d c) ((Below.refl w.heap.size (wr.alloc c)).alloc (zq b.size (by simp)) I));have Z:=b.size;clear i j k m q r b d;generalize R.length=xn at *;go_wp2_with (first
    |(go_at_call 48;refine (aC e _ (f.o _ _)).mono ?_;rintro A a5 ⟨rfl,D⟩;have H:=aA ((f.o _ _).trans (D.mono (f.o _ _).size));clear D)
    |go_in)
   go_roundw;case rel=>exact ⟨a+1,by omega,by go_num,H.o⟩
   case measure=>simp [intOf];omega
  ·obtain rfl:a=l.length:=by omega
   have v:=aA b;clear b t u;go_wp2;go_ret;exact ⟨rfl,v.o⟩
theorem aR8(j b q a:Nat)(v:Value)(r:Option Addr)(u t:Nat)(o:Option Addr)(n f:Nat)(w:World)(k:w.cell? ⟨j,a,none⟩=some (.slice o n f))(z:a<b):Calls zy 46 #[.slice (some ⟨j,0,none⟩) b q,v,.agg #[.int .i64 1,.int .i64 a,.int .i64 0,.int .i64 0,.int .i64 0,.slice r u t]] w λi y=>i=.returned (.tuple #[.slice o n f,.bool true])/\aB w y:=by
 have e:=aA (λd=>aBy (a:Int) (b:Int) d);rw [fH (show (0:Int)<=(a:Int)/\(a:Int)<(b:Int) by omega)] at e;have A:(a:Int)<(b:Int):=by omega
 have C:=λc=>aD ((Below.refl w.heap.size w).alloc (zz _) c) k
 have p:=aA (λc=>(Below.refl w.heap.size w).alloc (zz _) c);clear k;go_enter Tryz.func46,Tryz.ntmps46;go_wp2_with (first
  |(go_at_call 78;refine (aC e _).mono ?_;rintro i d ⟨rfl,m⟩;rw [m];clear m d)
  |go_in)
 go_returns;exact ⟨rfl,p.o _⟩
theorem aR9(a9:Option Addr)(b1 b0 y n a0 a b m o:Nat)(I:Option Addr)(L J:Nat)(E F:Option Addr)(G H:Nat)(u v r:List Lt)(w:World)(b7:a<n)(b9:b<n)(O:w.cell? ⟨y,a*6+5,none⟩=some (.slice E u.length G))(P:w.cell? ⟨y,b*6+5,none⟩=some (.slice F v.length H))(Q:bP w E u)(R:bP w F v)(T:iW w)(S:nI u v m o r true 0)(V:bK r=true):Calls zy 46 #[.slice a9 b1 b0,.slice (some ⟨y,0,none⟩) n a0,.agg #[.int .i64 2,.int .i64 a,.int .i64 b,.int .i64 m,.int .i64 o,.slice I L J]] w λj f=>∃i t,j=.returned (.tuple #[.slice i r.length t,.bool true])/\bP f i r/\aB w f:=by
 have M:=aA (λe=>aBy (a:Int) (n:Int) e);have N:=aA (λe=>aBy (b:Int) (n:Int) e);rw [fH (show (0:Int)<=(a:Int)/\(a:Int)<(n:Int) by omega)] at M;rw [fH (show (0:Int)<=(b:Int)/\(b:Int)<(n:Int) by omega)] at N;have b8:(a:Int)<(n:Int):=by omega
 have c0:(b:Int)<(n:Int):=by omega
 obtain ⟨c,a6,p,q,a4⟩ : ∃c,w.alloc (.cells #[.int .i64 2,.int .i64 a,.int .i64 b,.int .i64 m,.int .i64 o,.slice I L J] 77)=c/\aB w c/\c.heap[w.heap.size]?=some (.cells #[.int .i64 2,.int .i64 a,.int .i64 b,.int .i64 m,.int .i64 o,.slice I L J] 77 (0,0))/\c.heap.size=w.heap.size+1:=⟨_,rfl,(Below.refl _ w).alloc (zz _) _,zj w _,by simp⟩;have a7:=aD p O;have a8:=aD p P;have c3:c.cell? ⟨w.heap.size,0,none⟩=some (.int .i64 2):=by simp [zw,q]
 have b2:c.cell? ⟨w.heap.size,1,none⟩=some (.int .i64 a):=by simp [zw,q]
 have b3:c.cell? ⟨w.heap.size,2,none⟩=some (.int .i64 b):=by simp [zw,q]
 have b4:c.cell? ⟨w.heap.size,3,none⟩=some (.int .i64 m):=by simp [zw,q]
 have b5:c.cell? ⟨w.heap.size,4,none⟩=some (.int .i64 o):=by simp [zw,q]
 have X:=aA (λ(e:World) (D:∃d,e=c.drewN d)=>(aR5 E F G H u v m o e (by obtain ⟨d,rfl⟩:=D;exact (Q.below p (zz _)).below (aQ ⟨d,rfl⟩) (zz _)) (by obtain ⟨d,rfl⟩:=D;exact (R.below p (zz _)).below (aQ ⟨d,rfl⟩) (zz _)) (by obtain ⟨d,rfl⟩:=D;exact (T.below p (zz _)).below (aQ ⟨d,rfl⟩) (zz _))).mono (R':=λj C=>∃i t,j=.returned (.tuple #[.slice i r.length t,.bool true,.int .i64 0])/\bP C i r/\aB w C/\aB c C) (λj C a2=>by
  obtain ⟨d,rfl⟩:=D;obtain ⟨c2,c1,d0,b6,rfl,a5,a1,_,z⟩:=a2;obtain ⟨rfl,rfl,rfl⟩:=a5.one S;obtain ⟨i,t,rfl,_,a3,_⟩:=a1.lits (kL V);exact ⟨i,t,rfl,a3,aZ p ((aQ ⟨d,rfl⟩).trans z),(aQ ⟨d,rfl⟩).trans z⟩))
 clear O P Q R T S V q a4;go_enter Tryz.func46,Tryz.ntmps46;go_upto_region 1 with (fail);clear a6;go_upto_region 9 with (first
  |(go_at_call_of 78 (Value.int IntKind.i64 (a:Int));refine (aC M _).mono ?_;rintro j e ⟨rfl,A⟩;rw [A];clear A e)
  |(go_at_call_of 78 (Value.int IntKind.i64 (b:Int));refine (aC N _).mono ?_;rintro j e ⟨rfl,A⟩;rw [A];clear A e)
  |go_in)
 generalize u.length=cn at *;generalize v.length=dn at *;go_region_held3 (λf=>f.cell? ⟨w.heap.size,1,none⟩=some (.int .i64 a)/\f.cell? ⟨w.heap.size,2,none⟩=some (.int .i64 b)/\f.cell? ⟨w.heap.size,3,none⟩=some (.int .i64 m)/\f.cell? ⟨w.heap.size,4,none⟩=some (.int .i64 o)/\f.cell? ⟨y,a*6+5,none⟩=some (.slice E cn G)/\f.cell? ⟨y,b*6+5,none⟩=some (.slice F dn H)) (first|trivial|go_keep)
  (first
   |(go_at_call 79;refine (aC X _ (by first|exact ⟨0,rfl⟩|exact ⟨1,rfl⟩|exact ⟨_,rfl⟩)).mono ?_;rintro j C ⟨i,t,rfl,U,z,k⟩;have Z:=aA U;have Y:=aA z;have c4:=aD k b2;have c5:=aD k b3;have c6:=aD k b4;have c7:=aD k b5;have c8:=aD k a7;have c9:=aD k a8;clear U z k)
   |go_in)
 go_wp2;go_returns;exact ⟨_,_,rfl,Z.o,Y.o⟩
theorem aRa(L J:Value)(r m o p q:Nat)(i:Option Addr)(k:Nat)(a:List Lt)(w:World)(I:bP w i a)(F:cZ a=true)
  (G:∀d,aB w d->Calls zy 46 #[L,J,.agg #[.int .i64 r,.int .i64 m,.int .i64 o,.int .i64 p,.int .i64 q,.slice i a.length k]] d λj u=>∃c e,j=.returned (.tuple #[.slice c a.length e,.bool true])/\bP u c a/\aB d u):Calls zy 28 #[L,J,.agg #[.int .i64 r,.int .i64 m,.int .i64 o,.int .i64 p,.int .i64 q,.slice i a.length k]] w λj u=>j=.returned (.bool true)/\aB w u:=by
 obtain ⟨b,T,v,f,X⟩ : ∃b,w.alloc (.cells #[.int .i64 r,.int .i64 m,.int .i64 o,.int .i64 p,.int .i64 q,.slice i a.length k] 77)=b/\aB w b/\b.heap[w.heap.size]?=some (.cells #[.int .i64 r,.int .i64 m,.int .i64 o,.int .i64 p,.int .i64 q,.slice i a.length k] 77 (0,0))/\b.heap.size=w.heap.size+1:=⟨_,rfl,(Below.refl _ w).alloc (zz _) _,zj w _,by simp⟩;have a0:b.cell? ⟨w.heap.size,0,none⟩=some (.int .i64 r):=by simp [zw,f]
 have a1:b.cell? ⟨w.heap.size,1,none⟩=some (.int .i64 m):=by simp [zw,f]
 have a2:b.cell? ⟨w.heap.size,2,none⟩=some (.int .i64 o):=by simp [zw,f]
 have a3:b.cell? ⟨w.heap.size,3,none⟩=some (.int .i64 p):=by simp [zw,f]
 have a4:b.cell? ⟨w.heap.size,4,none⟩=some (.int .i64 q):=by simp [zw,f]
 have U:b.cell? ⟨w.heap.size,5,none⟩=some (.slice i a.length k):=by simp [zw,f]
 have N:=aA (G b v);have A:=aA (λ(c:Option Addr) (e:Nat) (d:World) (z:bP d c a)=>uG c e a d z);rw [F] at A;have M:=aA (λ(c:Option Addr) (e:Nat) (d:World) (z:bP d c a) (S:aB w d)=>aR7 c i e k a d z (I.below S (zz _)));have O:=aA v;clear G I F f v;go_enter Tryz.func28,Tryz.ntmps28;go_upto_region 1 with (fail);clear T;go_wp2_with (first
  |(go_at_call 46;refine (aC N).mono ?_;rintro j Y ⟨c,e,rfl,H,y⟩;have V:=aD y U;have D:=aA H;have P:=aA (aZ O.o y);clear H y)
  |(go_at_call 33;refine (aC A c e _ D.o).mono ?_;rintro j w3 ⟨rfl,t⟩;have a5:=aD t V;have R:=aA (D.o.below t (zz _));have C:=aA (aZ P.o t);clear t)
  |(go_at_call 47;refine (aC M c e _ R.o C.o).mono ?_;rintro j Z ⟨rfl,E⟩;have Q:=aA (aZ C.o E);clear E)
  |go_in)
 go_ret;exact ⟨rfl,Q.o⟩
