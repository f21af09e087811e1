import Derived.Test.YthjhkgohninpcaaGreatDoorGClsM
import Derived.Test.YthjhkgohninpcaaGreatDoorXKn0M
import Derived.Test.YthjhkgohninpcaaGreatDoorWRes1M
open List renaming length_map→zw,getElem?_eq_getElem→zv,map_append→zu,length_append→zp,length_eraseIdx_of_lt→zo,getElem_append_right→zn,length_take→zm,length_eraseIdx_le→zl,take_length→zk,mem_append→zi,map_cons→zg,map→zd,getElem_mem→zc
open Nat renaming le_refl→zz,lt_trans→ze
open Or renaming inr→zx,inl→zr
open Prod renaming fst→zy
namespace Go.Proofs.YthjhkgohninpcaaGreatDoor
open _root_.Go.Proofs.Tryz renaming ntmps80→zt,prog→zs,func80→zq,ntmps48→zj,func48→zh,underlying182→zf
open Go.RowKit Go.Shelf Go.WideMaps
set_option maxHeartbeats 8000000
set_option maxRecDepth 100000
structure Sx(w:World)(b o:Nat)(r a b' i j:Int)(v:Value):Prop where
 c0:w.cell? ⟨b,o,none⟩=some (.int .i64 r)
 c1:w.cell? ⟨b,o+1,none⟩=some (.int .i64 a)
 c2:w.cell? ⟨b,o+2,none⟩=some (.int .i64 b')
 c3:w.cell? ⟨b,o+3,none⟩=some (.int .i64 i)
 c4:w.cell? ⟨b,o+4,none⟩=some (.int .i64 j)
 c5:w.cell? ⟨b,o+5,none⟩=some v
theorem aAy(S:Option Addr)(A T H L G N m:Nat)(o f l u z:Int)(v:Option Addr)(B:Nat)(p:List Lt)(w:World)(R:Sx w H (L+m*6) o f l u z (.slice v p.length B))(O:m<G)(F:bD w v p)(x:(o=1/\¬((0<=f/\f<A)/\l=0/\u=0/\z=0))\/(o=2/\¬((0<=f/\f<m)/\(0<=l/\l<m)))\/(o=3/\¬((0<=f/\f<m)/\l=0))\/(o≠1/\o≠2/\o≠3)):Calls zs 48 #[.slice S A T,.slice (some ⟨H,L,none⟩) G N,.int .i64 m] w λc a0=>c=.returned (.bool false)/\aC w a0:=by
 obtain ⟨M,Q,y,P,a8,a9,b0,b1,b2,b3⟩:=oQ w o f l u z (.slice v p.length B);have j:=aA (wY v B p M (F.below y (zz _)));have i:=aA (wX none v 0 B [] p M ⟨by simp,λa7 x=>by simp at x⟩ (F.below y (zz _)));obtain ⟨U,V,W,X,Y,Z⟩:=R;have a5:(m:Int)<(G:Int):=by omega
 have k:=aA y;have t:=aA x;clear x y P F O;generalize cD p=fb at *;generalize decide (([]:List Lt)=p)=db at *;simp only [List.length_nil] at i;generalize p.length=cn at *;go_enter zh,zj;go_upto_region 2 with (go_in);clear Q U V W X Y Z;rcases t.o with ⟨rfl,hh⟩|⟨rfl,hh⟩|⟨rfl,hh⟩|hh
 ·have g:=aA hh;clear t hh;by_cases q:0<=f
  ·by_cases r:f<A
   ·by_cases s:l=0
    ·subst s;by_cases C:u=0
     ·subst C;have D:(z==0)=false:=kT (λc=>g.o ⟨⟨q,r⟩,rfl,rfl,c⟩);clear g;go_wp2_with (first
       |(go_at_call 47;refine (aB j).mono ?_;rintro c e ⟨rfl,b⟩;rw [b];clear b e)
       |(go_at_call 14;refine (aB i).mono ?_;rintro c n ⟨rfl,a⟩;have d:=aA (aV k.o (aL a));clear a)
       |go_in)
      all_goals
       go_ret;exact ⟨rfl,d.o⟩
     ·have D:(u==0)=false:=kT C;clear C g;go_wp2_with (first
       |(go_at_call 47;refine (aB j).mono ?_;rintro c e ⟨rfl,b⟩;rw [b];clear b e)
       |(go_at_call 14;refine (aB i).mono ?_;rintro c n ⟨rfl,a⟩;have d:=aA (aV k.o (aL a));clear a)
       |go_in)
      all_goals
       go_ret;exact ⟨rfl,d.o⟩
    ·have D:(l==0)=false:=kT s;clear s g;go_wp2_with (first
      |(go_at_call 47;refine (aB j).mono ?_;rintro c e ⟨rfl,b⟩;rw [b];clear b e)
      |(go_at_call 14;refine (aB i).mono ?_;rintro c n ⟨rfl,a⟩;have d:=aA (aV k.o (aL a));clear a)
      |go_in)
     all_goals
      go_ret;exact ⟨rfl,d.o⟩
   ·have J:decide (f<(A:Int))=false:=dE r;clear g;go_wp2_with (first
     |(go_at_call 47;refine (aB j).mono ?_;rintro c e ⟨rfl,b⟩;rw [b];clear b e)
     |(go_at_call 14;refine (aB i).mono ?_;rintro c n ⟨rfl,a⟩;have d:=aA (aV k.o (aL a));clear a)
     |go_in)
    all_goals
     go_ret;exact ⟨rfl,d.o⟩
  ·have I:decide (0<=f)=false:=dE q;clear g;go_wp2_with (first
    |(go_at_call 47;refine (aB j).mono ?_;rintro c e ⟨rfl,b⟩;rw [b];clear b e)
    |(go_at_call 14;refine (aB i).mono ?_;rintro c n ⟨rfl,a⟩;have d:=aA (aV k.o (aL a));clear a)
    |go_in)
   all_goals
    go_ret;exact ⟨rfl,d.o⟩
 ·have g:=aA hh;clear t hh;by_cases q:0<=f
  ·by_cases r:f<m
   ·by_cases s:0<=l
    ·have E:¬l<m:=λE=>g.o ⟨⟨q,r⟩,s,E⟩
     have a6:decide (l<(m:Int))=false:=dE E;clear g;go_wp2_with (first
      |(go_at_call 47;refine (aB j).mono ?_;rintro c e ⟨rfl,b⟩;rw [b];clear b e)
      |(go_at_call 14;refine (aB i).mono ?_;rintro c n ⟨rfl,a⟩;have d:=aA (aV k.o (aL a));clear a)
      |go_in)
     all_goals
      go_ret;exact ⟨rfl,d.o⟩
    ·have a4:decide (0<=l)=false:=dE s;clear g;go_wp2_with (first
      |(go_at_call 47;refine (aB j).mono ?_;rintro c e ⟨rfl,b⟩;rw [b];clear b e)
      |(go_at_call 14;refine (aB i).mono ?_;rintro c n ⟨rfl,a⟩;have d:=aA (aV k.o (aL a));clear a)
      |go_in)
     all_goals
      go_ret;exact ⟨rfl,d.o⟩
   ·have J:decide (f<(m:Int))=false:=dE r;clear g;go_wp2_with (first
     |(go_at_call 47;refine (aB j).mono ?_;rintro c e ⟨rfl,b⟩;rw [b];clear b e)
     |(go_at_call 14;refine (aB i).mono ?_;rintro c n ⟨rfl,a⟩;have d:=aA (aV k.o (aL a));clear a)
     |go_in)
    all_goals
     go_ret;exact ⟨rfl,d.o⟩
  ·have I:decide (0<=f)=false:=dE q;clear g;go_wp2_with (first
    |(go_at_call 47;refine (aB j).mono ?_;rintro c e ⟨rfl,b⟩;rw [b];clear b e)
    |(go_at_call 14;refine (aB i).mono ?_;rintro c n ⟨rfl,a⟩;have d:=aA (aV k.o (aL a));clear a)
    |go_in)
   all_goals
    go_ret;exact ⟨rfl,d.o⟩
 ·have g:=aA hh;clear t hh;by_cases q:0<=f
  ·by_cases r:f<m
   ·have D:(l==0)=false:=kT (λc=>g.o ⟨⟨q,r⟩,c⟩);clear g;go_wp2_with (first
     |(go_at_call 47;refine (aB j).mono ?_;rintro c e ⟨rfl,b⟩;rw [b];clear b e)
     |(go_at_call 14;refine (aB i).mono ?_;rintro c n ⟨rfl,a⟩;have d:=aA (aV k.o (aL a));clear a)
     |go_in)
    all_goals
     go_ret;exact ⟨rfl,d.o⟩
   ·have J:decide (f<(m:Int))=false:=dE r;clear g;go_wp2_with (first
     |(go_at_call 47;refine (aB j).mono ?_;rintro c e ⟨rfl,b⟩;rw [b];clear b e)
     |(go_at_call 14;refine (aB i).mono ?_;rintro c n ⟨rfl,a⟩;have d:=aA (aV k.o (aL a));clear a)
     |go_in)
    all_goals
     go_ret;exact ⟨rfl,d.o⟩
  ·have I:decide (0<=f)=false:=dE q;clear g;go_wp2_with (first
    |(go_at_call 47;refine (aB j).mono ?_;rintro c e ⟨rfl,b⟩;rw [b];clear b e)
    |(go_at_call 14;refine (aB i).mono ?_;rintro c n ⟨rfl,a⟩;have d:=aA (aV k.o (aL a));clear a)
    |go_in)
   all_goals
    go_ret;exact ⟨rfl,d.o⟩
 ·have a1:(o==1)=false:=kT hh.1;have a2:(o==2)=false:=kT hh.2.1;have a3:(o==3)=false:=kT hh.2.2;clear t hh;go_wp2_with (first
   |(go_at_call 47;refine (aB j).mono ?_;rintro c e ⟨rfl,b⟩;rw [b];clear b e)
   |(go_at_call 14;refine (aB i).mono ?_;rintro c n ⟨rfl,a⟩;have d:=aA (aV k.o (aL a));clear a)
   |go_in)
  all_goals
   go_ret;exact ⟨rfl,d.o⟩
section
variable {D1 D2:List (Int×Lt)}{rd:Int×Lt}{R:List Rw}{g:Nat->Nat}
theorem aUj(c:Rows (aK (D1++rd::D2)) R g)(f:∀b∈D1,bA b.2.2 1=true)(i:∀b∈D2,bA b.2.2 1=true)(j:bA rd.2.2 1=true):Rows (aQ rd.1 rd.2.2++aK (D1++D2)) R (λm=>g (dN 0 rd.2.2.length (aK D1).length m)):=by
 have n:dM ((aQ rd.1 rd.2.2).map Prod.snd):=by rw [sQ];exact qH j
 have d:aK (D1++rd::D2)=[]++aK D1++aQ rd.1 rd.2.2++aK D2:=by simp [qS,rH]
 rw [d] at c;have a:=c.swap (by intro o p k;simp at k) (rI f) n (rI i);have e : []++aQ rd.1 rd.2.2++aK D1++aK D2=aQ rd.1 rd.2.2++aK (D1++D2):=by simp [qS]
 rw [e] at a;have l:(aQ rd.1 rd.2.2).length=rd.2.2.length:=by simp [aQ]
 simp only [List.length_nil,l] at a;exact a
theorem aUk(j:∀c∈D1,0<c.2.2.length)(k:∀c∈D2,0<c.2.2.length):(bE rd.2.2.length (D1++D2)).map (dN 0 rd.2.2.length (aK D1).length)=bE 0 D1++bE ((aK D1).length+rd.2.2.length) D2:=by
 rw [uC,zu];have i:∀(a:List (Int×Lt)) (e d:Nat),(∀c∈a,0<c.2.2.length)->(∀b,b<(aK a).length->dN 0 rd.2.2.length (aK D1).length (e+b)=d+b)->(bE e a).map (dN 0 rd.2.2.length (aK D1).length)=bE d a:=by intro a e d l f;rw [uD a e,uD a d,List.map_map];apply List.map_congr_left;intro b m;have:=vU a 0 l b m;exact f b (by omega)
 rw [i D1 _ 0 j ?_,i D2 _ ((aK D1).length+rd.2.2.length) k ?_];all_goals
  intro b f;unfold dN;repeat' split
  all_goals omega
end
theorem aUl{m:List Lt}{v p:Nat}(C:v<p)(D:p<m.length)(u:∀k∈m,bA k.2 1=true){x:Tb}{j:Nat->Nat}(t:Rows (aK (m.map (λg=>((0:Int),g)))) (x.map zy) j)(a5:hH x){l:List Nat}
  (o:(bE 0 (m.map λg=>((0:Int),g))).map j=l) (c0:v<l.length) (c1:p<l.length)
  {F:List Lt} {G:Bool} {y:Int} (E:rG x l[v] l[p] (l.eraseIdx p) ((m.map zy).eraseIdx p) F G y):fL (aQ 0 (m[v]'(ze C D)).2++aQ 0 m[p].2) 0 (m[v]'(ze C D)).2.length (bJ 0 [(m,p)]) F G y:=by
 obtain ⟨b9,e,q,rfl,rfl⟩:=aC9 D;obtain ⟨f,b,i,rfl,rfl⟩:=aC9 C;have Y:(f++b::i++e::q)[(f++b::i).length]=e:=by simp
 have X:(f++b::i++e::q)[f.length]'(ze C D)=b:=by simp
 rw [X,Y];have a7:bJ 0 [(f++b::i++e::q,(f++b::i).length)]=f.map (λg=>((0:Int),g))++((0:Int),b)::(i.map (λg=>((0:Int),g))++q.map (λg=>((0:Int),g))):=by unfold bJ bJ;simp only;rw [uE];simp
 rw [a7];have J:∀(H:List Lt),(∀k∈H,bA k.2 1=true)->∀a∈H.map (λg=>((0:Int),g)),bA a.2.2 1=true:=λH a1 a hr=>by
  obtain ⟨k,r,rfl⟩:=List.mem_map.1 hr;exact a1 k r
 have M:=J f (λk r=>u k (by simp [r]));have N:=J i (λk r=>u k (by simp [r]));have w:=J q (λk r=>u k (by simp [r]));have P:=u b (by simp);have W:=u e (by simp);have c3:=kA W;have c2:=kA P;obtain ⟨c,z⟩ : ∃s,f.map (λg=>((0:Int),g))=s:=⟨_,rfl⟩;obtain ⟨d,A⟩ : ∃s,i.map (λg=>((0:Int),g))=s:=⟨_,rfl⟩;obtain ⟨n,I⟩ : ∃s,q.map (λg=>((0:Int),g))=s:=⟨_,rfl⟩;have L:c.length=f.length:=by rw [<-z];simp
 have U:d.length=i.length:=by rw [<-A];simp
 have b2:f.map zy=c.map λa=>a.2.1:=by rw [<-z];simp
 have b3:i.map zy=d.map λa=>a.2.1:=by rw [<-A];simp
 have b4:q.map zy=n.map λa=>a.2.1:=by rw [<-I];simp
 simp only [zu,zg] at t o E;rw [z] at M t o;rw [A] at N t o;rw [I] at w t o;rw [z,A,I];rw [b2,b3,b4] at E;have O:∀a∈c++((0:Int),b)::d,bA a.2.2 1=true:=by
  intro a hr;simp only [zi,List.mem_cons] at hr;rcases hr with hr|rfl|hr
  ·exact M a hr
  ·exact P
  ·exact N a hr
 have a9:(c++((0:Int),b)::d).length=(f++b::i).length:=by simp [L,U]
 have a2:=aUj (rd:=((0:Int),e)) t O w W;have a6:=aUk (rd:=((0:Int),e)) (λa hr=>kA (O a hr)) (λa hr=>kA (w a hr));have a3:=o;rw [aFm,zu,zg] at o;have S:(zd j (bE 0 (c++((0:Int),b)::d))).length=(f++b::i).length:=by rw [zw,vH,a9]
 have b6:l[(f++b::i).length]=j (0+(aK (c++((0:Int),b)::d)).length):=by subst o;rw [zn (by omega)];simp [S]
 have b5:l[f.length]=j (0+(aK c).length):=by
  have a8:(zd j (bE 0 c)).length=f.length:=by rw [zw,vH,L]
  have Q:=a3;rw [List.append_assoc,List.cons_append,aFm,zu,zg] at Q;subst Q;rw [zn (by omega)];simp [a8]
 have a0:l.eraseIdx (f++b::i).length=zd j (bE 0 (c++((0:Int),b)::d))++zd j (bE (0+(aK (c++((0:Int),b)::d)).length+e.2.length) n):=by rw [<-o,<-S];exact uE _ _ _
 have b0:(((c.map λa=>a.2.1)++b.1::d.map λa=>a.2.1)++e.1::n.map λa=>a.2.1).eraseIdx (f++b::i).length=((c.map λa=>a.2.1)++b.1::d.map λa=>a.2.1)++n.map λa=>a.2.1:=by have:=uE ((c.map λa=>a.2.1)++b.1::d.map λa=>a.2.1) (n.map λa=>a.2.1) e.1;rwa [show ((c.map λa=>a.2.1)++b.1::d.map λa=>a.2.1).length=(f++b::i).length by simp [L,U]] at this
 rw [b5,b6,a0,b0] at E;have V:(aK (c++((0:Int),b)::d)).length=(aK c).length+(b.2.length+(aK d).length):=by simp [qS,rH,aQ]
 have B:(aQ 0 e.2).length=e.2.length:=by simp [aQ]
 have a4:fL (aQ 0 e.2) ((aQ 0 e.2).length+(aK c).length) 0 (c++((0:Int),b)::(d++n)) F G y:=by
  have Z:c++((0:Int),b)::(d++n)=(c++((0:Int),b)::d)++n:=by simp
  rw [Z];refine aLk a2 rfl a5 (by rw [zp,qS,zp,V,B];omega) (by rw [zp,B];omega) ?_ ?_
  ·intro a hr;rcases zi.1 hr with hr|hr
   ·exact kA (O a hr)
   ·exact kA (w a hr)
  ·have b7:dN 0 e.2.length (aK (c++((0:Int),b)::d)).length ((aQ 0 e.2).length+(aK c).length)=0+(aK c).length:=by
    rw [B,V];unfold dN;repeat' split
    all_goals omega
   have b8:dN 0 e.2.length (aK (c++((0:Int),b)::d)).length 0=0+(aK (c++((0:Int),b)::d)).length:=by
    unfold dN;repeat' split
    all_goals omega
   show rG x (j (dN 0 e.2.length _ _)) (j (dN 0 e.2.length _ 0)) _ _ F G y;rw [b7,b8,B];have R:=congrArg (zd j) a6;rw [List.map_map] at R;rw [show (λb1=>j (dN 0 e.2.length (aK (c++((0:Int),b)::d)).length b1))=j∘dN 0 e.2.length (aK (c++((0:Int),b)::d)).length from rfl,R];simpa using E
 exact bB4 (T:=aQ 0 e.2) (r:=((0:Int),b)) M (λa hr=>by
  rcases zi.1 hr with hr|hr
  ·exact N a hr
  ·exact w a hr) P a4
def aDw(d:World)(g:List Lt)(i c b:Nat)(p o k l:Value)(wr:World):Prop:=
 ∃(a:List Nat) (q:Value) (j:Tb) (m:Nat->Nat) (e f:Nat),k=.int .i64 (e:Nat)/\l=.int .i64 (f:Nat)/\(i<b->a[i]?=some e)/\(c<b->a[c]?=some f)/\a.length=b/\fO d d.heap.size d.heap.size ((g.take b).map λn=>((0:Int),n)) a (a.eraseIdx c) (((g.take b).map zy).eraseIdx c) p o wr q j m
theorem aUm(e3:Option Addr)(h0:Nat)(a:List Lt)(r s:Int)(P:World)(L:bD P e3 a):Calls zs 80 #[.slice e3 a.length h0,.int .i64 r,.int .i64 s] P λk q=>jT (jF a r s) P k q:=by
 have y:=aA (aDo e3 h0 a P L);have d8:=aA L;clear L;cases v:cG a with
 |false=>
  rw [v] at y;have A:aG (jF a r s [] false 5):=aA (zr ⟨v,rfl,rfl,rfl⟩);clear v;go_enter zq,zt;go_wp2_with (go_at_call 118;refine (aB y).mono ?_;rintro k d5 ⟨rfl,i⟩;have t:=aA i;clear i);go_returns;exact jT.none A.o t.o
 |true=>
  rw [v] at y;have g7:=aA v;have z:aG ((¬∃e c,aC7 a r s e c)->jF a r s [] false 6):=aA λk6=>zx ⟨v,zr ⟨k6,rfl,rfl,rfl⟩⟩
  clear v;by_cases c5:r<0
  ·have A:=aA (z.o (λ⟨e,c,g0,g1,g2,g3,_⟩=>by omega));have k5:decide (r<0)=true:=by simpa using c5
   clear z;go_enter zq,zt;go_upto_region 4 with (go_at_call 118;refine (aB y).mono ?_;rintro k d5 ⟨rfl,i⟩;have t:=aA i;clear i);go_quiet (fail);go_wp2;go_returns;exact jT.none A.o (aV t.o (aL ⟨_,rfl⟩))
  ·have k5:decide (r<0)=false:=by simpa using c5
   by_cases c6:s<=r
   ·have A:=aA (z.o (λ⟨e,c,g0,g1,g2,g3,j1,_⟩=>by omega));have i1:decide (s<=r)=true:=by simpa using c6
    clear z;go_enter zq,zt;go_upto_region 4 with (go_at_call 118;refine (aB y).mono ?_;rintro k d5 ⟨rfl,i⟩;have t:=aA i;clear i);go_quiet (fail);go_wp2;go_returns;exact jT.none A.o (aV t.o (aL ⟨_,rfl⟩))
   ·by_cases f5:(a.length:Int)<=s
    ·have A:=aA (z.o (λ⟨e,c,g0,g1,g2,g3,j1,_⟩=>by omega));have i1:decide (s<=r)=false:=by simpa using c6
     have o3:decide ((a.length:Int)<=s)=true:=by simpa using f5
     clear z;go_enter zq,zt;go_upto_region 4 with (go_at_call 118;refine (aB y).mono ?_;rintro k d5 ⟨rfl,i⟩;have t:=aA i;clear i);go_quiet (fail);go_wp2;go_returns;exact jT.none A.o (aV t.o (aL ⟨_,rfl⟩))
    ·obtain ⟨e,rfl⟩ : ∃e:Nat,r=e:=⟨r.toNat,by omega⟩;obtain ⟨c,rfl⟩ : ∃c:Nat,s=c:=⟨s.toNat,by omega⟩;have h7:e<c:=by omega
     have R:c<a.length:=by omega
     have c3:e<a.length:=by omega
     have n8:(e:Int)<(a.length:Int):=by omega
     have o0:(c:Int)<(a.length:Int):=by omega
     have n9:(0:Int)<=(e:Int):=by omega
     have o1:(0:Int)<=(c:Int):=by omega
     have i1:decide (c<=e)=false:=by simp;omega
     have o4:decide (a.length<=c)=false:=by simp;omega
     obtain ⟨n2,p0,m8,n0,rfl,G,_,_⟩:=d8.o.cell e c3;obtain ⟨n4,p2,n5,n6,i3,a4,_,_⟩:=d8.o.cell c R;simp at i3;obtain ⟨rfl,rfl⟩:=i3;by_cases O:a[e].1=a[c].1
     ·have j5:=aA O;rw [O] at G;obtain ⟨h1,T⟩ : ∃g,a[c].1=g:=⟨_,rfl⟩;rw [T] at G a4;clear z c5 f5 c6 T O;go_enter zq,zt;go_upto_region 4 with (go_at_call 118;refine (aB y).mono ?_;rintro k g4 ⟨rfl,i⟩;have b8:=aA i;clear i);have e6:=aD b8.o G;have h2:=aD b8.o a4;go_quiet (fail);have f4:aC P (g4.drewN nq):=aV b8.o (aL (w1:=g4.drewN nq) ⟨nq,rfl⟩);generalize g4.drewN nq=w0 at *;have g6:=aA f4;have l1:=f4.size;clear G a4 e6 h2 f4 y b8;have d0:=nL g7.o;have e1:=aA d0;have o2:=d0.len;have g9:aG (∀b j,j∈(a.take b).map (λb3=>((0:Int),b3))->bA j.2.2 1=true/\j.2.2.length<=60):=aA λb j l=>by
       obtain ⟨g,b2,rfl⟩:=List.mem_map.1 l;exact d0.term g (List.mem_of_mem_take b2)
      obtain ⟨i9,v,h3,h4,h5⟩:=info_parts aDe;clear d0;go_wp2;go_loopw [11,12,13,14,15] (λm5 l7 j7 j9 f9 wr=>∃b:Nat,f9=.int .i64 b/\b<=a.length/\aDw w0 a e c b m5 l7 j7 j9 wr) (λ_ _ _ _ f9 _=>a.length-(intOf f9).toNat);case atStart=>exact ⟨0,rfl,Nat.zero_le _,[],_,_,_,0,0,rfl,rfl,λe7=>absurd e7 (Nat.not_lt_zero _),λe7=>absurd e7 (Nat.not_lt_zero _),rfl,fO.start w0⟩
      case round=>
       obtain ⟨b,rfl,o5,f,d4,D,n7,u,F,rfl,rfl,M,S,a6,p⟩:=hrel;by_cases f7:b<a.length
       ·obtain ⟨n3,p1,m9,n1,h9,c8⟩:=aFh d8.o g6.o e1.o 0 (by omega) f7;simp at h9;obtain ⟨rfl,rfl⟩:=h9;have e9:D.length<=1000:=p.few (λj l=>(g9.o b j l).2) (by rw [zw,zm];omega);obtain ⟨G,e6,b9,b7⟩:=c8 wr d4 D p.low p.tab (by omega) p.big;have o6:(b:Int)<(a.length:Int):=by omega
        obtain ⟨m0,m3,rfl⟩:=p.orv.shape;obtain ⟨l4,l5,rfl⟩:=aW p.onv;have l0:(f.eraseIdx c).length<=16:=by have:=zl f c;omega
        have k8:(((a.take b).map zy).eraseIdx c).length<=16:=by have:=zl ((a.take b).map zy) c;rw [zw,zm] at this;omega
        have Q:=aA (λ(d:Nat) (I:Value) (E:Tb) (d3:List Nd) (q:World) (l:mW wr w0.heap.size w0.heap.size d4 D 0 a[b].2 d d3 q I E)=>fO.putT (L0:=[]) (o:=0) (up:=0) (c:=a) (k:=b) p f7 rfl e1.o l);simp only [List.nil_append] at Q;have e0:=aA b7;have Y:=aA b9;have c9:(a.take (b+1)).map zy=(a.take b).map zy++[a[b].1]:=by rw [List.take_succ_eq_append_getElem f7,zu];rfl
        have e2:=aA c9;have J:=aA a6;obtain ⟨e5,c4⟩ : ∃g,a[b].1=g:=⟨_,rfl⟩;rw [c4] at G Y e2;have c7:((a.take b).map zy).length=b:=by rw [zw,zm];omega
        have g8:=aA c7;have a0:aG (∀(W:Nat) (g d:Nat),W≠b->(W<b->f[W]?=some g)->W<b+1->(f++[d])[W]?=some g):=aA λW g d o7 b2 o8=>by
         have L:=b2 (by omega);have a5:=J.o;rw [List.getElem?_append_left (by omega)];exact L
        by_cases f6:b=c
        ·subst f6;have k7:((b:Int)==(e:Int))=false:=by simp;omega
         have j4:=aA (λ(d:Nat) (I:Value) (E:Tb) (d3:List Nd) (q:World) (l:mW wr w0.heap.size w0.heap.size d4 D 0 a[b].2 d d3 q I E)=>(show aDw w0 a e b (b+1) _ _ (.int .i64 (u:Nat)) (.int .i64 (d:Nat)) q from by
          obtain ⟨c1,e8⟩:=Q.o d I E d3 q l;refine ⟨f++[d],I,E,c1,u,d,rfl,rfl,a0.o e u d (by omega) M,λ_=>?_,by simp;exact J.o,?_⟩
          ·have:=J.o;simp [<-this]
          ·rw [e2.o,xN J.o.symm,xN g8.o.symm];exact e8))
         clear b7 b9 c9 a6 c4 c7 M S p c8 Q e9;generalize (f.eraseIdx b).length=rl at *;generalize (((a.take b).map zy).eraseIdx b).length=nl at *;go_wp2_with (first
          |(go_at_call 119;refine (aB e0).mono ?_;rintro k C ⟨d,i8,b6,a3,b5,rfl,H⟩;have X:=aA (j4.o d b6 a3 b5 C H);clear H)
          |go_in)
         exact ⟨⟨b+1,by go_num,by omega,X.o⟩,by simp [intOf];omega⟩
        ·obtain ⟨m4,V⟩ : ∃g,f.eraseIdx c=g:=⟨_,rfl⟩;obtain ⟨l6,U⟩ : ∃g,((a.take b).map zy).eraseIdx c=g:=⟨_,rfl⟩;have Z:=aA (λ(d e4:Nat) (I:Value) (E:Tb) (c1:Nat->Nat) (j2 j0:Value) (q:World) (k4:e<b+1->(f++[d])[e]?=some e4) (e8:fO w0 w0.heap.size w0.heap.size ((a.take (b+1)).map λb3=>((0:Int),b3)) (f++[d]) (m4++[d]) (l6++[e5]) j2 j0 q I E c1)=>(show aDw w0 a e c (b+1) j2 j0 (.int .i64 (e4:Nat)) (.int .i64 (F:Nat)) q from by
          refine ⟨f++[d],I,E,c1,e4,F,rfl,rfl,k4,a0.o c F d (by omega) S,by simp;exact J.o,?_⟩;rw [e2.o,xM (by rw [J.o];omega),xM (by rw [g8.o];omega),V,U];exact e8))
         have k7:((b:Int)==(c:Int))=false:=by simp;omega
         rw [V,U] at Q;rw [V] at l0;rw [U] at k8;rw [V,U];by_cases i4:b=e
         ·subst i4;have d9:aG (∀d:Nat,b<b+1->(f++[d])[b]?=some d):=aA λd _=>by
           have:=J.o;simp [<-this]
          clear b7 b9 c9 a6 c4 c7 M S p c8 e9 f6 V U a0;go_wp2_with (first
           |(at_builtin;refine zN rfl (.tmp 74) (.tmp 76) rfl w0.heap.size _ _ _ rfl (a1.o.orv.alloc _) (by omega) (by simp;omega) C.heap.size 1 (d:Nat) rfl (by simp) ?_;intro m6 x N a7 a9;have n:=a1.o.row N a7 a9;have k2:=Y.o x n.low;have l3:=n.big;obtain ⟨m1,m2,rfl⟩:=aW N;have a2:=aA n;clear N a7 a9 n)
           |(at_builtin;refine wpList_append_own _ rfl (.tmp 78) (.tmp 84) 182 rfl w0.heap.size 4 i9 (.bool false) 1 1 zf v h3 h4 h5 rfl (by decide) _ _ _ rfl (a2.o.onv.alloc _) ⟨x.heap.size,0,none⟩ 1 1 [.bool e5] rfl rfl (nC x _ _ _ rfl) (by intro m7 b1;simp at b1;subst b1;rfl) (by unfold maxLen;omega) (by omega) (by simp;omega) ?_;intro l8 g5 b0 a8 _;have X:=aA (Z.o d d _ _ _ _ _ g5 (d9.o d) (a2.o.sign b0 a8));clear b0 a8)
           |(go_at_call 119;refine (aB e0).mono ?_;rintro k C ⟨d,i8,b6,a3,b5,rfl,H⟩;obtain ⟨k3,m⟩:=Q.o d b6 a3 b5 C H;have k1:=Y.o C m.low;have l2:=m.big;have a1:=aA m;clear H m)
           |go_in)
          exact ⟨⟨b+1,by go_num,by omega,X.o⟩,by simp [intOf];omega⟩
         ·have o9:((b:Int)==(e:Int))=false:=by simp;omega
          have d9:aG (∀d:Nat,e<b+1->(f++[d])[e]?=some u):=aA λd=>a0.o e u d (by omega) M
          clear b7 b9 c9 a6 c4 c7 M S p c8 e9 f6 i4 V U a0;go_wp2_with (first
           |(at_builtin;refine zN rfl (.tmp 74) (.tmp 76) rfl w0.heap.size _ _ _ rfl (a1.o.orv.alloc _) (by omega) (by simp;omega) C.heap.size 1 (d:Nat) rfl (by simp) ?_;intro m6 x N a7 a9;have n:=a1.o.row N a7 a9;have k2:=Y.o x n.low;have l3:=n.big;obtain ⟨m1,m2,rfl⟩:=aW N;have a2:=aA n;clear N a7 a9 n)
           |(at_builtin;refine wpList_append_own _ rfl (.tmp 78) (.tmp 84) 182 rfl w0.heap.size 4 i9 (.bool false) 1 1 zf v h3 h4 h5 rfl (by decide) _ _ _ rfl (a2.o.onv.alloc _) ⟨x.heap.size,0,none⟩ 1 1 [.bool e5] rfl rfl (nC x _ _ _ rfl) (by intro m7 b1;simp at b1;subst b1;rfl) (by unfold maxLen;omega) (by omega) (by simp;omega) ?_;intro l8 g5 b0 a8 _;have X:=aA (Z.o d u _ _ _ _ _ g5 (d9.o d) (a2.o.sign b0 a8));clear b0 a8)
           |(go_at_call 119;refine (aB e0).mono ?_;rintro k C ⟨d,i8,b6,a3,b5,rfl,H⟩;obtain ⟨k3,m⟩:=Q.o d b6 a3 b5 C H;have k1:=Y.o C m.low;have l2:=m.big;have a1:=aA m;clear H m)
           |go_in)
          exact ⟨⟨b+1,by go_num,by omega,X.o⟩,by simp [intOf];omega⟩
       ·obtain rfl:b=a.length:=by omega
        have w:=p;rw [zk] at w;have f8:∀j∈a.map λb3=>((0:Int),b3),bA j.2.2 1=true/\j.2.2.length<=60:=λj l=>g9.o a.length j (by rw [zk];exact l)
        have i2:=aLs (λj l=>(f8 j l).2);rw [zw] at i2;have B:=w.facts (λj l=>(f8 j l).1) (by omega);have h6:e<f.length:=by omega
        have f1:c<f.length:=by omega
        have f0:f[e]=u:=by have:=M c3;rw [zv h6] at this;simpa using this
        have f2:f[c]=F:=by have:=S R;rw [zv f1] at this;simpa using this
        have h8:u<D.length:=B.lt u (by rw [<-f0];exact zc _);have i0:F<D.length:=B.lt F (by rw [<-f2];exact zc _);have i5:(f.eraseIdx c).length=a.length-1:=by rw [zo f1];omega
        have i6:((a.map zy).eraseIdx c).length=a.length-1:=by rw [zo (by simpa using R)];simp
        have d7:=aA (aLq w0.heap.size w0.heap.size d4 D u F _ _ _ _ wr w.tab B.ok B.few B.pts B.short h8 i0 w.orv w.onv (by rw [i5,i6]) (by omega) (λj l=>B.lt j (List.mem_of_mem_eraseIdx l)) w.big);have Z:aG (∀k q,aC1 D u F (f.eraseIdx c) ((a.map zy).eraseIdx c) w0.heap.size wr k q->jT (jF a e c) P k q):=aA λk q ⟨d1,d2,b4,d6,c0,L,a5,m,n,c2⟩=>by
         refine ⟨d1,d2,b4,d6,c0,L,zx ⟨g7.o,zx ⟨e,c,⟨c3,R,rfl,rfl,h7,j5.o⟩,?_⟩⟩,m,n,g6.o.trans (((w.low.trans c2)).mono l1)⟩;have:=aUl h7 R (λg b2=>(e1.o.term g b2).1) w.rows B.ok w.sts h6 f1 (by rw [f0,f2];exact a5);simpa [c3,R] using this
        obtain ⟨m0,m3,rfl⟩:=p.orv.shape;obtain ⟨l4,l5,rfl⟩:=aW p.onv;rw [zk] at d7 ⊢;clear p w B i2 f8 M S a6 f0 f2 i5 i6 h8 i0;generalize (f.eraseIdx c).length=rl at *;generalize ((a.map zy).eraseIdx c).length=nl at *;go_wp2_with (first
         |(go_at_call 120;refine (aB d7).mono ?_)
         |go_in)
        intro k x i7;have k9:=Z.o k x i7;obtain ⟨d1,d2,b4,d6,c0,rfl,a5,m,n,c2⟩:=k9;have j3:aG (jT (jF a e c) P (.returned (.tuple #[.slice d1 b4.length d2,.bool d6,.int .i64 c0])) x):=aA ⟨d1,d2,b4,d6,c0,rfl,a5,m,n,c2⟩;clear i7 a5 m n c2 d7 Z;generalize b4.length=ol at *;go_wp2;go_returns;exact j3.o
     ·have A:=aA (z.o (λ⟨j6,j8,g0,g1,g2,g3,j1,l9⟩=>by
       obtain rfl:e=j6:=by omega
       obtain rfl:c=j8:=by omega
       exact O l9))
      obtain ⟨k0,f3⟩ : ∃g,a[e].1=g:=⟨_,rfl⟩;obtain ⟨h1,T⟩ : ∃g,a[c].1=g:=⟨_,rfl⟩;rw [f3] at G;rw [T] at a4;rw [f3,T] at O;clear z c5 f5 c6 f3 T;cases k0<;>cases h1<;>first|exact absurd rfl O|clear O
      all_goals
       go_enter zq,zt;go_upto_region 4 with (go_at_call 118;refine (aB y).mono ?_;rintro k d5 ⟨rfl,i⟩;have t:=aA i;clear i);have e6:=aD t.o G;have h2:=aD t.o a4;go_quiet (fail);go_wp2;go_returns;exact jT.none A.o (aV t.o (aL ⟨_,rfl⟩))
theorem aUn(o n H p u l B g e:Nat)(f m:Option Addr)(i v:Nat)(a c:List Lt)(b:World)(G:Sx b p (u+g*6) 1 e 0 0 0 (.slice f a.length i))(D:g<l)(k:bD b f a)(C:e<n)(q:b.cell? ⟨o,e,none⟩=some (.slice m c.length v))(r:bD b m c):Calls zs 48 #[.slice (some ⟨o,0,none⟩) n H,.slice (some ⟨p,u,none⟩) l B,.int .i64 g] b λj P=>j=.returned (.bool (cD a && decide (c=a)))/\aC b P:=by
 obtain ⟨w,F,d,E,V,W,X,Y,Z,a0⟩:=oQ b 1 e 0 0 0 (.slice f a.length i);have x:=aA (wY f i a w (k.below d (zz _)));have y:=aA (wX m f v i c a w (r.below d (zz _)) (k.below d (zz _)));obtain ⟨I,J,L,M,N,O⟩:=G;have T:(g:Int)<(l:Int):=by omega
 have R:(e:Int)<(n:Int):=by omega
 have S:(0:Int)<=(e:Int):=by omega
 have a1:=aD d q;have z:=aA d;clear d E k D C q r;generalize cD a=fb at *;generalize decide (c=a)=db at *;generalize a.length=cn at *;generalize c.length=dn at *;go_enter zh,zj;go_upto_region 2 with (go_in);clear F I J L M N O;cases fb<;>cases db;all_goals
  go_wp2_with (first
   |(go_at_call 47;refine (aB x).mono ?_;rintro j Q ⟨rfl,t⟩;rw [t];clear t Q)
   |(go_at_call 14;refine (aB y).mono ?_;rintro j U ⟨rfl,s⟩;have A:=aA (aV z.o (aL s));clear s)
   |go_in)
  all_goals
   go_ret;exact ⟨rfl,A.o⟩
theorem aUo(c5:Option Addr)(c7 c6 u w z b8 m f g:Nat)(r s:Int)(B D E:Option Addr)(F J L:Nat)(e o p:List Lt)(b:World)(i:Sx b u (w+m*6) 2 f g r s (.slice B e.length F))(c2:m<z)(R:bD b B e)(b9:f<m)(c0:g<m)(Y:b.cell? ⟨u,w+f*6+5,none⟩=some (.slice D o.length J))(Z:b.cell? ⟨u,w+g*6+5,none⟩=some (.slice E p.length L))(a0:bD b D o)(a1:bD b E p):Calls zs 48 #[.slice c5 c7 c6,.slice (some ⟨u,w,none⟩) z b8,.int .i64 m] b λq n=>∃a j k,gQ o p r s a j k/\q=.returned (.bool (j && (cD e && decide (a=e))))/\aC b n:=by
 obtain ⟨G,c4,l,c3,d4,a7,a8,a9,b0,b1⟩:=oQ b 2 f g r s (.slice B e.length F);have S:=aA (λ(d:World) (i:aC G d)=>wY B F e d ((R.below l (zz _)).below i (zz _)));have U:=aA (λ(d:World) (i:aC G d) (b2:Option Addr) (d5:Nat) (a6:List Lt) (v:bD d b2 a6)=>wX b2 B d5 F a6 e d v ((R.below l (zz _)).below i (zz _)));have H:=aA (λ(d:World) (i:∃t,d=G.drewN t)=>(aZm D E J L o p r s d (by obtain ⟨t,rfl⟩:=i;exact (a0.below l (zz _)).below (aL ⟨t,rfl⟩) (zz _)) (by obtain ⟨t,rfl⟩:=i;exact (a1.below l (zz _)).below (aL ⟨t,rfl⟩) (zz _))).mono (R':=λq y=>∃x A a j k,q=.returned (.tuple #[.slice x a.length A,.bool j,.int .i64 k])/\gQ o p r s a j k/\bD y x a/\aC G y) (λq y c1=>by
  obtain ⟨t,rfl⟩:=i;obtain ⟨x,A,a,j,k,rfl,C,v,_,c⟩:=c1;exact ⟨x,A,a,j,k,rfl,C,v,(aL ⟨t,rfl⟩).trans c⟩))
 obtain ⟨c8,c9,d0,d1,d2,d3⟩:=i;have e8:(m:Int)<(z:Int):=by omega
 have e2:(f:Int)<(m:Int):=by omega
 have e5:(g:Int)<(m:Int):=by omega
 have e3:(f:Int)<(z:Int):=by omega
 have e6:(g:Int)<(z:Int):=by omega
 have e4:(0:Int)<=(f:Int):=by omega
 have e7:(0:Int)<=(g:Int):=by omega
 have a4:=aD l Y;have a5:=aD l Z;have b3:=aA l;clear l c3 R c2 b9 c0 Y Z a0 a1;obtain ⟨X,O⟩ : ∃X,gQ o p r s=X:=⟨_,rfl⟩;rw [O] at H;rw [O];clear O;go_enter zh,zj;go_upto_region 2 with (go_in);clear c4 c8 c9 d0 d1 d2 d3;generalize o.length=n1 at *;generalize p.length=n2 at *;go_wp2;go_region_held3 (λn=>n.cell? ⟨b.heap.size,1,none⟩=some (.int .i64 f)/\n.cell? ⟨b.heap.size,2,none⟩=some (.int .i64 g)/\n.cell? ⟨b.heap.size,3,none⟩=some (.int .i64 r)/\n.cell? ⟨b.heap.size,4,none⟩=some (.int .i64 s)/\n.cell? ⟨u,w+f*6+5,none⟩=some (.slice D n1 J)/\n.cell? ⟨u,w+g*6+5,none⟩=some (.slice E n2 L)) (first|trivial|go_keep)
  (first
   |(go_at_call 79;refine (aB H _ (by first|exact ⟨0,rfl⟩|exact ⟨1,rfl⟩|exact ⟨_,rfl⟩)).mono ?_;rintro q y ⟨x,A,a,j,k,rfl,C,v,c⟩;have b7:=aA C;have b6:=aA v;have I:=aA c;have d6:=aD c a7;have d7:=aD c a8;have d8:=aD c a9;have d9:=aD c b0;have f0:=aD c b1;have e0:=aD c a4;have e1:=aD c a5;clear C v c)
   |go_in)
 have T:=aA (aB S y I.o);have V:=aA (aB U y I.o x A a b6.o);have b5:=aA (aV b3.o I.o);clear S U H a4 a5 d4 a7 a8 a9 b0 b1 d6 d7 d8 d9 e0 e1;obtain ⟨N,Q⟩ : ∃N,cD e=N:=⟨_,rfl⟩;obtain ⟨M,P⟩ : ∃M,decide (a=e)=M:=⟨_,rfl⟩;rw [Q] at T;rw [P] at V;have W:=aA (And.intro Q P);clear Q P;generalize e.length=cn at *;generalize a.length=on at *;cases j<;>cases N<;>cases M;all_goals
  go_wp2_with (first
   |(go_at_call 47;refine (aB T).mono ?_;rintro q d ⟨rfl,a3⟩;rw [a3];clear a3 d)
   |(go_at_call 14;refine (aB V).mono ?_;rintro q e9 ⟨rfl,a2⟩;have b4:=aA (aV b5.o (aL a2));clear a2)
   |go_in)
  all_goals
   go_ret;refine ⟨a,_,k,b7.o,?_,b4.o⟩;rw [W.o.1,W.o.2];rfl
theorem aUp(b7:Option Addr)(b9 b8 x A z b1 q f:Nat)(m n:Int)(w B:Option Addr)(C G:Nat)(c k:List Lt)(e:World)(j:Sx e x (A+q*6) 3 f 0 m n (.slice w c.length C))(b4:q<z)(N:bD e w c)(b2:f<q)(U:e.cell? ⟨x,A+f*6+5,none⟩=some (.slice B k.length G))(V:bD e B k):Calls zs 48 #[.slice b7 b9 b8,.slice (some ⟨x,A,none⟩) z b1,.int .i64 q] e λl s=>∃a g i,jF k m n a g i/\l=.returned (.bool (g && (cD c && decide (a=c))))/\aC e s:=by
 obtain ⟨D,b6,o,b5,c6,a0,a1,a2,a3,a4⟩:=oQ e 3 f 0 m n (.slice w c.length C);have O:=aA (λ(b:World) (j:aC D b)=>wY w C c b ((N.below o (zz _)).below j (zz _)));have Q:=aA (λ(b:World) (j:aC D b) (a5:Option Addr) (c7:Nat) (Z:List Lt) (p:bD b a5 Z)=>wX a5 w c7 C Z c b p ((N.below o (zz _)).below j (zz _)));have E:=aA (λ(b:World) (j:∃u,b=D.drewN u)=>(aUm B G k m n b (by obtain ⟨u,rfl⟩:=j;exact (V.below o (zz _)).below (aL ⟨u,rfl⟩) (zz _))).mono (R':=λl t=>∃r v a g i,l=.returned (.tuple #[.slice r a.length v,.bool g,.int .i64 i])/\jF k m n a g i/\bD t r a/\aC D t) (λl t b3=>by
  obtain ⟨u,rfl⟩:=j;obtain ⟨r,v,a,g,i,rfl,y,p,_,d⟩:=b3;exact ⟨r,v,a,g,i,rfl,y,p,(aL ⟨u,rfl⟩).trans d⟩))
 obtain ⟨c0,c1,c2,c3,c4,c5⟩:=j;have d6:(q:Int)<(z:Int):=by omega
 have d3:(f:Int)<(q:Int):=by omega
 have d4:(f:Int)<(z:Int):=by omega
 have d5:(0:Int)<=(f:Int):=by omega
 have Y:=aD o U;have a6:=aA o;clear o b5 N b4 b2 U V;obtain ⟨T,J⟩ : ∃T,jF k m n=T:=⟨_,rfl⟩;rw [J] at E;rw [J];clear J;go_enter zh,zj;go_upto_region 2 with (go_in);clear b6 c0 c1 c2 c3 c4 c5;generalize k.length=n1 at *;go_wp2;go_region_held3 (λs=>s.cell? ⟨e.heap.size,1,none⟩=some (.int .i64 f)/\s.cell? ⟨e.heap.size,3,none⟩=some (.int .i64 m)/\s.cell? ⟨e.heap.size,4,none⟩=some (.int .i64 n)/\s.cell? ⟨x,A+f*6+5,none⟩=some (.slice B n1 G)) (first|trivial|go_keep)
  (first
   |(go_at_call 80;refine (aB E _ (by first|exact ⟨0,rfl⟩|exact ⟨1,rfl⟩|exact ⟨_,rfl⟩)).mono ?_;rintro l t ⟨r,v,a,g,i,rfl,y,p,d⟩;have b0:=aA y;have a9:=aA p;have F:=aA d;have c8:=aD d a0;have c9:=aD d a1;have d0:=aD d a2;have d1:=aD d a3;have d8:=aD d a4;have d2:=aD d Y;clear y p d)
   |go_in)
 have P:=aA (aB O t F.o);have R:=aA (aB Q t F.o r v a a9.o);have a8:=aA (aV a6.o F.o);clear O Q E Y c6 a0 a1 a2 a3 a4 c8 c9 d0 d1 d2;obtain ⟨I,M⟩ : ∃I,cD c=I:=⟨_,rfl⟩;obtain ⟨H,L⟩ : ∃H,decide (a=c)=H:=⟨_,rfl⟩;rw [M] at P;rw [L] at R;have S:=aA (And.intro M L);clear M L;generalize c.length=cn at *;generalize a.length=on at *;cases g<;>cases I<;>cases H;all_goals
  go_wp2_with (first
   |(go_at_call 47;refine (aB P).mono ?_;rintro l b ⟨rfl,X⟩;rw [X];clear X b)
   |(go_at_call 14;refine (aB R).mono ?_;rintro l d7 ⟨rfl,W⟩;have a7:=aA (aV a8.o (aL W));clear W)
   |go_in)
  all_goals
   go_ret;refine ⟨a,_,i,b0.o,?_,a7.o⟩;rw [S.o.1,S.o.2];rfl
section
open scoped Classical
theorem aAz{e:List (List Lt)}{d:List Rs}{g:Nat}{c:Rs}{out:List Lt}{ok:Bool}(a:tC e d g c out ok):decide (lU e d g c)=(ok && (cD c.c && decide (out=c.c))):=by
 cases ok with
 |false=>exact dE λb=>by have:=(a.one b.1).2;cases this
 |true=>
  rw [Bool.true_and,Bool.eq_iff_iff,Bool.and_eq_true,decide_eq_true_eq,decide_eq_true_eq];exact ⟨λb=>⟨b.2,(a.one b.1).1⟩,λ⟨i,f⟩=>⟨by rw [<-f];rw [f] at a ⊢;exact a,i⟩⟩
theorem aUq(m:Option Addr)(n:Nat)(c:List (List Lt))(X:Option Addr)(j a:Nat)(b:List Rs)(e:World)(a0:pV e m c)(E:lH e X b)(o:a<b.length):Calls zs 48 #[.slice m c.length n,.slice X b.length j,.int .i64 a] e λf u=>f=.returned (.bool (decide (lU c b a b[a])))/\aC e u:=by
 obtain ⟨k,l,p,q,rfl,P,v,D,Q,R,S,r⟩:=E.cell a o;generalize b[a]=s at *;have g:Sx e k (l+a*6) s.r s.a s.b s.i s.j (.slice p s.c.length q):=⟨P,v,D,Q,R,S⟩;clear P v D Q R S;have F:tC c b a s [] false->(Calls zs 48 #[.slice m c.length n,.slice (some ⟨k,l,none⟩) b.length j,.int .i64 a] e λf u=>f=.returned (.bool false)/\aC e u)->Calls zs 48 #[.slice m c.length n,.slice (some ⟨k,l,none⟩) b.length j,.int .i64 a] e λf u=>f=.returned (.bool (decide (lU c b a s)))/\aC e u:=λd J=>by
  rw [aAz d];exact J
 by_cases w:s.r=1
 ·by_cases d:aA5 c s
  ·have a2:=d;obtain ⟨⟨b0,b1⟩,a5,a6,a7⟩:=d;obtain ⟨i,U⟩ : ∃i:Nat,s.a=i:=⟨s.a.toNat,by omega⟩;have L:i<c.length:=by omega
   obtain ⟨H,z,A,rfl,J,a1⟩:=a0.cell i L;rw [w,U,a5,a6,a7] at g;rw [aAz (out:=c[i]) (ok:=true) (zr ⟨w,zr ⟨a2,by rw [U,Int.toNat_natCast];exact zv L,rfl⟩⟩),Bool.true_and];exact aUn H c.length n k l b.length j a i p z q A s.c c[i] e g o r L J a1
  ·rw [w] at g;exact F (zr ⟨w,zx ⟨d,rfl,rfl⟩⟩) (aAy m c.length n k l b.length j a _ s.a s.b s.i s.j p q s.c e g o r (zr ⟨rfl,d⟩))
 ·by_cases x:s.r=2
  ·by_cases d:(0<=s.a/\s.a<a)/\(0<=s.b/\s.b<a)
   ·obtain ⟨t,B⟩ : ∃i:Nat,s.a=i:=⟨s.a.toNat,by omega⟩;obtain ⟨N,T⟩ : ∃i:Nat,s.b=i:=⟨s.b.toNat,by omega⟩;have C:t<b.length:=by omega
    have V:N<b.length:=by omega
    obtain ⟨H,W,z,A,f,-,-,-,-,-,v,O⟩:=E.cell t C;cases f;obtain ⟨a9,W,Y,Z,f,-,-,-,-,-,D,a3⟩:=E.cell N V;cases f;rw [x,B,T] at g;refine (aUo m c.length n k l b.length j a t N s.i s.j p z Y q A Z s.c _ _ e g o r (by omega) (by omega) v D O a3).mono ?_;rintro f u ⟨a4,a8,G,M,rfl,I⟩;exact ⟨bM (aAz (zx (zr ⟨x,zr ⟨d.1,d.2,G,by rw [B,T,wG C,wG V];exact M⟩⟩))).symm,I⟩
   ·rw [x] at g;exact F (zx (zr ⟨x,zx ⟨d,rfl,rfl⟩⟩)) (aAy m c.length n k l b.length j a _ s.a s.b s.i s.j p q s.c e g o r (zx (zr ⟨rfl,d⟩)))
  ·by_cases y:s.r=3
   ·by_cases d:(0<=s.a/\s.a<a)/\s.b=0
    ·obtain ⟨t,B⟩ : ∃i:Nat,s.a=i:=⟨s.a.toNat,by omega⟩;have C:t<b.length:=by omega
     obtain ⟨H,W,z,A,f,-,-,-,-,-,v,O⟩:=E.cell t C;cases f;rw [y,B,d.2] at g;refine (aUp m c.length n k l b.length j a t s.i s.j p z q A s.c _ e g o r (by omega) v O).mono ?_;rintro f u ⟨a4,a8,G,M,rfl,I⟩;exact ⟨bM (aAz (zx (zx (zr ⟨y,zr ⟨d.1,d.2,G,by rw [B,wG C];exact M⟩⟩)))).symm,I⟩
    ·rw [y] at g;exact F (zx (zx (zr ⟨y,zx ⟨d,rfl,rfl⟩⟩))) (aAy m c.length n k l b.length j a _ s.a s.b s.i s.j p q s.c e g o r (zx (zx (zr ⟨rfl,d⟩))))
   ·exact F (zx (zx (zx ⟨⟨w,x,y⟩,rfl,rfl⟩))) (aAy m c.length n k l b.length j a s.r s.a s.b s.i s.j p q s.c e g o r (zx (zx (zx ⟨w,x,y⟩))))
end
