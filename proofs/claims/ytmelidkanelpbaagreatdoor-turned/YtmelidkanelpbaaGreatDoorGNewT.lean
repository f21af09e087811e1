import Derived.Test.YtmelidkanelpbaaGreatDoorTxTokT
import Derived.Lib.Strings
open List renaming getElem_mem→zz,length_append→zy,getElem?_eq_some_iff→zx,mem_map→zu,length_cons→zt,flatMap_cons→zs,getElem_map→zq,mem_append→zm,getElem?_append_left→zl,mem_flatMap→zh,nil_append→zf,length_singleton→ze,mem_of_getElem?→zc,map_map→z0,append_assoc→z1
open Nat renaming add_assoc→zv,zero_le→zo,le_refl→zk,zero_add→zg
open Or renaming inr→zn,inl→zi
namespace Go.Proofs.YtmelidkanelpbaaGreatDoor
open _root_.Go.Proofs.Tryz renaming prog→zw,underlying9→zr,underlying90→zj,ntmps18→za,func18→z2
open Go.RowKit Go.WideMaps Go.Shelf
set_option maxHeartbeats 4000000
set_option maxRecDepth 100000
variable{s:ByteArray}{F l:List ByteArray}{U:List Us}{q:Nat}{w:World}
theorem aQf{e:Nat}{a:TypeId}{j f b d c:Nat}{k:List Value}(g:w.ownsRow e a j (.slice (some ⟨f,0,none⟩) b c) d k):b=d/\b<=c:=by
 obtain ⟨_,⟨a,_⟩|⟨o,m,n,a,_,_,i,_⟩⟩:=g
 ·cases a
 ·cases a;exact ⟨rfl,i⟩
theorem aQg{a:World}{c b:Nat}(n:0<(bY s 0).length)(f:a.ownsRow w.heap.size 120 2 (.slice (some ⟨c,0,none⟩) (bY s 0).length b) (bY s 0).length (nC (bY s 0)))(i:aB w a):∃k g,bN w.heap.size (a.alloc (.cells #[.slice (some ⟨c,0,none⟩) (bY s 0).length b,.int .i32 0,.int .i64 0,.string ⟨#[]⟩,.slice none 0 0,.slice none 0 0,.map none] 65)) a.heap.size s 0 c 0 k g 0 0 ⟨#[]⟩ (.slice none 0 0) (.slice none 0 0) (.map none):=by
 obtain ⟨_,m⟩:=aQf f;have d:(bY s 0).length-1+1=(bY s 0).length:=by omega
 have e:b-1+1=b:=by omega
 have j:=i.size;refine ⟨(bY s 0).length-1,b-1,⟨?_,j,?_,by omega,rfl,zo _⟩⟩
 ·rw [d,e];unfold bQ;show (a.heap.push _)[a.heap.size]?=_;simp
 ·rw [zg,zg,d,e];exact bJ f ((Below.refl a.heap.size a).alloc (zk _) _) (zk _)
theorem aQh(s:ByteArray)(w:World)(o:s.size<=3000):Calls zw 23 #[.string s] w λc v=>∃d a,c=.returned (.pointer (some ⟨d,0,none⟩))/\aB w v/\sJ w.heap.size v d s (dB s 0) ⟨0,[],[]⟩ a (.slice none 0 0) (.slice none 0 0) []:=by
 have x:=aA (aS6 s w o);have e:=aA (λ(B:World) (d a u j:Nat) (D:bN w.heap.size B d s 0 a 0 u j 0 0 ⟨#[]⟩ (.slice none 0 0) (.slice none 0 0) (.map none))=>(aGl (s.size+1) D o (by omega)).mono λc J I=>aHg (T:=dB s 0) (i:=0) (zo _) (by omega) rfl I);have G:0<(bY s 0).length:=(aA2 s s.size 0 (by omega)).1;generalize aJ (dB s 0) 0=t at e;obtain ⟨Q,S,R⟩:=t;simp only at e;go_enter Tryz.func23,Tryz.ntmps23;go_wp2_with (first
  |(go_at_call 38;refine (aD x).mono ?_;rintro c J ⟨a,C,rfl,n,f⟩;obtain ⟨u,j,p⟩:=aQg G n f;have g:=aA f;have A:=aA p;clear n f p)
  |(go_at_call 39;refine (e.o _ _ _ _ _ A.o).mono ?_;rintro c V ⟨rfl,m,⟨left,b⟩,k⟩;have L:=b.c1;have M:=b.c2;have N:=b.c3;have O:=b.soft;have y:=aA m;have z:=aA k;clear m k b)
  |go_in)
 go_ret;refine ⟨_,a,rfl,?_,⟨_,z.o⟩,World.ownsRow_nil _ _ _ _,World.ownsRow_nil _ _ _ _,λP H=>by simp at H⟩;have r:=g.o.size;have E:=g.o.alloc r (.cells #[.slice (some ⟨a,0,none⟩) (bY s 0).length C,.int .i32 0,.int .i64 0,.string ⟨#[]⟩,.slice none 0 0,.slice none 0 0,.map none] 65);exact E.grown (rM (rM (rM y.o _) _) _) (by simp;omega) (by simpa using r)
def vB(a:Value):Option (DataW Unit×List MemPlace):=
 match a with
 | .agg cs=>match cs.toList with
  |[.string s,.bool b,.int .i64 n]=>some (.agg [.lit (.string s.data.toList),.lit (.bool b),.lit (.int .i64 n)],[])
  |_=>none
 |_=>none
def qF(a:Us):DataW Unit:=.agg [.lit (.string a.1.data.toList),.lit (.bool a.2.1),.lit (.int .i64 a.2.2)]
theorem bE0(a:Us):vB (.agg #[.string a.1,.bool a.2.1,.int .i64 a.2.2])=some (qF a,[]):=rfl
theorem aGm{e:Value}{c:Us}{j:List MemPlace}(a:vB e=some (qF c,j)):e=.agg #[.string c.1,.bool c.2.1,.int .i64 c.2.2]:=by
 unfold vB at a;split at a
 ·next cs=>
  split at a
  ·next s b n hcs=>
   have i:cs=#[.string s,.bool b,.int .i64 n]:=by have:=congrArg List.toArray hcs;simpa using this
   subst i;simp only [qF,Option.some.injEq,Prod.mk.injEq,DataW.agg.injEq,List.cons.injEq,DataW.lit.injEq,Lit.string.injEq,Lit.bool.injEq,Lit.int.injEq,and_true,true_and] at a;obtain ⟨⟨d,f,g⟩,_⟩:=a;have:s=c.1:=by obtain ⟨⟨k⟩⟩:=s;obtain ⟨⟨⟨m⟩⟩,o⟩:=c;simp at d;rw [d]
   rw [this,f,g]
  ·simp at a
 ·simp at a
structure xP(D:DataW Unit)(U:List Us)(k:Nat):Prop where
 isMap:Maps.IsMap D
 old:∀j (h:j<U.length),j<k->Maps.has D (.string U[j].1.data.toList)=true/\∀z,D.atKey (.string U[j].1.data.toList) z=qF U[j]
 new:∀s:ByteArray,(∀j (h:j<U.length),j<k->U[j].1≠s)->Maps.has D (.string s.data.toList)=false
theorem aGn{a:ByteArray}(b:s.data.toList=a.data.toList):s=a:=by obtain ⟨⟨c⟩⟩:=s;obtain ⟨⟨d⟩⟩:=a;simp at b;rw [b]
theorem aQi(U:List Us):xP (.map []) U 0:=⟨Maps.isMap_empty,λb _ a=>by omega,λs _=>rfl⟩
theorem aQj{j:DataW Unit}{a:Nat}(c:xP j U a)(r:a<U.length)(t:∀b (d:b<U.length),b<a->U[b].1=U[a].1->U[b]=U[a]):xP (j.put (.string U[a].1.data.toList) (qF U[a])) U (a+1):=by
 have k:WideAt.IsKeyLit (.string U[a].1.data.toList):=trivial;refine ⟨c.isMap.put _ _,λb d p=>?_,λs n=>?_⟩
 ·by_cases g:U[b].1=U[a].1
  ·have u:U[b]=U[a]:=by
    by_cases i:b=a
    ·subst i;rfl
    ·exact t b d (by omega) g
   rw [u];exact ⟨Maps.has_put_same c.isMap k _,λo=>Maps.atKey_put_same c.isMap k _ _⟩
  ·have e:(Lit.string U[b].1.data.toList)≠.string U[a].1.data.toList:=λf=>g (aGn (by simpa using f))
   have i:b<a:=by
    rcases Nat.lt_or_ge b a with h1|h1
    ·exact h1
    ·have:b=a:=by omega
     subst this;exact absurd rfl g
   have m:=c.old b d i;exact ⟨by rw [Maps.has_put_other e];exact m.1,λo=>by rw [Maps.atKey_put_other e];exact m.2 o⟩
 ·have e:(Lit.string s.data.toList)≠.string U[a].1.data.toList:=λf=>n a r (by omega) (aGn (by simpa using f)).symm
  rw [Maps.has_put_other e];exact c.new s λb d p=>n b d (by omega)
def sH(U:List Us)(c:Nat):Prop:=∀a (d:a<U.length),a<c->U[a].2.2<=5/\∀b (e:b<a),(U[b]'(by omega)).1=U[a].1->(U[b]'(by omega)).2=U[a].2
theorem aQk(b:sH U U.length):wR U:=λc a=>b c a a
theorem aQl:zw.stoodInHeld 92=false:=by kernel_rfl
theorem aQm:zw.eqGuardType zw.depth 92=false:=by kernel_rfl
theorem aQn:zw.underlying 92=some (.struct (zw.fieldsOf 92)):=by kernel_rfl
def vD(a b:Us):Bool:=decide (a=b)
theorem aQo(a b:Us)(w:World):(Op.equalIn 10000 92 (.agg #[.string a.1,.bool a.2.1,.int .i64 a.2.2]) (.agg #[.string b.1,.bool b.2.1,.int .i64 b.2.2])).run zw w=.ok (vD a b) w:=by rw [show (10000:Nat)=9999+1 from rfl,run_equalIn_agg w 9999 92 _ _ aQn aQl];simp only [Program.fieldsOf,Tryz.underlying92];go_simp;obtain ⟨s,c,j⟩:=a;obtain ⟨k,d,i⟩:=b;simp only [vD,zP];by_cases e:s=k<;>by_cases f:c=d<;>by_cases g:j=i<;>simp [e,f,g]
def sI(U:List Us)(b:Int):Prop:=(b=-1/\wR U)\/∃a:Nat,a<U.length/\b=a/\sH U a/\¬sH U (a+1)
theorem sI.of{a:Nat}(b:sH U a)(c:a<U.length)(d:¬sH U (a+1)):sI U a:=zn ⟨a,c,rfl,b,d⟩
theorem aQp(a6:Option Addr)(b4:Nat)(U:List Us)(w:World)(Y:aLh w a6 U):Calls zw 25 #[.slice a6 U.length b4] w λb5 c4=>∃b3:Int,b5=.returned (.int .i64 b3)/\sI U b3/\aB w c4:=by
 have d0:=Y.few;have a5:=aA Y;have d2:=@run_makeMap zw;have c9:=aQm;clear Y;go_enter Tryz.func25,Tryz.ntmps25;go_wp2;go_loopw [11] (λc wr=>∃(a:Nat) (m:DataW Unit),a<=U.length/\c=.int .i64 a/\wr.ownsMap zw 9 vB w.heap.size a m/\xP m U a/\sH U a/\aB w wr) (λc _=>U.length-(intOf c).toNat);case atStart=>exact ⟨0,.map [],zo _,rfl,World.ownsMap_made _ _ _ _,aQi U,λc _ Q=>by omega,(Below.refl _ _).alloc (zk _) _⟩
 case round=>
  obtain ⟨a,m,d1,rfl,t,Z,a0,o⟩:=hrel;have P:=o.size;have G:=aA Z;have A:=aA a0;have D:=aA o;by_cases r:a<U.length
  ·obtain ⟨c8,rfl,a7,a8,a9⟩:=a5.o.cell a r;have S:=aC o a7;have T:=aC o a8;have V:=aC o a9;have a1:=a5.o.short a r;have E:aM (5<U[a].2.2->sI U a):=λi=>sI.of A.o r λg=>by have:=(g a r (by omega)).1;omega
   have H:aM (∀b (d:b<U.length),b<a->U[b].1=U[a].1->U[b]≠U[a]->sI U a):=λb d f e c2=>sI.of A.o r λg=>by
    have b6:=(g a r (by omega)).2 b f e;exact c2 (Prod.ext e b6)
   have C:aM (U[a].2.2<=5->(∀b (d:b<U.length),b<a->U[b].1=U[a].1->U[b]=U[a])->sH U (a+1)/\xP (m.put (.string U[a].1.data.toList) (qF U[a])) U (a+1)):=λi b2=>by
    refine ⟨λc Q b1=>?_,aQj G.o r b2⟩;by_cases b9:c=a
    ·subst b9;exact ⟨i,λb d e=>by rw [b2 b (by omega) d e]⟩
    ·exact A.o c Q (by omega)
   have p:keyOf zw 9 (.string U[a].1)=some (.string U[a].1.data.toList):=keyOf_string_mk zr (by unfold maxLen;omega);clear a7 a8 a9 o Z a0;by_cases i:5<U[a].2.2
   ·have I:=aA (E.o i);clear E H C p t;generalize U[a]=u at *;obtain ⟨s,z,x⟩:=u;simp only at S T V i;go_wp2;go_ret;exact ⟨_,rfl,I.o,D.o.alloc P _⟩
   ·have J:U[a].2.2<=5:=by omega
    have b7:=(t.alloc (.cells #[.string U[a].1,.bool U[a].2.1,.int .i64 U[a].2.2] 92)).look_ok (Maps.string_keyed zr) zj (Tryz.zeroValue92 _) (zd:=qF (⟨#[]⟩,false,0)) (zp:=[]) rfl p;obtain ⟨d7,d4,j,v⟩:=b7;cases hhas:Maps.has m (.string U[a].1.data.toList)
    ·rw [aAp G.o.isMap hhas] at v;have a2:=aGm v;subst a2;rw [hhas] at j;have n:=aA (C.o J (λb d f e=>by
      have:=(G.o.old b d f).1;rw [e,hhas] at this;simp at this))
     have B:=aA p;clear E H C v hhas p;generalize g:U[a]=u at *;obtain ⟨s,z,x⟩:=u;simp only at S T V i J a1 j n B;clear g;go_wp2_with (first
      |(at_mapUpdate;refine wpList_mapUpdate_own _ rfl _ _ _ 90 rfl 9 92 (Maps.string_keyed zr) zj vB w.heap.size a m rfl ((t.alloc _).alloc _) (by unfold maxLen;omega) _ _ (.string s.data.toList) rfl rfl (aD B) (qF (s,z,x)) [] rfl ?_)
      |go_in)
     intro c5 N L;have X:=aA N;have W:=aA (((D.o.alloc P (.cells #[.string s,.bool z,.int .i64 x] 92)).alloc (by simp;omega) _).grown L (by simp;omega) (λc7 a3=>by simp at a3;omega));clear N L t j;go_wp2;go_roundw;case rel=>exact ⟨a+1,_,by omega,by go_num,X.o,n.o.2,n.o.1,W.o⟩
     case measure=>simp [intOf];omega
    ·obtain ⟨b,d,f,M⟩ : ∃b,∃d:b<U.length,b<a/\U[b].1=U[a].1:=Classical.byContradiction λc3=>by
      have:=G.o.new U[a].1 (λb d f e=>c3 ⟨b,d,f,e⟩);rw [hhas] at this;simp at this
     have O:=(G.o.old b d f).2 (qF (⟨#[]⟩,false,0));rw [M] at O;rw [O] at v;have a2:=aGm v;subst a2;rw [hhas] at j;have a4:=λc6=>aQo U[b] U[a] c6
     have B:=aA p;by_cases k:U[b]=U[a]
     ·have b0:vD U[b] U[a]=true:=by simp [vD,k]
      have n:=aA (C.o J (λc Q b1 e=>by
       by_cases b8:c=b
       ·subst b8;exact k
       ·have R:U[c].1=U[b].1:=e.trans M.symm;have:U[c]=U[b]:=by
         rcases Nat.lt_or_ge c b with c1|hge
         ·exact Prod.ext R ((A.o b d f).2 c c1 R)
         ·exact (Prod.ext R.symm ((A.o c Q b1).2 b (by omega) R.symm)).symm
        rw [this,k]))
      rw [k] at j a4 b0;clear E H C v hhas p O k M;generalize g:U[a]=u at *;obtain ⟨s,z,x⟩:=u;simp only at S T V i J a1 j n B a4;clear g;go_wp2_with (first
       |(at_mapUpdate;refine wpList_mapUpdate_own _ rfl _ _ _ 90 rfl 9 92 (Maps.string_keyed zr) zj vB w.heap.size a m rfl ((t.alloc _).alloc _) (by unfold maxLen;omega) _ _ (.string s.data.toList) rfl rfl (aD B) (qF (s,z,x)) [] rfl ?_)
       |go_in)
      intro c5 N L;have X:=aA N;have W:=aA (((D.o.alloc P (.cells #[.string s,.bool z,.int .i64 x] 92)).alloc (by simp;omega) _).grown L (by simp;omega) (λc7 a3=>by simp at a3;omega));clear N L t j;go_wp2;go_roundw;case rel=>exact ⟨a+1,_,by omega,by go_num,X.o,n.o.2,n.o.1,W.o⟩
      case measure=>simp [intOf];omega
     ·have b0:vD U[b] U[a]=false:=by simp [vD,k]
      have I:=aA (H.o b d f M k);clear E H C v hhas p O M k B;generalize U[b]=y at *;generalize g:U[a]=u at *;obtain ⟨s,z,x⟩:=u;obtain ⟨d5,d6,d3⟩:=y;simp only at S T V i J a1 j a4;clear g;go_wp2;go_ret;exact ⟨_,rfl,I.o,(D.o.alloc P _).alloc (by simp;omega) _⟩
  ·have c0:a=U.length:=by omega
   subst c0;have I:=aA (aQk A.o);clear Z a0 t o;go_wp2;go_ret;exact ⟨_,rfl,zi ⟨rfl,I.o⟩,D.o⟩
def RdQ(s:ByteArray)(w:World)(f:Ending)(e:World):Prop:=
 ∃d a b c,f=.returned (.tuple #[d,.int .i64 b,.int .i64 c])/\nO s (a.map λg=>g.1.map Prod.fst) b c/\lG w.heap.size e d a/\aB w e
theorem lG.mono{B d:Nat}{v:Value}{e:List (List (Lt×Value)×Value)}(a:lG B w v e)(b:d<=B):lG d w v e:=
 ⟨⟨iH a.mem.1 b,λp c=>⟨⟨iH (a.mem.2 p c).1.1 b,λq f=>iH ((a.mem.2 p c).1.2 q f) b⟩,(a.mem.2 p c).2⟩⟩,a.once,a.atoms⟩
theorem aCi(e:List Pl)(d:Nat):sH (e.map jQ) d↔∀c g,c<d->¬oN e c g:=by
 constructor
 ·intro h c g t a;obtain ⟨m,i⟩:=h c (by simpa using g) t;simp only [zq,jQ] at m i;rcases a with a|⟨b,f,n,o⟩
  ·omega
  ·have:=i b f n;simp at this;rcases o with h|h
   ·exact h this.1
   ·exact h this.2
 ·intro h b f r;have p:b<e.length:=by simpa using f
  have a:=h b p r;simp only [oN,not_or,not_exists] at a;refine ⟨by simp [jQ];omega,λd u k=>?_⟩;have j:=a.2 d u;simp only [zq,jQ] at k ⊢;simp only [aAw,not_and,not_or,Decidable.not_not] at j;have:=j k;rw [this.1,this.2]
theorem aQr{a:List Pl}{f:Int}(m:sI (a.map jQ) f):(f=-1/\wH a (-1))\/∃b,∃i:b<a.length,f=b/\wH a a[b].2.2.2:=by
 rcases m with ⟨rfl,r⟩|⟨b,i,rfl,d,g⟩
 ·refine zi ⟨rfl,zi ⟨rfl,λe c=>?_⟩⟩;exact (aCi a a.length).1 (λe c _=>r e c) e c c
 ·have j:b<a.length:=by simpa using i
  rw [aCi a b] at d;rw [aCi a (b+1)] at g;refine zn ⟨b,j,rfl,zn ⟨b,j,?_,d,rfl⟩⟩;refine Classical.byContradiction λp=>g λk n t=>?_
  by_cases o:k=b
  ·subst o;exact p
  ·exact d k n (by omega)
theorem aQs(a:List Pl)(b:Nat)(c:b<a.length):(nR a)[b]?=some (.int .i64 a[b].2.2.2):=by unfold nR;rw [List.getElem?_map,List.getElem?_eq_getElem c];rfl
theorem aQt(a:List Pc):fN a=(a.map jG).flatMap λb=>pU b.2:=by
 unfold fN;induction a with
 |nil=>rfl
 |cons x r ih=>rw [zs,ih,List.map_cons,zs];rfl
theorem aQu(S:s.size<=3000){e:bC}{p:List (Nat×List Lt)}(y:gZ (dB s 0) ((dB s 0).length+1) ⟨0,[],[]⟩ []=.ok (e,p))(z:0<(dB s 0).length)(k:(dB s 0).length<=3002){b:List Pc}(j:b.map jG=p):fN b=e.pz.map jQ/\(∀a∈b,aF0 a)/\(∀a∈b,∀q∈a.1.2,wD q.1.2)/\b.length<=3002/\e.pz.length<=3002/\(∀a∈e.pz,0<=a.2.2.2)/\∀d∈fN b,d.1.size<=1000000:=by
 obtain ⟨Q,x,o,i,I,J,L,M,N,O⟩:=aM5 (aEp s (by omega)) (aB7 s (by omega)) (aM8 s 0) _ _ _ _ _ y z;simp only [zf] at o i;simp only [List.length_nil,zg,Nat.add_zero] at M N;change e.i<(dB s 0).length at L;have f:∀a∈b,aM4 (dB s 0) (a.1.2.map Prod.fst):=λa c=>J (jG a) (by rw [<-i,<-j];exact zu.2 ⟨a,c,rfl⟩)
 have R:b.length=x.length:=by rw [<-i,<-j];simp
 have hu:fN b=e.pz.map jQ:=by rw [aQt,j,i,o,I]
 refine ⟨hu,λa c=>⟨λq m=>(f a c).short q.1 (zu.2 ⟨q,m,rfl⟩),by have:=(f a c).count;omega,by have:=(f a c).len;simp at this;omega⟩,λa c q m g A D=>?_,by omega,by omega,by rw [o];exact O,?_⟩
 ·have:=(f a c).vars q.1 (zu.2 ⟨q,m,rfl⟩) g A D;omega
 ·intro d t;unfold fN at t;obtain ⟨a,c,u⟩:=zh.1 t;rw [uO] at u;obtain ⟨v,E,C⟩:=zh.1 u;have B:=(f a c).short v E;have H:∀(l:List Nd) n,(∀g∈l,g.1.size<=1000000)->∀d∈iB n l,d.1.size<=1000000:=by
   intro l;induction l with
   |nil=>intro n _ d hu;simp [iB] at hu
   |cons g r ih=>
    intro n k d hu;rw [iB] at hu;rcases zm.1 hu with hu|hu
    ·unfold lX at hu;split at hu
     ·simp at hu
     ·simp at hu;subst hu;exact k g (List.mem_cons_self ..)
    ·exact ih _ (λP G=>k P (List.mem_cons_of_mem _ G)) d hu
  exact H v.2 0 B d C
theorem aGo(s:ByteArray)(w:World)(f5:s.size<=140737488355328):Calls zw 18 #[.string s] w λc e8=>RdQ s w c e8:=by
 by_cases d3:3000<s.size
 ·have d6:(3000:Int)<(s.size:Int):=by omega
  go_enter z2,za;go_wp2;go_returns;exact ⟨_,[],0,1,rfl,zi ⟨d3,rfl,rfl,rfl⟩,lG.nil _ _,Below.refl _ _⟩
 ·have d6:¬(3000:Int)<(s.size:Int):=by omega
  have i:s.size<=3000:=by omega
  have d7:(dB s 0).length<=3002:=by have:=aL9 s (s.size+1) 0;show (eD (cD s (s.size+1) 0)).length<=3002;unfold eD;split<;>simp<;>omega
  have D:=aA (aQh s w i);have z:=(aB7 s (by omega)).small;have b1:=aEp s (by omega);have b4:=aB7 s (by omega);have j:=aA (λC O H (I:sJ w.heap.size C O s (dB s 0) ⟨0,[],[]⟩ H (.slice none 0 0) (.slice none 0 0) []) (d4:w.heap.size<=C.heap.size)=>aRu (λe1=>aSk s 0 e1) z i (by omega) (λB g4 f0 a d8=>by have:=aLc b1 b4 a d8;omega) I d4 (zo _) (zo _));have m:aM (uJ s=gZ (dB s 0) ((dB s 0).length+1) ⟨0,[],[]⟩ []):=aA rfl;clear z b1 b4;cases a:gZ (dB s 0) ((dB s 0).length+1) ⟨0,[],[]⟩ [] with
  |error p=>
   rw [List.map_nil,a] at j;rw [a] at m;clear a;go_enter z2,za;go_wp2_with (first
    |(go_at_call 24;refine (j.o _ _ _ v.o f.o.size).mono ?_;rintro c P ⟨r,f7,e5,e7,e6,rfl,a9,b0⟩;obtain ⟨e2,a3,_⟩:=a9.box;have d0:=a3.c2;rw [b0] at d0;have n:=aA (f.o.trans r);clear r a9 b0 a3)
    |(go_at_call 23;refine (aD D).mono ?_;rintro c C ⟨O,H,rfl,o,u⟩;have f:=aA o;have v:=aA u;clear o u)
    |go_in)
   go_quiet (fail);go_wp2;go_returns;refine ⟨_,[],p,2,rfl,zn ⟨i,?_⟩,lG.nil _ _,bE n.o (aS ⟨_,rfl⟩)⟩;rw [m.o];exact ⟨rfl,rfl,rfl⟩
  |ok y=>
   obtain ⟨B,c9⟩:=y;rw [List.map_nil,a] at j;rw [a] at m;have T:=aA (λ(J:0<(dB s 0).length) (b:List Pc) (x:b.map jG=c9)=>aQu i a J d7 x);clear a;go_enter z2,za;go_upto_region 6 with (first
    |(go_at_call 24;refine (j.o _ _ _ v.o f.o.size).mono ?_;rintro c P ⟨r,e5,e7,b,rfl,b2,x⟩;have n:=aA (f.o.trans r);have g:=aA b2;have S:=aA x;clear r b2 x)
    |(go_at_call 23;refine (aD D).mono ?_;rintro c C ⟨O,H,rfl,o,u⟩;have f:=aA o;have v:=aA u;clear o u)
    |go_in)
   clear D j;obtain ⟨e6,M⟩:=g.o.pp;obtain ⟨e2,L,f4⟩:=M.box;have G:=L.c4;have Y:=L.c5;obtain ⟨A,N,b6,f8,f9,b7,b8⟩:=T.o (Nat.lt_of_le_of_lt (zo _) M.lt) b S.o;have R:=aA (aZp g.o.cs G N (by omega) (by rw [A];simp;omega));have Q:=aA (λwx (z:aB P wx)=>aZt (g.o.cs.below z) N b6 (by omega));obtain ⟨g7,g8,e0⟩:=aZ g.o.cs.row;obtain ⟨g0,g1,d9⟩:=aZ g.o.pz;have V:=aA g.o.pz;subst e0;subst d9;have c5:aM (fN b=B.pz.map jQ):=aA A;have c3:=aA b7;have d5:(fN b).length<=1000000:=by rw [A];simp;omega
   have Z:∀k (I:k<(fN b).length),(fN b)[k].1.size<=140737488355328:=λk I=>Nat.le_trans (b8 _ (zz _)) (by omega)
   have c6:=aA Z;have b5:=n.o.size;clear A N b6 b7 b8 Z T L M v f;go_upto_region 7 with (first
    |(go_at_call 25;refine (aQp e3 e4 (fN b) e9 c4.o).mono ?_;rintro c g9 ⟨g3,rfl,e,a1⟩;have W:=aA e;have d:=aA (bE b9.o a1);clear e a1)
    |(go_at_call 26;refine (aD R).mono ?_;rintro c e9 ⟨g5,rfl,a7,a0⟩;obtain ⟨e3,e4,rfl,b3⟩:=aZ7 a7 d5 c6.o;have c4:=aA b3;have b9:=aA a0;clear a7 a0 b3)
    |go_in)
   have f6:=d.o.size;have f1:=aC d.o G;have f2:=aC d.o Y;have e:=W.o;rw [c5.o] at e;clear W R G Y;rcases aQr e with ⟨rfl,t⟩|⟨k,a5,rfl,t⟩
   ·have E:=aA t;clear e t;go_wp2_with (first
     |(go_at_call 27;refine (Q.o _ d.o).mono ?_;rintro c h0 ⟨g6,c7,c8,d1,rfl,a6,a8,a2⟩;have c1:=aA a6;have c2:=aA a8;have c0:=aA a2;clear a6 a8 a2)
     |go_in)
    go_returns;refine ⟨_,c7,c8,d1,rfl,zn ⟨i,?_⟩,c2.o.mono (by omega),n.o.trans ((d.o.mono b5).trans (c0.o.mono (by omega)))⟩;rw [m.o];refine ⟨-1,E.o,zn ⟨by omega,?_⟩⟩;rw [<-S.o];exact c1.o
   ·have E:=aA t;have J:=c3.o _ (zz a5);obtain ⟨d2,f3,a4⟩:=wM V.o (by omega);simp at a4;obtain ⟨rfl,rfl⟩:=a4;have X:P.cell? ⟨d2,k,none⟩=some (.int .i64 B.pz[k].2.2.2):=by rw [V.o.cellAt _ (by omega),aQs _ k a5]
    have g2:=aC d.o X;clear e t Q X;generalize B.pz[k].2.2.2=pk at *;go_wp2;go_quiet (fail);go_wp2;go_returns;refine ⟨_,[],pk,3,rfl,zn ⟨i,?_⟩,lG.nil _ _,(n.o.trans (d.o.mono b5)).trans ((aS ⟨_,rfl⟩).mono (by omega))⟩;rw [m.o];exact ⟨pk,E.o,zi ⟨J,rfl,rfl,rfl⟩⟩
theorem aQv{a:List Pl}{g:Int}(h:wH a g)(p:∀t∈a,0<=t.2.2.2):(g<0->wR (a.map jQ))/\(0<=g->¬wR (a.map jQ)):=by
 rcases h with ⟨rfl,h⟩|⟨c,d,b,_,rfl⟩
 ·refine ⟨λ_ c d=>?_,λh=>by omega⟩;have o:c<a.length:=by simpa using d
  have b:=h c o;simp only [oN,not_or,not_exists] at b;refine ⟨by simp [jQ];omega,λf e j=>?_⟩;have i:=b.2 f e;simp only [zq,jQ] at j ⊢;simp only [aAw,not_and,not_or,Decidable.not_not] at i;have:=i j;rw [this.1,this.2]
 ·have u:=p a[c] (zz _);refine ⟨λh=>by omega,λ_ r=>?_⟩;have k:=r c (by simpa using d);simp only [zq,jQ] at k;rcases b with b|⟨f,e,m,n⟩
  ·omega
  ·have:=k.2 f e m;simp at this;rcases n with h|h
   ·exact h this.1
   ·exact h this.2
structure vE(ar:ByteArray->Bool×Int)(x:Lk):Prop where
 nm:aL (x.nm,0)=false
 len:x.ts.length<=2
 ar0:ar x.nm=(true,(x.ts.length:Int))
 kd:tD x.ts
 con:∀t∈x.ts,t.1=110->aL (t.2,0)=false/\ar t.2=(false,0)
theorem xQ(a:Int):aL (⟨#[]⟩,a)=true:=by simp [aL]
theorem aQw(c:List ByteArray)(a:TT)(b:a.1=118):aL (pV c a)=true:=by unfold pV;rw [aI b];exact xQ _
theorem aGp{g:ByteArray->Bool×Int}:∀(e:List TT) (c:List ByteArray) (b:Nat),0<b->tD e->(∀t∈e,t.1=110->aL (t.2,0)=false/\g t.2=(false,0))->∀a∈iB b (qR c e),a.2=g a.1/\a.2.2<=5
 |[],c,b,_,_,_,a,hu=>by simp [qR,iB] at hu
 |t::r,c,b,hk,hd,hc,a,hu=>by
  simp only [qR,iB] at hu;rcases zm.1 hu with hu|hu
  ·unfold lX at hu;split at hu
   ·simp at hu
   ·rename_i j;simp at hu;rcases hd t (by simp) with h|h
    ·exact absurd (aQw c t h) j
    ·have i:pV c t=(t.2,0):=by unfold pV;rw [aH (by rw [h];decide)]
     rw [i] at hu;subst hu;rw [(hc t (by simp) h).2];simp;omega
  ·exact aGp r _ (b+1) (by omega) (λf d=>hd f (by simp [d])) (λf d=>hc f (by simp [d])) a hu
theorem aQx{e:ByteArray->Bool×Int}:∀(c:List Lk) (d:List ByteArray),(∀b∈c,vE e b)->∀a∈pU (fM d c),a.2=e a.1/\a.2.2<=5:=by
 intro c;induction c with
 |nil=>intro d _ a hu;rw [uO] at hu;simp [fM] at hu
 |cons b r ih=>
  intro d f a hu;rw [uO] at hu;simp only [fM,zs] at hu;rcases zm.1 hu with hu|hu
  ·obtain ⟨g,o,i,j,k⟩:=f b (by simp);unfold wS at hu;simp only [iB] at hu;rcases zm.1 hu with hu|hu
   ·unfold lX at hu;rw [aH (by rw [show aL (b.nm,(b.ts.length:Int))=aL (b.nm,0) from rfl,g];decide)] at hu;simp at hu;subst hu;rw [i];simp;omega
   ·exact aGp _ _ 1 (by omega) j k a hu
  ·exact ih _ (λn m=>f n (by simp [m])) a (by rw [uO];exact hu)
theorem aQy{ar:ByteArray->Bool×Int}{b:List Us}(a:∀c∈b,c.2=ar c.1/\c.2.2<=5):wR b:=λi d=>⟨(a _ (zz d)).2,λf g e=>by
 rw [(a _ (zz d)).1,(a _ (zz (show f<b.length by omega))).1,e]⟩
theorem aGq:∀(a:List Lk) (b:List ByteArray),(fM b a).length=a.length
 |[],_=>rfl
 |x::r,b=>by simp [fM,aGq r]
theorem aGr{c:ByteArray->Bool×Int}:∀(a:List Lk) (b:List ByteArray),(∀x∈a,vE c x)->aR (fM b a)<=3*a.length
 |[],_,_=>by simp [fM,aR]
 |x::r,b,h=>by
  have:=aGr r (mT b x.ts) (λe d=>h e (by simp [d]));have f:=(h x (by simp)).len;unfold aR at this ⊢;simp only [fM,List.map_cons,List.sum_cons,wS,zt,aLp];omega
theorem aQz(a:List Lk):0<(oS a).length:=by unfold oS;rw [zy,ze];omega
theorem aR0:∀a:List Lk,a.length<=(oS a).length:=by
 have b:∀a:List Lk,a.length<=(jR a).length:=by
  intro a;induction a with
  |nil=>simp
  |cons x r ih=>
   have c:0<(nW x).length:=by have:=aLt x;unfold nW;rw [zy];omega
   cases r with
   |nil=>simp [jR];omega
   |cons y r=>
    simp only [jR,zy,zt] at ih ⊢;omega
 intro a;unfold oS;cases a with
 |nil=>simp
 |cons x r=>
  have:=b (x::r);rw [zy];simp only at this ⊢;omega
theorem aR1(a:List (List Lk)):a.length<(qS a).length/\∀b∈a,b.length<=(qS a).length:=by
 unfold qS;rw [zy,ze];induction a with
 |nil=>simp
 |cons b r ih=>
  rw [zs,zy];have d:=aQz b;have e:=aR0 b;refine ⟨by have:=ih.1;rw [zt];omega,λc hM=>?_⟩;rcases List.mem_cons.1 hM with rfl|hM
  ·omega
  ·have:=ih.2 c hM;omega
theorem aR2{ar:ByteArray->Bool×Int}{b:List (List Lk)}{u:List (List Lt)}{y p:Int}(g:nO s u y p)(a1:s.size<=3000)(hK:(dB s 0).map kt=qS b)(Z:b.length<=40)(k:∀a∈b,a.length<=8/\∀o∈a,vE ar o):u=b.map (λa=>aV (fM [] a))/\p=0:=by
 have W:(dB s 0).length=(qS b).length:=by rw [<-hK,List.length_map]
 obtain ⟨V,G⟩:=aR1 b;obtain ⟨x,f,c,j⟩:=aLv (T:=dB s 0) b ((dB s 0).length+1) ⟨0,[],[]⟩ [] (λa d=>⟨by have:=G a d;omega,λo L=>((k a d).2 o L).kd⟩) (by omega) (by unfold At;simpa using hK);simp only [zf] at c;obtain ⟨Q,P,n,v,M,a4,-,-,-,N⟩:=aM5 (aEp s (by omega)) (aB7 s (by omega)) (aM8 s 0) _ _ _ _ _ c (by show 0<(dB s 0).length;omega);simp only [zf] at n v;subst v;have t:∀e∈f,∃a∈b,e.2=fM [] a:=λe m=>by
  have:e.2∈f.map Prod.snd:=List.mem_map_of_mem m;rw [j] at this;obtain ⟨a,d,c⟩:=zu.1 this;exact ⟨a,d,c.symm⟩
 rcases g with ⟨r,_⟩|⟨_,g⟩
 ·omega
 ·have H:uJ s=.ok (x,f):=c;rw [H] at g;obtain ⟨a3,r,C⟩:=g;have J:wR (x.pz.map jQ):=by
   rw [n,M];refine aQy (ar:=ar) λO i=>?_
   obtain ⟨e,m,i⟩:=zh.1 i;obtain ⟨a,d,c⟩:=t e m;rw [c] at i;exact aQx a [] (k a d).2 O i
  rcases C with ⟨B,_⟩|⟨_,D⟩
  ·exact absurd J ((aQv r (by rw [n];exact N)).2 B)
  ·rcases D with ⟨a2,I,hbad,_⟩|⟨_,rfl,rfl,rfl⟩
   ·have S:f.length=b.length:=by
     have:=congrArg List.length j;simpa using this
    rcases hbad with hbad|hbad
    ·omega
    ·obtain ⟨a,d,c⟩:=t _ (zz I);rw [c] at hbad;obtain ⟨R,E⟩:=k a d;have a0:=aGq a [];have Y:=aGr a [] E;have X:(aV (fM [] a)).length<=(fM [] a).length/\aR (aV (fM [] a))<=aR (fM [] a):=by
      obtain ⟨z,A,_⟩:=mD (fM [] a);unfold aV;exact ⟨by rw [(pA _).1];exact z,by rw [aLd];exact A⟩
     have:bP (aV (fM [] a))=true:=by unfold bP;simp;omega
     rw [this] at hbad;cases hbad
   ·refine ⟨?_,rfl⟩;have:=congrArg (List.map aV) j;simpa [z0,Function.comp_def] using this
def pB(num:ByteArray->Int)(a:TT):Nd:=if a.1=118 then (⟨#[]⟩,num a.2) else (a.2,0)
def xR(num:ByteArray->Int)(a:Lk):Lt:=(a.neg,(a.nm,(a.ts.length:Int))::a.ts.map (pB num))
theorem aR3{c:ByteArray}(a:jO l c<0):c∉l:=by
 have f:∀b:List ByteArray,pM b c<0->c∉b:=by
  intro b;induction b with
  |nil=>intro _;simp
  |cons y r ih=>
   intro a;unfold pM at a;split at a
   ·omega
   ·rename_i e;simp only [List.mem_cons,not_or];exact ⟨λd=>e d.symm,ih a⟩
 have:=f l.reverse a;simpa using this
theorem aR4{b:ByteArray}(a:¬jO l b<0):l[(jO l b).toNat]?=some b:=by
 have e:∀c:List ByteArray,¬pM c b<0->c.reverse[(pM c b).toNat]?=some b:=by
  intro c;induction c with
  |nil=>intro a;simp [pM] at a
  |cons y r ih=>
   intro a;rw [List.reverse_cons];unfold pM at a ⊢;split
   ·rename_i d;subst d;simp
   ·rename_i d;rw [aH d] at a;have:=ih a;rw [zl (zx.1 this).1];exact this
 have:=e l.reverse a;rwa [List.reverse_reverse] at this
theorem aR5(a:ByteArray)(e:l.Nodup):(kN l a).Nodup/\(∃j,kN l a=l++j)/\0<=jZ l a/\(kN l a)[(jZ l a).toNat]?=some a/\∀b∈kN l a,b∈l\/b=a:=by
 unfold kN jZ;split
 ·rename_i c;have i:=aR3 c;refine ⟨?_,⟨_,rfl⟩,by omega,by simp,λb d=>by simpa using d⟩;rw [List.nodup_append];refine ⟨e,by simp,λk g m f=>?_⟩;simp at f;subst f;rintro rfl;exact i g
 ·rename_i c;exact ⟨e,⟨[],by simp⟩,by omega,aR4 c,λb d=>zi d⟩
def VN(num:ByteArray->Int)(F:List ByteArray)(c d:Int):Prop:=∃(a:Nat) (b:ByteArray),c=a/\F[a]?=some b/\d=num b
theorem VN.pairs{d:ByteArray->Int}(j:F.Nodup)(k:∀b∈F,∀f∈F,d b=d f->b=f):mL (VN d F):=by
 rintro p t r u ⟨m,b,rfl,c,rfl⟩ ⟨n,o,rfl,a,rfl⟩;constructor
 ·intro e;obtain rfl:m=n:=by omega
  rw [c] at a;cases a;rfl
 ·intro e;obtain rfl:=k b (zc c) o (zc a) e;obtain ⟨v,g⟩:=zx.1 c;obtain ⟨x,i⟩:=zx.1 a;rw [(List.getElem_inj j).1 (g.trans i.symm)]
theorem VN.mono{num:ByteArray->Int}(m:List ByteArray){a b:Int}(d:VN num F a b):VN num (F++m) a b:=by obtain ⟨k,x,rfl,c,rfl⟩:=d;exact ⟨k,x,rfl,by rw [zl (zx.1 c).1];exact c,rfl⟩
theorem aR6{num:ByteArray->Int}(b:List ByteArray){l a:List Nd}(h:aP (fS (VN num F)) l a):aP (fS (VN num (F++b))) l a:=by
 induction h with
 |nil=>exact aP.nil
 |cons h _ ih=>
  refine aP.cons ?_ ih;rcases h with ⟨c,d,e,f⟩|h
  ·exact zi ⟨c,d,e,f.mono b⟩
  ·exact zn h
def zV(b:List ByteArray)(c:List TT):Prop:=∀a∈c,a.1=118->a.2∈b
theorem aGs{num:ByteArray->Int}{g:List ByteArray}:∀(b:List TT) (a:List ByteArray),a.Nodup->(∀c∈a,c∈g)->zV g b->(∀t∈b,t.1=110->aL (t.2,0)=false)->tD b->(mT a b).Nodup/\(∃j,mT a b=a++j)/\(∀c∈mT a b,c∈g)/\aP (fS (VN num (mT a b))) (qR a b) (b.map (pB num))
 |[],a,h,hv,_,_,_=>⟨h,⟨[],by simp [mT]⟩,hv,aP.nil⟩
 |t::r,a,h,hv,hi,hc,hk=>by
  have i:(nU a t).Nodup/\(∃j,nU a t=a++j)/\(∀c∈nU a t,c∈g)/\fS (VN num (nU a t)) (pV a t) (pB num t):=by
   unfold nU pV pB;rcases hk t (by simp) with e|e
   ·rw [aI e,aI e,aI e];obtain ⟨n,o,J,p,u⟩:=aR5 t.2 h;exact ⟨n,o,λc H=>by
     rcases u c H with h|rfl
     ·exact hv c h
     ·exact hi t (by simp) e,zi ⟨xQ _,xQ _,rfl,_,t.2,by simp;omega,p,rfl⟩⟩
   ·rw [aH (by omega),aH (by omega),aH (by omega)];exact ⟨h,⟨[],by simp⟩,hv,zn ⟨hc t (by simp) e,rfl⟩⟩
  obtain ⟨v,⟨I,x⟩,y,z⟩:=i;obtain ⟨A,⟨m,k⟩,B,C⟩:=aGs (num:=num) r (nU a t) v y (λf d=>hi f (by simp [d])) (λf d=>hc f (by simp [d])) (λf d=>hk f (by simp [d]));have e:mT a (t::r)=mT (nU a t) r:=rfl;rw [e];refine ⟨A,⟨I++m,by rw [k,x,z1]⟩,B,?_⟩;refine aP.cons ?_ C;rw [k];rcases z with ⟨i,D,E,G⟩|h
  ·exact zi ⟨i,D,E,G.mono m⟩
  ·exact zn h
theorem aGt{n:ByteArray->Bool×Int}{num:ByteArray->Int}{d:List ByteArray}:∀(c:List Lk) (a:List ByteArray),a.Nodup->(∀b∈a,b∈d)->(∀x∈c,vE n x/\zV d x.ts)->∃F,F.Nodup/\(∃A,F=a++A)/\(∀b∈F,b∈d)/\aP (jM (VN num F)) (fM a c) (c.map (xR num))
 |[],a,h,hv,_=>⟨a,h,⟨[],by simp⟩,hv,aP.nil⟩
 |x::r,a,h,hv,hL=>by
  obtain ⟨e,z⟩:=hL x (by simp);obtain ⟨i,⟨B,j⟩,k,m⟩:=aGs (num:=num) x.ts a h hv z (λC v u=>(e.con C v u).1) e.kd;obtain ⟨F,o,⟨g,f⟩,p,t⟩:=aGt (num:=num) r (mT a x.ts) i k (λb y=>hL b (by simp [y]));refine ⟨F,o,⟨B++g,by rw [f,j,z1]⟩,p,aP.cons ⟨rfl,?_⟩ t⟩;rw [f];exact aP.cons (zn ⟨e.nm,rfl⟩) (aR6 g m)
theorem aR7{ar:ByteArray->Bool×Int}{num:ByteArray->Int}{V:List ByteArray}(i:∀a∈V,∀b∈V,num a=num b->a=b){c:List Lk}(g:∀a∈c,vE ar a/\zV V a.ts):aV (fM [] c)=aV (c.map (xR num)):=by obtain ⟨F,e,_,d,f⟩:=aGt (num:=num) c [] (by simp) (by simp) g;exact aDp (VN.pairs e λa j b k=>i a (d a j) b (d b k)) f
theorem aCj(a:ByteArray):(⟨#[]⟩ : ByteArray)++a=a:=by rw [show (⟨#[]⟩ : ByteArray)=ByteArray.empty from rfl];simp
theorem tU(a:ByteArray):a++(⟨#[]⟩ : ByteArray)=a:=by rw [show (⟨#[]⟩ : ByteArray)=ByteArray.empty from rfl];simp
def dO(c:Int)(a:Nat):Nat:=(Int.tmod (if c<0 then -(c+1) else c) a).toNat
theorem zW(a:Int){b:Nat}(d:0<b):dO a b<b:=by
 unfold dO;have c:(0:Int)<=(if a<0 then -(a+1) else a):=by split<;>omega
 have e:=Int.tmod_nonneg (b:Int) c;have f:=Int.tmod_lt_of_pos (if a<0 then -(a+1) else a) (show (0:Int)<b by omega);omega
def pC:Nat->UInt8
 |0=>88
 |1=>89
 |2=>97
 |_=>98
def mZ(c:Int):ByteArray:=⟨#[pC (dO c 4)]⟩
def fA(c:Int):TT:=(if dO c 4<2 then 118 else 110,mZ c)
def qG(a:Rl):ByteArray:=if dO a.2.1 2=0 then (⟨#[112,40]⟩++mZ a.2.2.1)++⟨#[41]⟩ else (((⟨#[113,40]⟩++mZ a.2.2.1)++⟨#[44,32]⟩)++mZ a.2.2.2)++⟨#[41]⟩
def qH(a:Bool):ByteArray:=if a then ⟨#[126]⟩ else ⟨#[]⟩
def tV(a:Rl):ByteArray:=qH a.1++qG a
def tW(a:Bool):ByteArray:=if a then ⟨#[]⟩ else ⟨#[32,124,32]⟩
def gS:Bool->List Rl->ByteArray
 |_,[]=>⟨#[]⟩
 |b,x::r=>tW b++(tV x++gS false r)
theorem aGu(b:Rl):∀(l:List Rl) (a:Bool),gS a (l++[b])=gS a l++(tW (a && l.isEmpty)++tV b)
 |[],a=>by simp [gS,aCj,tU]
 |y::r,a=>by simp [gS,aGu b r,ByteArray.append_assoc]
def qI(a:List Rl):ByteArray:=((if a.isEmpty then ⟨#[36,102,97,108,115,101]⟩ else ⟨#[]⟩)++gS true a)++⟨#[46,32]⟩
def gL:List (List Rl)->ByteArray
 |[]=>⟨#[]⟩
 |c::r=>qI c++gL r
theorem aGv(a:List Rl):∀l:List (List Rl),gL (l++[a])=gL l++qI a
 |[]=>by simp [gL,aCj,tU]
 |y::r=>by simp [gL,aGv a r,ByteArray.append_assoc]
def jV(a:Rl):Lk:=⟨a.1,if dO a.2.1 2=0 then ⟨#[112]⟩ else ⟨#[113]⟩,if dO a.2.1 2=0 then [fA a.2.2.1] else [fA a.2.2.1,fA a.2.2.2]⟩
theorem aR8(a:Rl):(qG a).size<=7/\0<(qG a).size:=by
 unfold qG;split
 ·exact ⟨show 4<=7 by omega,show 0<4 by omega⟩
 ·exact ⟨show 7<=7 by omega,show 0<7 by omega⟩
theorem zX:∀(l:List Rl) (a:Bool),(gS a l).size<=11*l.length
 |[],a=>zk 0
 |x::r,a=>by
  have b:=zX r false;have c:=(aR8 x).1;have d:(qH x.1).size<=1:=by unfold qH;split<;>decide
  have e:(tW a).size<=3:=by unfold tW;split<;>decide
  simp only [gS,tV,ByteArray.size_append,zt];omega
theorem aR9(a:List Rl)(b:a.length<=4):(qI a).size<=52:=by
 have c:=zX a true;have d:(if a.isEmpty then (⟨#[36,102,97,108,115,101]⟩ : ByteArray) else ⟨#[]⟩).size<=6:=by split<;>decide
 have e:(⟨#[46,32]⟩ : ByteArray).size=2:=rfl;simp only [qI,ByteArray.size_append];omega
theorem zY:∀(l:List (List Rl)),(∀c∈l,c.length<=4)->(gL l).size<=52*l.length
 |[],_=>zk 0
 |c::r,h=>by
  have d:=zY r (λa b=>h a (by simp [b]));have e:=aR9 c (h c (by simp));simp only [gL,ByteArray.size_append,zt];omega
theorem aRa(a:Nat):(eK (pC a).toNat || dM (pC a).toNat)=true/\dM (pC a).toNat=decide (a<2):=by
 match a with
 |0=>exact ⟨rfl,rfl⟩
 |1=>exact ⟨rfl,rfl⟩
 |2=>exact ⟨rfl,rfl⟩
 |n+3=>exact ⟨rfl,by simp [pC];rfl⟩
theorem aCk{c:Int}{b:UInt8}(a:eP s q ⟨#[pC (dO c 4),b]⟩)(i:fD b.toNat=false):iA s q (q+1) [fA c]:=by have k:q+2<=s.size:=a.le;have f:aE s q=(pC (dO c 4)).toNat:=a.byte 0 (by show 0<2;omega);have g:aE s (q+1)=b.toNat:=a.byte 1 (by show 1<2;omega);have j:s.extract q (q+1)=mZ c:=a.cut 0 1 (by show 1<=2;omega);obtain ⟨d,e⟩:=aRa (dO c 4);have:=aLo (by omega) f d (by rw [g];exact i);rw [e,j] at this;simpa [fA] using this
theorem aGw{a c:UInt8}(b:eP s q ⟨#[a,c]⟩)(g:(eK a.toNat || dM a.toNat)=true)(i:c=40):iA s q (q+2) [(if dM a.toNat then 118 else 110,⟨#[a]⟩),(40,dQ)]:=by subst i;have k:q+2<=s.size:=b.le;have f:aE s q=a.toNat:=b.byte 0 (by show 0<2;omega);have d:aE s (q+1)=40:=b.byte 1 (by show 1<2;omega);have j:s.extract q (q+1)=⟨#[a]⟩:=b.cut 0 1 (by show 1<=2;omega);have e:=aLo (by omega) f g (by rw [d];rfl);rw [j] at e;exact e.trans (uN (q:=q+1) (by omega) d rfl)
theorem aRb{a:Rl}(b:eP s q (qG a)):iA s q (q+(qG a).size) (nV (jV a)):=by
 unfold qG at b ⊢;split
 ·rename_i e;rw [aI e] at b;have f:(⟨#[112,40]⟩++mZ a.2.2.1++⟨#[41]⟩ : ByteArray).size=4:=rfl;have i:eP s q ⟨#[112,40]⟩:=b.left.left;have d:eP s (q+2) ⟨#[pC (dO a.2.2.1 4),41]⟩:=by
   rw [ByteArray.append_assoc] at b;exact b.right
  rw [f];have k:=aGw i rfl rfl;have m:=aCk d rfl;have n:=uN (s:=s) (q:=q+3) (c:=41) (by have:q+2+2<=s.size:=d.le;omega) (d.byte 1 (by show 1<2;omega)) rfl;have g:nV (jV a)=[(110,⟨#[112]⟩),(40,dQ),fA a.2.2.1,(41,dQ)]:=by unfold nV jV;simp only [aI e,rP]
  rw [g];exact (k.trans m).trans n
 ·rename_i e;rw [aH e] at b;have f:(⟨#[113,40]⟩++mZ a.2.2.1++⟨#[44,32]⟩++mZ a.2.2.2++⟨#[41]⟩ : ByteArray).size=7:=rfl;have i:eP s q ⟨#[113,40]⟩:=b.left.left.left.left;have d:eP s (q+2) ⟨#[pC (dO a.2.2.1 4),44]⟩:=by
   have:=b.left.left;rw [ByteArray.append_assoc] at this;exact eP.left (y:=⟨#[32]⟩) this.right
  have o:eP s (q+3) ⟨#[44,32]⟩:=b.left.left.right;have j:eP s (q+5) ⟨#[pC (dO a.2.2.2 4),41]⟩:=by rw [ByteArray.append_assoc] at b;exact b.right
  rw [f];have u:q+7<=s.size:=j.le;have k:=aGw i rfl rfl;have m:=aCk d rfl;have n:=uN (s:=s) (q:=q+3) (c:=44) (by omega) (o.byte 0 (by show 0<2;omega)) rfl;have p:=aBb (s:=s) (q:=q+4) (by omega) (by rw [show aE s (q+4)=32 from o.byte 1 (by show 1<2;omega)];rfl);have r:=aCk j rfl;have t:=uN (s:=s) (q:=q+6) (c:=41) (by omega) (j.byte 1 (by show 1<2;omega)) rfl;have g:nV (jV a)=[(110,⟨#[113]⟩),(40,dQ),fA a.2.2.1,(44,dQ),fA a.2.2.2,(41,dQ)]:=by unfold nV jV;simp only [aH e,rP]
  rw [g];exact ((((k.trans m).trans n).trans p).trans r).trans t
theorem aRc{a:Rl}(c:eP s q (tV a)):iA s q (q+(tV a).size) (nW (jV a)):=by
 unfold tV at c ⊢;unfold nW;rw [ByteArray.size_append,<-zv];refine iA.trans ?_ (aRb c.right);have d:=c.left;have e:(jV a).neg=a.1:=rfl;rw [e];generalize a.1=b at d ⊢;cases b with
 |true=>exact uN (by have:q+1<=s.size:=d.le;omega) (d.byte 0 (by show 0<1;omega)) rfl
 |false=>exact yT
theorem aRd(a:eP s q ⟨#[32,124,32]⟩):iA s q (q+3) [(124,dQ)]:=by have f:q+3<=s.size:=a.le;have b:=aBb (s:=s) (q:=q) (by omega) (by rw [show aE s q=32 from a.byte 0 (by show 0<3;omega)];rfl);have d:=uN (s:=s) (q:=q+1) (c:=124) (by omega) (a.byte 1 (by show 1<3;omega)) rfl;have e:=aBb (s:=s) (q:=q+2) (by omega) (by rw [show aE s (q+2)=32 from a.byte 2 (by show 2<3;omega)];rfl);exact (b.trans d).trans e
theorem aGx{s:ByteArray}:∀(l:List Rl) (q:Nat) (a:Bool),eP s q (gS a l)->iA s q (q+(gS a l).size) ((if a || l.isEmpty then [] else [(124,dQ)])++jR (l.map jV))
 |[],q,a,h=>by
  have:(gS a []).size=0:=rfl;rw [this];simp [jR];exact yT
 |x::r,q,a,h=>by
  simp only [gS] at h ⊢;rw [ByteArray.size_append,ByteArray.size_append,<-zv,<-zv];have c:iA s q (q+(tW a).size) (if a then [] else [(124,dQ)]):=by
   have b:=h.left;unfold tW at b ⊢;cases a with
   |true=>exact yT
   |false=>exact aRd b
  have d:=aRc h.right.left;have e:=aGx r _ false h.right.right;have:=(c.trans d).trans e;cases r with
  |nil=>simpa [jR] using this
  |cons y r=>simpa [jR] using this
theorem aRe{a:UInt8}(b:eP s q ⟨#[46,a]⟩)(d:lB a.toNat=true):iA s q (q+2) [(46,dQ)]:=by have g:q+2<=s.size:=b.le;have e:=uN (s:=s) (q:=q) (c:=46) (by omega) (b.byte 0 (by show 0<2;omega)) rfl;have f:=aBb (s:=s) (q:=q+1) (by omega) (by rw [show aE s (q+1)=a.toNat from b.byte 1 (by show 1<2;omega)];exact d);exact e.trans f
theorem aRf{a:List Rl}(b:eP s q (qI a)):iA s q (q+(qI a).size) (oS (a.map jV)):=by
 unfold qI at b ⊢;rw [ByteArray.size_append,ByteArray.size_append,<-zv,<-zv];have d:=b.right;rw [ByteArray.size_append,<-zv] at d;have e:=aRe d rfl;have f:=aGx a _ true b.left.right;have g:=b.left.left;cases a with
 |nil=>
  have c:=aZh g;exact (c.trans f).trans e
 |cons x r=>
  have c:iA s q (q+(if (x::r).isEmpty then (⟨#[36,102,97,108,115,101]⟩ : ByteArray) else ⟨#[]⟩).size) []:=yT;exact (c.trans f).trans e
theorem aGy{s:ByteArray}:∀(l:List (List Rl)) (q:Nat),eP s q (gL l)->iA s q (q+(gL l).size) ((l.map (List.map jV)).flatMap oS)
 |[],q,h=>yT
 |c::r,q,h=>by
  simp only [gL] at h ⊢;rw [ByteArray.size_append,<-zv];exact (aRf h.left).trans (aGy r _ h.right)
theorem aRg(l:List (List Rl)):(dB (gL l) 0).map kt=qS (l.map (List.map jV)):=by obtain ⟨c,b,a⟩:=aGy (s:=gL l) l 0 ⟨⟨#[]⟩,⟨#[]⟩,by rw [aCj,tU],rfl⟩;rw [zg,aZg] at a;rw [a,List.map_append,b];rfl
def zZ(a:ByteArray):Bool×Int:=if a=⟨#[112]⟩ then (true,1) else if a=⟨#[113]⟩ then (true,2) else (false,0)
theorem aGz(a:Int):(dO a 4=0/\fA a=(118,⟨#[88]⟩))\/(dO a 4=1/\fA a=(118,⟨#[89]⟩))\/(dO a 4=2/\fA a=(110,⟨#[97]⟩))\/(dO a 4=3/\fA a=(110,⟨#[98]⟩)):=by
 have b:=zW a (show 0<4 by omega);unfold fA mZ;obtain e|e|e|e:dO a 4=0\/dO a 4=1\/dO a 4=2\/dO a 4=3:=by omega
 all_goals rw [e];simp [pC]
def vF:List ByteArray:=[⟨#[88]⟩,⟨#[89]⟩]
theorem aH0(a:Int):((fA a).1=118\/(fA a).1=110)/\((fA a).1=110->aL ((fA a).2,0)=false/\zZ (fA a).2=(false,0))/\((fA a).1=118->(fA a).2∈vF):=by
 rcases aGz a with ⟨_,c⟩|⟨_,c⟩|⟨_,c⟩|⟨_,c⟩;all_goals rw [c]
 ·exact ⟨zi rfl,λb=>absurd b (by decide),λ_=>by simp [vF]⟩
 ·exact ⟨zi rfl,λb=>absurd b (by decide),λ_=>by simp [vF]⟩
 ·exact ⟨zn rfl,λ_=>⟨by kernel_rfl,by kernel_rfl⟩,λb=>absurd b (by decide)⟩
 ·exact ⟨zn rfl,λ_=>⟨by kernel_rfl,by kernel_rfl⟩,λb=>absurd b (by decide)⟩
theorem aH1(c:Rl):vE zZ (jV c)/\zV vF (jV c).ts:=by
 obtain ⟨d,e,f⟩:=aH0 c.2.2.1;obtain ⟨g,i,j⟩:=aH0 c.2.2.2;unfold jV;split
 ·refine ⟨⟨by kernel_rfl,by simp,by kernel_rfl,?_,?_⟩,?_⟩
  ·intro b a;simp at a;subst a;exact d
  ·intro b a;simp at a;subst a;exact e
  ·intro b a;simp at a;subst a;exact f
 ·refine ⟨⟨by kernel_rfl,by simp,by kernel_rfl,?_,?_⟩,?_⟩
  ·intro b a;simp at a;rcases a with rfl|rfl;exact d;exact g
  ·intro b a;simp at a;rcases a with rfl|rfl;exact e;exact i
  ·intro b a;simp at a;rcases a with rfl|rfl;exact f;exact j
def qJ(a:ByteArray):Int:=if a=⟨#[88]⟩ then 0 else 1
def qK(a:List Rl):List Lt:=aV (a.map λb=>xR qJ (jV b))
theorem aRh{l:List (List Rl)}{i:List (List Lt)}{k e:Int}(m:nO (gL l) i k e)(t:l.length<=40)(f:∀a∈l,a.length<=4):i=l.map qK/\e=0:=by
 have v:=zY l f;obtain ⟨n,o⟩:=aR2 (ar:=zZ) m (by omega) (aRg l) (by simpa using t) (λu p=>by
  obtain ⟨a,r,rfl⟩:=zu.1 p;refine ⟨by have:=f a r;simp;omega,λj b=>?_⟩;obtain ⟨c,_,rfl⟩:=zu.1 b;exact (aH1 c).1)
 refine ⟨?_,o⟩;rw [n,z0];refine List.map_congr_left λa _=>?_
 show aV (fM [] (a.map jV))=qK a;rw [aR7 (ar:=zZ) (num:=qJ) (V:=vF) ?_ (λj b=>by obtain ⟨c,_,rfl⟩:=zu.1 b;exact aH1 c)]
 ·unfold qK;rw [z0];rfl
 ·intro j b c g d;simp [vF] at b g;rcases b with rfl|rfl<;>rcases g with rfl|rfl
  ·rfl
  ·exact absurd d (by decide)
  ·exact absurd d (by decide)
  ·rfl
