import Derived.Test.YtmelidkanelpbaaGreatDoorGPartsG
import Derived.Laws.AppendOwnNone
import Derived.Test.YtmelidkanelpbaaGreatDoorXSr0G
open List renaming take_succ_eq_append_getElem→zx,append_assoc→zw,mem_append→zv,map_append→zu,flatMap_singleton→zt,length_append→zs,flatMap_cons→zr,getElem_mem→zp,take_length→zo,mem_map→zn,flatMap_append→zm,map_singleton→zl,mem_flatMap→zi,getElem_map→zh,nil_append→zg,getD_eq_getElem?_getD→zf,mem_cons→ze,getElem?_eq_getElem→zd,cons_append→zc,mem_filterMap→zb,nodup_append→z0,length_cons→z3
open Nat renaming le_refl→zz,zero_le→zq,zero_add→z1
open Or renaming inr→za,inl→z5
open Prod renaming fst→zy
namespace Go.Proofs.YtmelidkanelpbaaGreatDoor
open _root_.Go.Proofs.Tryz renaming prog→zj,ntmps18→z2,func18→z4
open World renaming ownsRow_nil→zk
open Go.RowKit Go.WideMaps
set_option maxHeartbeats 4000000
set_option maxRecDepth 100000
variable{s:ByteArray}{T:List Tk}{B:Nat}{w:World}
theorem aR9{w:World}{H:Array Oper}{I:List Oper}{m:Oper}{l:Act}{v:Exit->Act->World->Prop}(y:m.guard=none)(s o:Operand)(i:TypeId)
  (C:m.op=.call {callee:=.builtin .append,args:=#[s,o],argTypes:=#[i,i]})
  (f:Nat) (b:TypeId) (c:TypeInfo) (u:Value) (a q:Nat) (F:zj.underlying i=some (.slice b)) (z:zj.info? b=some c) (a1:c.zero=some u) (Y:c.size=a) (R:c.bytes=q) (a2:u.cells.size=a) (Z:0<a)
  (e:Value) (d:Nat) (p:List Value) (E:l.eval s=e) (r:w.ownsRow f b a e d p) (L:Value) (g M:Nat) (k:List Value) (G:l.eval o=L) (D:w.ownsRow M b a L g k) (P:∀J∈k,J.oneCell'=true) (X:d+g<=maxLen) (S:(d+g)*q<=140737488355328) (Q:f<=w.heap.size)
  (x:∀n j,j.ownsRow f b a n (d+g) (p++k)->w.grownBy j e.ownBlock->wpList zj H v I (l.put m.dst n) j):wpList zj H v (m::I) l w:=by
 have U:=D;obtain ⟨V,⟨rfl,W⟩|⟨O,N,a5,rfl,a6,a7,a9⟩⟩:=D
 ·subst W;have a0:k=[]:=List.eq_nil_of_length_eq_zero (by omega);subst a0;refine wpList_append_own_none y s o i C f b c a F z e d p E r G ?_;exact x e w (by simpa using r) (World.grownBy.refl _ _)
 ·refine wpList_append_own w y s o i C f b c u a q F z a1 Y R a2 Z e d p E r ⟨O,0,none⟩ g N k G V (λt J A=>?_) P X S Q (λn j a3 a4 _=>x n j a3 a4);have a8:=(List.getElem?_eq_some_iff.1 A).1;have:=U.cellAt t (by omega);rw [A] at this;cases t with
  |zero=>simpa [Addr.add] using this
  |succ t=>simpa [Addr.add] using this
theorem aA6(b:List Pc):∀a (c:a<b.length),(pJ b)[a*2]?=some (.int .i64 b[a].1.1)/\(pJ b)[a*2+1]?=some b[a].2:=by
 induction b with
 |nil=>intro a c;simp at c
 |cons x r ih=>
  intro a c;cases a with
  |zero=>simp [pJ]
  |succ a=>
   have:=ih a (by simpa using c);have d:(a+1)*2=a*2+2:=by omega
   rw [d];simp only [pJ,zr,zc,zg,List.getElem_cons_succ] at this ⊢;have e:a*2+2+1=a*2+1+2:=by omega
   rw [e];simp only [List.getElem?_cons_succ];exact this
theorem aRa(d:List Us):∀c∈gH d,c.oneCell'=true:=by intro c a;unfold gH at a;rw [zi] at a;obtain ⟨e,_,b⟩:=a;simp at b;rcases b with rfl|rfl|rfl<;>rfl
theorem aRb(a b:List Us):gH (a++b)=gH a++gH b:=by simp [gH]
structure aD0(p:Pc):Prop where
 short:∀q∈p.1.2,eF q.1.2
 count:aS (p.1.2.map zy)<=100000
 len:p.1.2.length<=100000
def fM(a:List Pc):List Us:=a.flatMap λb=>pR (b.1.2.map zy)
theorem aRc(a:List Pc)(b:Nat)(c:b<a.length):fM (a.take (b+1))=fM (a.take b)++pR (a[b].1.2.map zy):=by rw [zx c];unfold fM;rw [zm,zt]
theorem aRd(a:List Pc)(b:Nat):(fM (a.take b)).length<=(fM a).length:=by
 have:fM a=fM (a.take b)++fM (a.drop b):=by unfold fM;rw [<-zm,List.take_append_drop]
 rw [this,zs];omega
theorem aRe{N:Nat}{Q:Value}{a:List Pc}(n:fL B w Q a)(b9:w.cell? ⟨N,4,none⟩=some Q)(J:∀b4∈a,aD0 b4)(c1:a.length<=1000000)(b8:(fM a).length<=1000000):Calls zj 26 #[.pointer (some ⟨N,0,none⟩)] w λi R=>∃O,i=.returned O/\R.ownsRow w.heap.size 92 3 O (fM a).length (gH (fM a))/\aB w R:=by
 obtain ⟨b1,a2,a3,a4,a5⟩:=info_parts aKp;obtain ⟨c7,c8,rfl⟩:=aZ n.row;have e:=aA n;have Z:=aA J;clear n J;go_enter Tryz.func26,Tryz.ntmps26;go_wp2;go_loopw [3,11] (λb3 v wr=>∃b:Nat,b<=a.length/\v=.int .i64 b/\wr.ownsRow w.heap.size 92 3 b3 (fM (a.take b)).length (gH (fM (a.take b)))/\aB w wr) (λ_ v _=>a.length-(intOf v).toNat);case atStart=>exact ⟨0,zq _,rfl,zk _ _ _ _,Below.refl _ _⟩
 case round=>
  obtain ⟨b,c0,rfl,k,d⟩:=hrel;obtain ⟨c2,c3,rfl⟩:=aZ k;have b0:=d.size;have x:=aA d;have l:=aA k;by_cases r:b<a.length
  ·have j:a[b]∈a:=zp _;have f:=Z.o _ j;obtain ⟨g,m,L,F⟩:=aEu (P:=a[b].1.2) (e.o.each _ j).1 (e.o.each _ j).2 f.short (by have:=f.count;omega) (by have:=f.len;omega);obtain ⟨C,b6,M⟩:=wX e.o.row (by omega);simp at M;obtain ⟨rfl,rfl⟩:=M;have z:w.cell? ⟨C,b*2,none⟩=some (.int .i64 a[b].1.1):=by rw [e.o.row.cellAt _ (by omega),(aA6 a b r).1]
   have A:w.cell? ⟨C,b*2+1,none⟩=some (.slice g a[b].1.2.length m):=by rw [e.o.row.cellAt _ (by omega),(aA6 a b r).2,L]
   have b7:=aC d z;have a1:=aC d A;have a6:=f.count;have u:=aRc a b r;have a8:=aRd a (b+1);rw [u,zs] at a8;have a0:=aA u;have I:(a[b].1.2.map zy).length=a[b].1.2.length:=by simp
   rw [<-I] at a1;clear z A L f j u I;generalize a[b].1.2.map zy=c at *;generalize a[b].1.1=at0 at *;generalize fM (a.take b)=U0 at *;have S:=aA (λwx (a9:cH wx g c)=>aVn g m c wx a9 a6);have W:=aA (F.below d (zz _));clear k d F;go_wp2_with (first
    |(go_at_call 41;refine (S.o _ (W.o.below ((Below.refl _ _).alloc (zz _) _) (zz _))).mono ?_;rintro i c9 ⟨c5,rfl,t,q⟩;have o:=(x.o.alloc b0 (.cells #[.int .i64 at0,.slice g c.length m] 95));have p:=o.trans (q.mono o.size);have D:=p.size;have H:=bK (l.o.alloc _) q (zz _);have y:=aA H;have X:=aA t;have U:=aA p;obtain ⟨c4,b5,rfl⟩:=aZ t;clear H t q o p)
    |(at_builtin;refine aR9 rfl (.tmp 15) (.tmp 18) 67 rfl w.heap.size 92 b1 (.agg #[.string ⟨#[]⟩,.bool false,.int .i64 0]) 3 32 Tryz.underlying67 a2 a3 a4 a5 rfl (by decide) _ _ _ rfl y.o _ _ _ _ rfl X.o (aRa _) (by unfold maxLen;omega) (by omega) D ?_;intro c6 d0 G E;have Y:=aA G;have V:=aA E;clear G E)
    |go_in)
   go_roundw;case rel=>exact ⟨b+1,by omega,by go_num,by rw [a0.o,zs,aRb];exact Y.o,U.o.grown V.o D (λb2 i=>(cO y.o b2 i).1)⟩
   case measure=>simp [intOf];omega
  ·have a7:b=a.length:=by omega
   subst a7;clear k d;rw [zo] at l;go_wp2;go_ret;exact ⟨_,rfl,by rw [zo];exact l.o,x.o⟩
def aA7(B:Nat)(w:World)(d:Value)(b:List (List (Lt×Value)×Value)):Prop:=
 w.ownsRow B 51 1 d b.length (b.map Prod.snd)/\∀a∈b,qV w B a/\(∀c∈a.1,eF c.1.2)/\aS (a.1.map zy)<=1000000/\a.1.length<=1000000
theorem aA7.nil(B:Nat)(w:World):aA7 B w (.slice none 0 0) []:=⟨zk _ _ _ _,λp a=>by simp at a⟩
structure lD(B:Nat)(w:World)(v:Value)(QV:List (List (Lt×Value)×Value)):Prop where
 mem:aA7 B w v QV
 once:(QV.map λp=>p.2.ownBlock).Nodup
 atoms:(QV.flatMap λp=>p.1.filterMap λq=>q.2.ownBlock).Nodup
theorem lD.nil(B:Nat)(w:World):lD B w (.slice none 0 0) []:=⟨aA7.nil _ _,by simp,by simp⟩
def aRf(f:List Pc)(w:World)(g:Ending)(e:World):Prop:=
 ∃d a b c,g=.returned (.tuple #[d,.int .i64 b,.int .i64 c])/\aA2 (f.map jK) (a.map λi=>i.1.map zy) b c/\lD w.heap.size e d a/\aB w e
structure OLp(CV:List Pc)(w:World)(k:Nat)(v:Value)(wr:World)(QV:List (List (Lt×Value)×Value)):Prop where
 le:k<=CV.length
 made:QV.map (λp=>p.1.map zy)=(CV.take k).map λp=>aV (p.1.2.map zy)
 good:∀j h,j<k->¬qJ (CV.map jK) j h
 mem:lD w.heap.size wr v QV
 low:aB w wr
theorem aHp{b:List Pc}{a:Nat}(d:a<b.length)(c:a<(b.map jK).length):qJ (b.map jK) a c↔(40<=a\/bP (aV (b[a].1.2.map zy))=false):=by unfold qJ;rw [zh];exact Iff.rfl
theorem aRg{d:Type}{a:d->Option Nat}{c:List d}(b:(c.map a).Nodup):(c.filterMap a).Nodup:=by unfold List.Nodup at b ⊢;rw [List.pairwise_map] at b;refine List.Pairwise.filterMap a (λj k i l f m g e=>i ?_) b;subst e;rw [f,g]
section
variable {CV:List Pc}{w wr:World}{k:Nat}{v:Value}{QV:List (List (Lt×Value)×Value)}
theorem aHq{p e:World}{d:List Lt}{j:Value}{o:Nat}{a:List (Lt×Value)}(b:wG p d j o a e)(l:B<=p.heap.size)(t:∀x∈d,eF x.2)(A:aS d<=100000)(C:d.length<=100000):qV e B (a,j)/\((∀c∈a,eF c.1.2)/\aS (a.map zy)<=1000000/\a.length<=1000000)/\cH e (some ⟨o,0,none⟩) (aV d):=by
 obtain ⟨u,D,E⟩:=aQb d t;have r:a.length=(aV d).length:=by rw [<-b.made];simp
 have g:qV e B (a,j):=by refine ⟨?_,λc f=>iP (b.atoms c f) l⟩;rw [b.val,r];exact iP b.row l
 have n:∀c∈a,eF c.1.2:=λc f=>u c.1 (by rw [<-b.made];exact zn.2 ⟨c,f,rfl⟩)
 have m:aS (a.map zy)<=1000000:=by rw [b.made];omega
 refine ⟨g,⟨n,m,by omega⟩,?_⟩;obtain ⟨y,z,i,q⟩:=aEu (P:=a) g.1 g.2 n m (by omega);rw [b.val] at i;simp at i;rw [<-b.made];rw [i.1];exact q
theorem aRh{w2 w3 w4:World}{c:List Lt}{vo v':Value}{nb:Nat}{Q:List (Lt×Value)}{X Y:Obj}(a:OLp CV w k v wr QV)(r:k<CV.length)(y:CV[k].1.2.map zy=c)(b:wG (wr.alloc X) c vo nb Q w2)(u:aB w2 w3)(M:∀V∈c,eF V.2)(C:aS c<=100000)(G:c.length<=100000)(D:k<40/\bP (aV c)=true)(H:w4.ownsRow w.heap.size 51 1 v' (QV.length+1) (QV.map Prod.snd++[vo]))(g:(w3.alloc Y).grownBy w4 v.ownBlock):OLp CV w (k+1) v' w4 (QV++[(Q,vo)]):=by
 have P:=a.low.size;have A:=(Below.refl wr.heap.size wr).alloc (zz _) X;have R:=b.low.size;have S:=u.size;have t:aB w2 (w3.alloc Y):=u.alloc S Y;simp at R;have f:aB wr (w3.alloc Y):=(A.trans (b.low.mono (by simp))).trans (t.mono (by omega));have j:=bK a.mem.mem.1 f (zz _);obtain ⟨x,N,_⟩:=aHq (B:=w.heap.size) b (by simp;omega) M C G;have O:vo.ownBlock=some nb:=by rw [b.val];rfl
 have Z:wr.heap.size<nb+1:=by have:=(cO b.row nb rfl).1;simp at this;omega
 refine ⟨r,?_,λo E W=>?_,⟨⟨?_,λl hp=>?_⟩,?_,?_⟩,?_⟩
 ·rw [zu,a.made,zl,zx r,zu,zl,b.made,y]
 ·by_cases F:o=k
  ·subst F;rw [aHp r,y,D.2];rintro (h1|h1)
   ·omega
   ·simp at h1
  ·exact a.good o E (by omega)
 ·rw [zs,zu,zl];exact H
 ·rcases zv.1 hp with hp|hp
  ·obtain ⟨h1,q⟩:=a.mem.mem.2 l hp;refine ⟨⟨?_,λm i=>?_⟩,q⟩
   ·have:=bK h1.1 f (zz _);exact this.kept g (gE this j (by decide))
   ·have:=bK (h1.2 m i) f (zz _);exact this.kept g (gE this j (by decide))
  ·simp at hp;subst hp;refine ⟨⟨?_,λm i=>?_⟩,N⟩
   ·have:=bK x.1 t (zz _);exact this.kept g (gE this j (by decide))
   ·have:=bK (x.2 m i) t (zz _);exact this.kept g (gE this j (by decide))
 ·rw [zu,zl,z0];refine ⟨a.mem.once,by simp,λp e z n=>?_⟩;simp at n;subst n;obtain ⟨l,hp,rfl⟩:=zn.1 e;rw [O];intro d;have:=(cO (a.mem.mem.2 l hp).1.1 nb d).2;omega
 ·rw [zm,zt,z0];refine ⟨a.mem.atoms,aRg b.once,λp e z n=>?_⟩;obtain ⟨l,hp,e⟩:=zi.1 e;obtain ⟨m,i,J⟩:=zb.1 e;obtain ⟨U,I,L⟩:=zb.1 n;intro d;subst d;have h1:=(cO ((a.mem.mem.2 l hp).1.2 m i) p J).2;have q:=(cO (b.atoms U I) p L).1;simp at q;omega
 ·exact (a.low.trans (f.mono P)).grown g (by have:=f.size;omega) (λo d=>(cO j o d).1)
theorem aRi{c7:Value}(N:fL B w c7 CV)(c3:∀G∈CV,aD0 G)(E:∀G∈CV,∀H∈G.1.2,wE H.1.2)(e9:CV.length<=1000000):Calls zj 27 #[c7] w λr e4=>aRf CV w r e4:=by
 obtain ⟨e2,d6,d7,d8,d9⟩:=info_parts aZ1;obtain ⟨f5,f6,rfl⟩:=aZ N.row;have z:=aA N;have d1:=aA c3;have d2:=aA E;clear N c3 E;go_enter Tryz.func27,Tryz.ntmps27;go_wp2;go_loopw [5,11] (λe3 b1 wr=>∃(k:Nat) (QV:List (List (Lt×Value)×Value)),b1=.int .i64 k/\OLp CV w k e3 wr QV) (λ_ b1 _=>CV.length-(intOf b1).toNat);case atStart=>exact ⟨0,[],rfl,⟨zq _,rfl,λc6 N a6=>by omega,lD.nil _ _,Below.refl _ _⟩⟩
 case round=>
  obtain ⟨k,QV,rfl,d⟩:=hrel;have e8:=d.le;have b0:=d.low.size;obtain ⟨f1,f2,rfl⟩:=aZ d.mem.mem.1;have e0:QV.length=k:=by have:=congrArg List.length d.made;simp at this;omega
  have f0:QV.length<=1000000:=by omega
  clear e0;by_cases t:k<CV.length
  ·have D:CV[k]∈CV:=zp _;have o:=d1.o _ D;obtain ⟨n,q,E,a7⟩:=aEu (P:=CV[k].1.2) (z.o.each _ D).1 (z.o.each _ D).2 o.short (by have:=o.count;omega) (by have:=o.len;omega);obtain ⟨b8,e7,c5⟩:=wX z.o.row (by omega);simp at c5;obtain ⟨rfl,rfl⟩:=c5;have b5:w.cell? ⟨b8,k*2,none⟩=some (.int .i64 CV[k].1.1):=by rw [z.o.row.cellAt _ (by omega),(aA6 CV k t).1]
   have b6:w.cell? ⟨b8,k*2+1,none⟩=some (.slice n CV[k].1.2.length q):=by rw [z.o.row.cellAt _ (by omega),(aA6 CV k t).2,E]
   have d4:=aC d.low b5;have b7:=aC d.low b6;have O:=o.count;have C:=o.len;have c2:(CV[k].1.2.map zy).length=CV[k].1.2.length:=by simp
   rw [<-c2] at b7 C;have Q:∀I∈CV[k].1.2.map zy,eF I.2:=λI f=>by obtain ⟨H,a9,rfl⟩:=zn.1 f;exact o.short H a9
   have g:∀I∈CV[k].1.2.map zy,wE I.2:=λI f=>by obtain ⟨H,a9,rfl⟩:=zn.1 f;exact d2.o _ D H a9
   have a3:=aHp t (by simpa using t);obtain ⟨b,a4⟩ : ∃b,CV[k].1.2.map zy=b:=⟨_,rfl⟩;obtain ⟨j,a2⟩ : ∃d3,CV[k].1.1=d3:=⟨_,rfl⟩;rw [a4] at b7 C O Q g a3 a7;rw [a2] at d4;have y:aM (40<=k\/bP (aV b)=false->aA2 (CV.map jK) [] j 4):=aA λf=>z5 ⟨k,by simpa using t,a3.2 f,d.good,rfl,by rw [zh];simp [jK,a2],rfl⟩
   have L:=aA (λ(m u R:World) (l b2:Value) (c:Nat) (i:List (Lt×Value)) (Z a1:Obj) a e hg a8 a5=>aRh (w2:=m) (w3:=u) (w4:=R) (vo:=l) (v':=b2) (nb:=c) (Q:=i) (X:=Z) (Y:=a1) d t a4 a e Q O C hg a8 a5);have U:=aA (λwx (f:cH wx n b)=>aK3 n q b wx f g O C);have b3:=aA (λ(e5 m:World) (l:Value) (c:Nat) (i:List (Lt×Value)) (a:wG e5 b l c i m)=>(aHq (B:=0) a (zq _) Q O C).2.2);have X:=aA (a7.below d.low (zz _));have Y:=aA d.mem.mem.1;have p:=aA d;clear b5 b6 E o D c2 a3 a4 a2 d a7 Q g;have a0:aM ((wr.alloc (.cells #[.int .i64 j,.slice n b.length q] 95)).cell? ⟨wr.heap.size,0,none⟩=some (.int .i64 j)):=aA (by simp);by_cases d5:k<40
   ·cases hfit:bP (aV b) with
    |false=>
     have W:=aA (y.o (za hfit));have x:=aA (λwx c (f:cH wx (some ⟨c,0,none⟩) (aV b))=>wI (some ⟨c,0,none⟩) (aV b).length (aV b) wx f);rw [hfit] at x;clear L y hfit;go_wp2_with (first
      |(go_at_call 35;refine (x.o _ c (b3.o _ _ _ _ _ A.o)).mono ?_;rintro r u ⟨rfl,e⟩;have V:=aA e;have e6:=aC e S;have b4:=aA (bK M.o e (zz _));have e1:=e.size;clear e)
      |(go_at_call 42;refine (U.o _ (X.o.below ((Below.refl _ _).alloc (zz _) _) (zz _))).mono ?_;rintro r m ⟨l,c,i,rfl,a⟩;have g:=a.val;subst g;have S:=aC a.low a0.o;have A:=aA a;have J:=aA (p.o.low.trans (((Below.refl wr.heap.size wr).alloc (zz _) (.cells #[.int .i64 j,.slice n b.length q] 95)).mono b0 |>.trans (a.low.mono (by simp;omega))));have M:=aA (bK (Y.o.alloc _) a.low (zz _));have F:=a.low.size;simp at F;clear a)
      |go_in)
     go_quiet (fail);go_wp2;go_returns;exact ⟨_,[],j,4,rfl,W.o,lD.nil _ _,(J.o.trans (V.o.mono (by omega))).trans ((aR ⟨_,rfl⟩).mono (by omega))⟩
    |true=>
     have x:=aA (λwx c (f:cH wx (some ⟨c,0,none⟩) (aV b))=>wI (some ⟨c,0,none⟩) (aV b).length (aV b) wx f);rw [hfit] at x;have d0:=aA (λm u R l b2 c i Z a1 a e a8 a5=>L.o m u R l b2 c i Z a1 a e ⟨d5,hfit⟩ a8 a5);clear L y hfit;go_wp2_with (first
      |(at_builtin;refine wpList_append_own _ rfl (.tmp 28) (.tmp 30) 44 rfl w.heap.size 51 e2 (.slice none 0 0) 1 24 Tryz.underlying44 d6 d7 d8 d9 rfl (by decide) _ _ _ rfl (b4.o.alloc _) ⟨_,0,none⟩ 1 1 [.slice (some ⟨c,0,none⟩) (aV b).length (aV b).length] rfl rfl (tU u _ _ _ rfl) (by intro f3 c4;simp at c4;subst c4;rfl) (by unfold maxLen;omega) (by omega) (by simp;omega) ?_;intro f4 R c1 b9 _;have c9:=aA (d0.o _ _ _ _ _ _ _ _ _ A.o V.o c1 b9);clear c1 b9)
      |(go_at_call 35;refine (x.o _ c (b3.o _ _ _ _ _ A.o)).mono ?_;rintro r u ⟨rfl,e⟩;have V:=aA e;have e6:=aC e S;have b4:=aA (bK M.o e (zz _));have e1:=e.size;clear e)
      |(go_at_call 42;refine (U.o _ (X.o.below ((Below.refl _ _).alloc (zz _) _) (zz _))).mono ?_;rintro r m ⟨l,c,i,rfl,a⟩;have g:=a.val;subst g;have S:=aC a.low a0.o;have A:=aA a;have J:=aA (p.o.low.trans (((Below.refl wr.heap.size wr).alloc (zz _) (.cells #[.int .i64 j,.slice n b.length q] 95)).mono b0 |>.trans (a.low.mono (by simp;omega))));have M:=aA (bK (Y.o.alloc _) a.low (zz _));have F:=a.low.size;simp at F;clear a)
      |go_in)
     go_roundw;case rel=>exact ⟨k+1,_,by go_num,c9.o⟩
     case measure=>simp [intOf];omega
   ·have W:=aA (y.o (z5 (by omega)));clear L y;go_wp2_with (first
     |(go_at_call 42;refine (U.o _ (X.o.below ((Below.refl _ _).alloc (zz _) _) (zz _))).mono ?_;rintro r m ⟨l,c,i,rfl,a⟩;have g:=a.val;subst g;have S:=aC a.low a0.o;have A:=aA a;have J:=aA (p.o.low.trans (((Below.refl wr.heap.size wr).alloc (zz _) (.cells #[.int .i64 j,.slice n b.length q] 95)).mono b0 |>.trans (a.low.mono (by simp;omega))));have M:=aA (bK (Y.o.alloc _) a.low (zz _));have F:=a.low.size;simp at F;clear a)
     |go_in)
    go_quiet (fail);go_wp2;go_returns;exact ⟨_,[],j,4,rfl,W.o,lD.nil _ _,J.o.trans ((aR ⟨_,rfl⟩).mono (by omega))⟩
  ·have c0:k=CV.length:=by omega
   have c8:aM (aA2 (CV.map jK) (QV.map λG=>G.1.map zy) 0 0):=aA (za ⟨λc6 a6=>d.good c6 a6 (by simp at a6;omega),by rw [d.made,c0,zo,List.map_map];rfl,rfl,rfl⟩);have p:=aA d;clear d c0;go_wp2;go_returns;exact ⟨_,QV,0,0,rfl,c8.o,p.o.mem,p.o.low⟩
end
def gY:Nat->List Nd->List Us
 |_,[]=>[]
 |k,n::r=>lV k n++gY (k+1) r
theorem aHr(b c:List Nd):∀a,gY a (b++c)=gY a b++gY (a+b.length) c:=by
 induction b with
 |nil=>intro a;simp [gY]
 |cons x r ih=>intro a;simp only [zc,gY,ih,zw,z3];rw [show a+1+r.length=a+(r.length+1) by omega]
theorem aRj(b:List Nd):∀a,a<=b.length->jY b a=gY 0 (b.take a):=by
 intro a;induction a with
 |zero=>intro _;simp [jY,gY]
 |succ a ih=>
  intro c;rw [aKm b a c,ih (by omega),zx c,aHr];simp [gY,Nat.min_eq_left (show a<=b.length by omega)]
theorem aRk(b:List Lt):∀a,a<=b.length->nY b a=(b.take a).flatMap λd=>gY 0 d.2:=by
 intro a;induction a with
 |zero=>intro _;simp [nY]
 |succ a ih=>
  intro c;rw [aDx b a c,ih (by omega),zx c,zm,zt,aRj _ _ (zz _),zo]
theorem uA(a:List Lt):pR a=a.flatMap λb=>gY 0 b.2:=by unfold pR;rw [aRk a _ (zz _),zo]
def nL(c:Nat)(b:List Nd):Prop:=∀a∈b,aK a=true->0<=a.2/\a.2<=c
theorem nL.mono{m b:Nat}{a:List Nd}(c:nL m a)(f:m<=b):nL b a:=λn d e=>by have:=c n d e;omega
theorem nL.append{a:Nat}{b c:List Nd}(e:nL a b)(f:nL a c):nL a (b++c):=λd hn=>by
 rcases zv.1 hn with hn|hn
 ·exact e d hn
 ·exact f d hn
theorem aHs(a:List ByteArray)(b:ByteArray):0<=jZ a b/\jZ a b<=(kP a b).length:=by
 have:=aWp a b;unfold jZ kP;split
 ·simp;omega
 ·omega
theorem aHt{b:Type}(d:b->b)(e:b)(c:List b):∀a:List b,(a++[e]++c).modify a.length d=a++[d e]++c:=by
 intro a;induction a with
 |nil=>rfl
 |cons x r ih=>simp only [zc,z3,List.modify_succ_cons,ih]
theorem aHu(b c:List Pl)(a:Pl)(d:Nat):pT (b++[a]++c) b.length d=b++[(a.1,a.2.1,(d:Int),a.2.2.2)]++c:=aHt _ _ _ _
theorem aHv(a b:List Nd)(d:Nd)(c:Nat):dR (a++[d]++b) a.length c=a++[(d.1,(c:Int))]++b:=aHt _ _ _ _
structure aHw(st st':bC)(l l':List Nd)(Q:List Pl)(M:List Nd):Prop where
 pl:st'.pz=st.pz++Q
 nd:l'=l++M
 us:Q.map jP=gY l.length M
 vs:nL st'.vars.length M
 ps:∀p∈Q,0<=p.2.2.2
theorem aRl(I:∀A,(aJ T A).kind=110->(aJ T A).txt.toList.isEmpty=false):∀j,(∀i b c e d,cJ T j i b c=.ok (e,d)->i=decide (c.length=0)->∃g f,aHw b e c d g f)/\
  (∀b c k e d q,dS T j b c k=.ok (e,d,q)->0<c.length->∃g f,aHw b e c d g f):=by
 intro j;induction j with
 |zero=>exact ⟨λi b c e d a=>by simp [cJ] at a,λb c k e d q a=>by simp [dS] at a⟩
 |succ j ih=>
  obtain ⟨Q,C⟩:=ih;constructor
  ·intro i b c e d a J;rw [cJ] at a;split at a
   ·simp only [Except.ok.injEq,Prod.mk.injEq] at a;obtain ⟨rfl,rfl⟩:=a;refine ⟨[],[(⟨#[]⟩,jZ b.vars (aJ T b.i).txt)],by simp,rfl,?_,?_,λo hp=>by simp at hp⟩
    ·simp [gY,lV,aK]
    ·intro k hn _;simp at hn;subst hn;exact aHs _ _
   ·split at a
    ·simp at a
    ·rename_i u;simp only [ne_eq,Decidable.not_not] at u;have v:=I _ u;have y:∀n:Int,lV c.length ((aJ T b.i).txt,n)=[((aJ T b.i).txt,i,n)]:=by
      intro n;unfold lV aK;simp only;rw [v,J];rfl
     have z:∀n:Int,aK ((aJ T b.i).txt,n)=false:=λn=>v
     split at a
     ·split at a
      ·simp at a
      ·rename_i R D E O;simp only [Except.ok.injEq,Prod.mk.injEq] at a;obtain ⟨rfl,rfl⟩:=a;obtain ⟨g,f,hp⟩:=C _ _ _ _ _ _ O (by simp);have x:=hp.pl;have M:=hp.nd;have P:=hp.us;have N:=hp.ps;simp only at x;refine ⟨((aJ T b.i).txt,i,(E:Int),((aJ T b.i).pos:Int))::g,((aJ T b.i).txt,(E:Int))::f,?_,?_,?_,?_,λo hp=>?_⟩
       ·simp only;rw [x,aHu];simp
       ·rw [M,aHv];simp
       ·rw [List.map_cons,P,gY,y];simp [jP]
       ·intro k hn m;rcases ze.1 hn with rfl|hn
        ·rw [z] at m;cases m
        ·exact hp.vs k hn m
       ·rcases ze.1 hp with rfl|hp
        ·simp
        ·exact N o hp
     ·simp only [Except.ok.injEq,Prod.mk.injEq] at a;obtain ⟨rfl,rfl⟩:=a;refine ⟨[((aJ T b.i).txt,i,0,((aJ T b.i).pos:Int))],[((aJ T b.i).txt,0)],rfl,rfl,?_,?_,λo hp=>by simp at hp;subst hp;simp⟩
      ·rw [gY,y];rfl
      ·intro k hn m;simp at hn;subst hn;rw [z] at m;cases m
  ·intro b c k e d q a S;rw [dS] at a;split at a
   ·simp at a
   ·rename_i R D hp;obtain ⟨g,f,l⟩:=Q _ _ _ _ _ hp (gB (by omega)).symm;have U:=(wR T j).1 _ _ _ _ _ hp;have r:=l.pl;have t:=l.nd;have F:=l.us;simp only at r;split at a
    ·have L:0<D.length:=by omega
     have V:=(wR T j).2 _ _ _ _ _ _ a;obtain ⟨H,G,p⟩:=C _ _ _ _ _ _ a L;refine ⟨g++H,f++G,?_,?_,?_,?_,λo hp=>(zv.1 hp).elim (l.ps o) (p.ps o)⟩
     ·rw [p.pl,r,zw]
     ·rw [p.nd,t,zw]
     ·rw [zu,F,p.us,aHr,t,zs]
     ·exact (l.vs.mono (by omega)).append p.vs
    ·split at a
     ·simp only [Except.ok.injEq,Prod.mk.injEq] at a;obtain ⟨rfl,rfl,rfl⟩:=a;exact ⟨g,f,r,t,F,l.vs,l.ps⟩
     ·simp at a
theorem aRm(A:∀u,(aJ T u).kind=110->(aJ T u).txt.toList.isEmpty=false):∀k a f c i,fS T k a f=.ok (c,i)->(∀d∈f,nL a.vars.length d.2)->∃e n,c.pz=a.pz++e/\i=f++n/\e.map jP=pR n/\(∀d∈i,nL c.vars.length d.2)/\a.vars.length<=c.vars.length/\a.i<=c.i/\c.vars.length+a.i<=a.vars.length+c.i/\∀j∈e,0<=j.2.2.2:=by
 intro k;induction k with
 |zero=>intro a f c i b;simp [fS] at b
 |succ k ih=>
  intro a f c i b E;cases hq:cJ T (T.length+1) true (kS T a) [] with
  |error j=>rw [aEv hq] at b;simp at b
  |ok r=>
   obtain ⟨x,m⟩:=r;obtain ⟨Q,R,F,G⟩:=aEy T a;obtain ⟨e,P,g⟩:=(aRl A (T.length+1)).1 _ _ _ _ _ hq rfl;have C:=(wR T (T.length+1)).1 _ _ _ _ _ hq;have l:=g.pl;have p:=g.nd;have q:=g.us;rw [G] at l;rw [F] at C;simp only [zg] at p;subst p;have t:∀d∈f++[(decide ((aJ T a.i).kind=126),m)],nL x.vars.length d.2:=by
    intro d hx;rcases zv.1 hx with hx|hx
    ·exact (E d hx).mono (by omega)
    ·simp at hx;subst hx;exact g.vs
   by_cases o:(aJ T x.i).kind=124
   ·rw [aEw hq o] at b;obtain ⟨z,y,v,H,I,J,L,M,N,O⟩:=ih _ _ _ _ b t;simp only at v L M N;refine ⟨e++z,(decide ((aJ T a.i).kind=126),m)::y,?_,?_,?_,J,by omega,by omega,by omega,λj D=>(zv.1 D).elim (g.ps j) (O j)⟩
    ·rw [v,l,zw]
    ·rw [H,zw];rfl
    ·rw [zu,q,I,uA,uA,zr];rfl
   ·rw [aEx hq o] at b;simp only [Except.ok.injEq,Prod.mk.injEq] at b;obtain ⟨rfl,rfl⟩:=b;refine ⟨e,[(decide ((aJ T a.i).kind=126),m)],l,rfl,?_,t,by omega,by omega,by omega,g.ps⟩;rw [q,uA,zt];rfl
theorem aRn(l:∀j,(aJ T j).kind=110->(aJ T j).txt.toList.isEmpty=false){g i:bC}{e:List Lt}(a:kQ T g=.ok (i,e)):∃b,i.pz=g.pz++b/\b.map jP=pR e/\(∀d∈e,nL i.i d.2)/\∀f∈b,0<=f.2.2.2:=by
 unfold kQ at a;cases hq:lJ T g with
 |error f=>rw [hq] at a;simp at a
 |ok r=>
  obtain ⟨z,v⟩:=r;rw [hq] at a;simp only at a;split at a
  ·simp only [Except.ok.injEq,Prod.mk.injEq] at a;obtain ⟨rfl,rfl⟩:=a;unfold lJ at hq;split at hq
   ·simp only [Except.ok.injEq,Prod.mk.injEq] at hq;obtain ⟨rfl,rfl⟩:=hq;exact ⟨[],by simp,rfl,λd c=>by simp at c,λf m=>by simp at m⟩
   ·obtain ⟨b,u,n,k,o,p,x,y,q,t⟩:=aRm l _ _ _ _ _ hq (λd c=>by simp at c);simp only [zg] at k;subst k;simp only [List.length_nil] at q;exact ⟨b,n,o,λd c=>(p d c).mono (by simp;omega),t⟩
  ·simp at a
structure aHx(T:List Tk)(c:List Lt):Prop where
 short:∀x∈c,eF x.2
 count:aS c<=T.length
 len:c.length<=T.length
 vars:∀x∈c,nL T.length x.2
theorem aHy{l:List Tk}{q:Int}(u:TL l T q)(k:yY l T)(t:∀o,(aJ T o).kind=110->(aJ T o).txt.toList.isEmpty=false):∀j c g d i,iD T j c g=.ok (d,i)->c.i<T.length->∃f e,d.pz=c.pz++f/\i=g++e/\f.map jP=(e.flatMap λa=>pR a.2)/\(∀a∈e,aHx T a.2)/\d.i<T.length/\c.i+e.length<=d.i/\d.pz.length+c.i<=c.pz.length+d.i/\∀a∈f,0<=a.2.2.2:=by
 intro j;induction j with
 |zero=>intro c g d i b;simp [iD] at b
 |succ j ih=>
  intro c g d i b m;rw [iD] at b;split at b
  ·simp only [Except.ok.injEq,Prod.mk.injEq] at b;obtain ⟨rfl,rfl⟩:=b;exact ⟨[],[],by simp,by simp,rfl,λa hp=>by simp at hp,m,by simp,by omega,λa hp=>by simp at hp⟩
  ·split at b
   ·simp at b
   ·rename_i S r n;obtain ⟨v,N,x,y,z,O,P⟩:=aGz u k n m;obtain ⟨f,A,C,D,E⟩:=aRn t n;obtain ⟨p,e,F,G,H,I,J,Q,R,L⟩:=ih _ _ _ _ b x;refine ⟨f++p,((aJ T c.i).pos,r)::e,?_,?_,?_,?_,J,by simp;omega,by omega,λa hp=>(zv.1 hp).elim (E a) (L a)⟩
    ·rw [F,A,zw]
    ·rw [G,zw];rfl
    ·rw [zu,C,H,zr]
    ·intro a hp;rcases ze.1 hp with rfl|hp
     ·exact ⟨v,y,z,λM k=>(D M k).mono (by omega)⟩
     ·exact I a hp
theorem aHz{a:ByteArray}(b:0<a.size):a.toList.isEmpty=false:=by
 cases he:a.toList.isEmpty with
 |false=>rfl
 |true=>
  rw [List.isEmpty_iff] at he;have:a=⟨#[]⟩:=zW.1 (by rw [he];simp);subst this;rw [wY] at b;omega
theorem aI0{b:ByteArray}(a:eS b=true):0<b.size:=by
 rcases Nat.eq_zero_or_pos b.size with hx|hx
 ·unfold eS at a;rw [aCc _ _ _ _ (by omega)] at a;simp at a
 ·exact hx
theorem aRo(s:ByteArray):∀b e f c d,fE s b e f=some (c,d)->0<c.size:=by
 intro b;induction b with
 |zero=>intro e f c d a;simp [fE] at a
 |succ b ih=>
  intro e f c d a;rw [fE] at a;split at a
  ·split at a
   ·split at a
    ·rename_i g;simp only [Option.some.injEq,Prod.mk.injEq] at a;rw [<-a.1];exact aI0 g
    ·simp at a
   ·split at a
    ·split at a
     ·exact ih _ _ _ _ a
     ·simp at a
    ·split at a
     ·simp at a
     ·exact ih _ _ _ _ a
  ·simp at a
theorem aRp{b f:Nat}{d:Tk}(j:b<s.size)(a:dQ s b=.tok d f)(c:d.kind=110):0<d.txt.size:=by
 unfold dQ at a;split at a
 ·rename_i k;split at a
  ·cases a
  ·simp only [Nx.tok.injEq] at a;rw [<-a.1];simp only;have i:=aCu k;have m:=yO j i;have g:=aE2 s (s.size-(b+1)) (b+1);have o:b+1<=eB s (b+1)/\(b+1<=s.size->eB s (b+1)<=s.size):=g;rw [m,ByteArray.size_extract];omega
 ·split at a
  ·split at a
   ·rename_i p n l;simp only [Nx.tok.injEq] at a;rw [<-a.1];exact aRo s _ _ _ _ _ l
   ·cases a
  ·split at a
   ·split at a
    ·simp only [Nx.tok.injEq] at a;rw [<-a.1] at c;simp at c
    ·cases a
   ·split at a
    ·rename_i e;simp only [Nx.tok.injEq] at a;rw [<-a.1] at c;simp only at c;rw [c] at e;simp [mQ] at e
    ·cases a
theorem aRq(s:ByteArray):∀a d,∀c∈(cD s a d).1,c.kind=110->0<c.txt.size:=by
 intro a;induction a with
 |zero=>intro d;simp [cD]
 |succ a ih=>
  intro d;rw [cD];split
  ·rename_i f;split
   ·exact ih _
   ·split
    ·exact ih _
    ·split
     ·rename_i c i b;intro g hu;rcases ze.1 hu with rfl|hu
      ·exact aRp f b
      ·exact ih _ g hu
     ·simp
  ·intro c b e;simp at b;rw [b] at e;simp at e
theorem aI1(s:ByteArray)(c e:Nat)(a:(aJ (dB s c) e).kind=110):(aJ (dB s c) e).txt.toList.isEmpty=false:=by
 refine aHz ?_;have g:∀d∈dB s c,d.kind=110->0<d.txt.size:=by
  intro d ht;unfold dB eE at ht;rcases zv.1 ht with ht|ht
  ·exact aRq s _ _ d ht
  ·generalize (cD s (s.size+1-c) c).2=b at ht;cases b with
   |none=>simp at ht
   |some p=>
    simp at ht;rw [ht];intro a;simp at a
 unfold aJ at a ⊢;by_cases f:e<(dB s c).length
 ·rw [zf,zd f,Option.getD_some] at a ⊢;exact g _ (zp _) a
 ·rw [zf,List.getElem?_eq_none (by omega)] at a;exact absurd a (by decide)
theorem aRr{a:TypeId}{i e b d c:Nat}{j:List Value}(f:w.ownsRow B a i (.slice (some ⟨e,0,none⟩) b c) d j):b=d/\b<=c:=by
 obtain ⟨_,⟨a,_⟩|⟨m,k,l,a,_,_,g,_⟩⟩:=f
 ·cases a
 ·cases a;exact ⟨rfl,g⟩
theorem aRs{a:World}{c b:Nat}(m:0<(bY s 0).length)(f:a.ownsRow w.heap.size 120 2 (.slice (some ⟨c,0,none⟩) (bY s 0).length b) (bY s 0).length (nZ (bY s 0)))(i:aB w a):∃k g,bN w.heap.size (a.alloc (.cells #[.slice (some ⟨c,0,none⟩) (bY s 0).length b,.int .i32 0,.int .i64 0,.string ⟨#[]⟩,.slice none 0 0,.slice none 0 0,.map none] 65)) a.heap.size s 0 c 0 k g 0 0 ⟨#[]⟩ (.slice none 0 0) (.slice none 0 0) (.map none):=by
 obtain ⟨_,l⟩:=aRr f;have d:(bY s 0).length-1+1=(bY s 0).length:=by omega
 have e:b-1+1=b:=by omega
 have j:=i.size;refine ⟨(bY s 0).length-1,b-1,⟨?_,j,?_,by omega,rfl,zq _⟩⟩
 ·rw [d,e];unfold bQ;show (a.heap.push _)[a.heap.size]?=_;simp
 ·rw [z1,z1,d,e];exact bK f ((Below.refl a.heap.size a).alloc (zz _) _) (zz _)
theorem aRt(s:ByteArray)(w:World)(n:s.size<=3000):Calls zj 23 #[.string s] w λc r=>∃d a,c=.returned (.pointer (some ⟨d,0,none⟩))/\aB w r/\sN w.heap.size r d s (dB s 0) ⟨0,[],[]⟩ a (.slice none 0 0) (.slice none 0 0) []:=by
 have u:=aA (aWe s w n);have e:=aA (λ(z:World) (d a q j:Nat) (C:bN w.heap.size z d s 0 a 0 q j 0 0 ⟨#[]⟩ (.slice none 0 0) (.slice none 0 0) (.map none))=>(aGu (s.size+1) C n (by omega)).mono λc H G=>aHh (T:=dB s 0) (i:=0) (zq _) (by omega) rfl G);have E:0<(bY s 0).length:=(aAu s s.size 0 (by omega)).1;generalize aJ (dB s 0) 0=t at e;obtain ⟨O,Q,P⟩:=t;simp only at e;go_enter Tryz.func23,Tryz.ntmps23;go_wp2_with (first
  |(go_at_call 38;refine (aD u).mono ?_;rintro c H ⟨a,A,rfl,m,f⟩;obtain ⟨q,j,o⟩:=aRs E m f;have g:=aA f;have y:=aA o;clear m f o)
  |(go_at_call 39;refine (e.o _ _ _ _ _ y.o).mono ?_;rintro c R ⟨rfl,l,⟨left,b⟩,k⟩;have I:=b.c1;have J:=b.c2;have L:=b.c3;have M:=b.soft;have v:=aA l;have x:=aA k;clear l k b)
  |go_in)
 go_ret;refine ⟨_,a,rfl,?_,⟨_,x.o⟩,zk _ _ _ _,zk _ _ _ _,λN F=>by simp at F⟩;have p:=g.o.size;have D:=g.o.alloc p (.cells #[.slice (some ⟨a,0,none⟩) (bY s 0).length A,.int .i32 0,.int .i64 0,.string ⟨#[]⟩,.slice none 0 0,.slice none 0 0,.map none] 65);exact D.grown (rS (rS (rS v.o _) _) _) (by simp;omega) (by simpa using p)
def RdQ(s:ByteArray)(w:World)(f:Ending)(e:World):Prop:=
 ∃d a b c,f=.returned (.tuple #[d,.int .i64 b,.int .i64 c])/\nF s (a.map λg=>g.1.map zy) b c/\lD w.heap.size e d a/\aB w e
theorem lD.mono{d:Nat}{v:Value}{e:List (List (Lt×Value)×Value)}(a:lD B w v e)(b:d<=B):lD d w v e:=
 ⟨⟨iP a.mem.1 b,λp c=>⟨⟨iP (a.mem.2 p c).1.1 b,λg f=>iP ((a.mem.2 p c).1.2 g f) b⟩,(a.mem.2 p c).2⟩⟩,a.once,a.atoms⟩
theorem aD2(e:List Pl)(d:Nat):tB (e.map jP) d↔∀c g,c<d->¬oT e c g:=by
 constructor
 ·intro h c g q a;obtain ⟨l,i⟩:=h c (by simpa using g) q;simp only [zh,jP] at l i;rcases a with a|⟨b,f,m,n⟩
  ·omega
  ·have:=i b f m;simp at this;rcases n with h|h
   ·exact h this.1
   ·exact h this.2
 ·intro h b f p;have o:b<e.length:=by simpa using f
  have a:=h b o p;simp only [oT,not_or,not_exists] at a;refine ⟨by simp [jP];omega,λd r k=>?_⟩;have j:=a.2 d r;simp only [zh,jP] at k ⊢;simp only [aAz,not_and,not_or,Decidable.not_not] at j;have:=j k;rw [this.1,this.2]
theorem aRv{a:List Pl}{f:Int}(l:tC (a.map jP) f):(f=-1/\wO a (-1))\/∃b,∃i:b<a.length,f=b/\wO a a[b].2.2.2:=by
 rcases l with ⟨rfl,p⟩|⟨b,i,rfl,d,g⟩
 ·refine z5 ⟨rfl,z5 ⟨rfl,λe c=>?_⟩⟩;exact (aD2 a a.length).1 (λe c _=>p e c) e c c
 ·have j:b<a.length:=by simpa using i
  rw [aD2 a b] at d;rw [aD2 a (b+1)] at g;refine za ⟨b,j,rfl,za ⟨b,j,?_,d,rfl⟩⟩;refine Classical.byContradiction λo=>g λk m q=>?_
  by_cases n:k=b
  ·subst n;exact o
  ·exact d k m (by omega)
theorem aRw(a:List Pl)(b:Nat)(c:b<a.length):(nK a)[b]?=some (.int .i64 a[b].2.2.2):=by unfold nK;rw [List.getElem?_map,zd c];rfl
theorem aRx(a:List Pc):fM a=(a.map jK).flatMap λb=>pR b.2:=by
 unfold fM;induction a with
 |nil=>rfl
 |cons x r ih=>rw [zr,ih,List.map_cons,zr];rfl
theorem aRy(S:s.size<=3000){f:bC}{q:List (Nat×List Lt)}(y:iD (dB s 0) ((dB s 0).length+1) ⟨0,[],[]⟩ []=.ok (f,q))(z:0<(dB s 0).length)(m:(dB s 0).length<=3002){b:List Pc}(l:b.map jK=q):fM b=f.pz.map jP/\(∀a∈b,aD0 a)/\(∀a∈b,∀e∈a.1.2,wE e.1.2)/\b.length<=3002/\f.pz.length<=3002/\(∀a∈f.pz,0<=a.2.2.2)/\∀d∈fM b,d.1.size<=1000000:=by
 obtain ⟨Q,x,p,k,I,J,L,M,N,O⟩:=aHy (aEt s (by omega)) (aBb s (by omega)) (aI1 s 0) _ _ _ _ _ y z;simp only [zg] at p k;simp only [List.length_nil,z1,Nat.add_zero] at M N;change f.i<(dB s 0).length at L;have g:∀a∈b,aHx (dB s 0) (a.1.2.map zy):=λa c=>J (jK a) (by rw [<-k,<-l];exact zn.2 ⟨a,c,rfl⟩)
 have R:b.length=x.length:=by rw [<-k,<-l];simp
 have hu:fM b=f.pz.map jP:=by rw [aRx,l,k,p,I]
 refine ⟨hu,λa c=>⟨λe n=>(g a c).short e.1 (zn.2 ⟨e,n,rfl⟩),by have:=(g a c).count;omega,by have:=(g a c).len;simp at this;omega⟩,λa c e n i A E=>?_,by omega,by omega,by rw [p];exact O,?_⟩
 ·have:=(g a c).vars e.1 (zn.2 ⟨e,n,rfl⟩) i A E;omega
 ·intro d t;unfold fM at t;obtain ⟨a,c,u⟩:=zi.1 t;rw [uA] at u;obtain ⟨v,F,D⟩:=zi.1 u;have C:=(g a c).short v F;have H:∀(j:List Nd) o,(∀i∈j,i.1.size<=1000000)->∀d∈gY o j,d.1.size<=1000000:=by
   intro j;induction j with
   |nil=>intro o _ d hu;simp [gY] at hu
   |cons i r ih=>
    intro o m d hu;rw [gY] at hu;rcases zv.1 hu with hu|hu
    ·unfold lV at hu;split at hu
     ·simp at hu
     ·simp at hu;subst hu;exact m i (List.mem_cons_self ..)
    ·exact ih _ (λP G=>m P (List.mem_cons_of_mem _ G)) d hu
  exact H v.2 0 C d D
theorem aI2(s:ByteArray)(w:World)(f3:s.size<=140737488355328):Calls zj 18 #[.string s] w λc e6=>RdQ s w c e6:=by
 by_cases d1:3000<s.size
 ·have d4:(3000:Int)<(s.size:Int):=by omega
  go_enter z4,z2;go_wp2;go_returns;exact ⟨_,[],0,1,rfl,z5 ⟨d1,rfl,rfl,rfl⟩,lD.nil _ _,Below.refl _ _⟩
 ·have d4:¬(3000:Int)<(s.size:Int):=by omega
  have i:s.size<=3000:=by omega
  have d5:(dB s 0).length<=3002:=by have:=aM1 s (s.size+1) 0;show (eE (cD s (s.size+1) 0)).length<=3002;unfold eE;split<;>simp<;>omega
  have C:=aA (aRt s w i);have v:=(aBb s (by omega)).small;have a9:=aEt s (by omega);have b2:=aBb s (by omega);have j:=aA (λA M F (G:sN w.heap.size A M s (dB s 0) ⟨0,[],[]⟩ F (.slice none 0 0) (.slice none 0 0) []) (d2:w.heap.size<=A.heap.size)=>aQq (λd9=>aQu s 0 d9) v i (by omega) (λz g2 e8 a d6=>by have:=aGz a9 b2 a d6;omega) G d2 (zq _) (zq _));have l:aM (uQ s=iD (dB s 0) ((dB s 0).length+1) ⟨0,[],[]⟩ []):=aA rfl;clear v a9 b2;cases a:iD (dB s 0) ((dB s 0).length+1) ⟨0,[],[]⟩ [] with
  |error p=>
   rw [List.map_nil,a] at j;rw [a] at l;clear a;go_enter z4,z2;go_wp2_with (first
    |(go_at_call 24;refine (j.o _ _ _ t.o f.o.size).mono ?_;rintro c N ⟨o,f5,e3,e5,e4,rfl,a7,a8⟩;obtain ⟨e0,a1,_⟩:=a7.box;have c8:=a1.c2;rw [a8] at c8;have m:=aA (f.o.trans o);clear o a7 a8 a1)
    |(go_at_call 23;refine (aD C).mono ?_;rintro c A ⟨M,F,rfl,n,r⟩;have f:=aA n;have t:=aA r;clear n r)
    |go_in)
   go_quiet (fail);go_wp2;go_returns;refine ⟨_,[],p,2,rfl,za ⟨i,?_⟩,lD.nil _ _,bD m.o (aR ⟨_,rfl⟩)⟩;rw [l.o];exact ⟨rfl,rfl,rfl⟩
  |ok y=>
   obtain ⟨z,c7⟩:=y;rw [List.map_nil,a] at j;rw [a] at l;have R:=aA (λ(H:0<(dB s 0).length) (b:List Pc) (u:b.map jK=c7)=>aRy i a H d5 u);clear a;go_enter z4,z2;go_upto_region 6 with (first
    |(go_at_call 24;refine (j.o _ _ _ t.o f.o.size).mono ?_;rintro c N ⟨o,e3,e5,b,rfl,b0,u⟩;have m:=aA (f.o.trans o);have g:=aA b0;have Q:=aA u;clear o b0 u)
    |(go_at_call 23;refine (aD C).mono ?_;rintro c A ⟨M,F,rfl,n,r⟩;have f:=aA n;have t:=aA r;clear n r)
    |go_in)
   clear C j;obtain ⟨e4,J⟩:=g.o.pp;obtain ⟨e0,I,f2⟩:=J.box;have E:=I.c4;have W:=I.c5;obtain ⟨x,L,b4,f6,f7,b5,b6⟩:=R.o (Nat.lt_of_le_of_lt (zq _) J.lt) b Q.o;have P:=aA (aRe g.o.cs E L (by omega) (by rw [x];simp;omega));have O:=aA (λwx (v:aB N wx)=>aRi (g.o.cs.below v) L b4 (by omega));obtain ⟨g5,g6,d8⟩:=aZ g.o.cs.row;obtain ⟨f8,f9,d7⟩:=aZ g.o.pz;have S:=aA g.o.pz;subst d8;subst d7;have c3:aM (fM b=z.pz.map jP):=aA x;have c1:=aA b5;have d3:(fM b).length<=1000000:=by rw [x];simp;omega
   have X:∀k (G:k<(fM b).length),(fM b)[k].1.size<=140737488355328:=λk G=>Nat.le_trans (b6 _ (zp _)) (by omega)
   have c4:=aA X;have b3:=m.o.size;clear x L b4 b5 b6 X R I J t f;go_upto_region 7 with (first
    |(go_at_call 25;refine (aVv e1 e2 (fM b) e7 c2.o).mono ?_;rintro c g7 ⟨g1,rfl,e,Z⟩;have U:=aA e;have d:=aA (bD b7.o Z);clear e Z)
    |(go_at_call 26;refine (aD P).mono ?_;rintro c e7 ⟨g3,rfl,a5,Y⟩;obtain ⟨e1,e2,rfl,b1⟩:=aVj a5 d3 c4.o;have c2:=aA b1;have b7:=aA Y;clear a5 Y b1)
    |go_in)
   have f4:=d.o.size;have e9:=aC d.o E;have f0:=aC d.o W;have e:=U.o;rw [c3.o] at e;clear U P E W;rcases aRv e with ⟨rfl,q⟩|⟨k,a3,rfl,q⟩
   ·have D:=aA q;clear e q;go_wp2_with (first
     |(go_at_call 27;refine (O.o _ d.o).mono ?_;rintro c g8 ⟨g4,c5,c6,c9,rfl,a4,a6,a0⟩;have b9:=aA a4;have c0:=aA a6;have b8:=aA a0;clear a4 a6 a0)
     |go_in)
    go_returns;refine ⟨_,c5,c6,c9,rfl,za ⟨i,?_⟩,c0.o.mono (by omega),m.o.trans ((d.o.mono b3).trans (b8.o.mono (by omega)))⟩;rw [l.o];refine ⟨-1,D.o,za ⟨by omega,?_⟩⟩;rw [<-Q.o];exact b9.o
   ·have D:=aA q;have H:=c1.o _ (zp a3);obtain ⟨d0,f1,a2⟩:=wX S.o (by omega);simp at a2;obtain ⟨rfl,rfl⟩:=a2;have V:N.cell? ⟨d0,k,none⟩=some (.int .i64 z.pz[k].2.2.2):=by rw [S.o.cellAt _ (by omega),aRw _ k a3]
    have g0:=aC d.o V;clear e q O V;generalize z.pz[k].2.2.2=pk at *;go_wp2;go_quiet (fail);go_wp2;go_returns;refine ⟨_,[],pk,3,rfl,za ⟨i,?_⟩,lD.nil _ _,(m.o.trans (d.o.mono b3)).trans ((aR ⟨_,rfl⟩).mono (by omega))⟩;rw [l.o];exact ⟨pk,D.o,z5 ⟨H,rfl,rfl,rfl⟩⟩
