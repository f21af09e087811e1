import Derived.Test.YthjhkgohninpcaaGreatDoorPUse0M
open List renaming append_assoc→zy,mem_append→zx,map_append→zw,take_succ_eq_append_getElem→zu,mem_map→zs,map_singleton→zr,flatMap_singleton→zq,flatMap_cons→zo,getElem_map→zn,getElem_mem→zm,getD_eq_getElem?_getD→zj,mem_cons→zh,getElem?_eq_getElem→zg,mem_flatMap→zf,take_length→ze,nil_append→zc,flatMap_append→za,length_append→z0,mem_filterMap→z1,nodup_append→z2,cons_append→z5,length_cons→z6
open Nat renaming le_refl→zz,zero_le→zk
open Or renaming inr→zb,inl→z4
open Prod renaming fst→zt
namespace Go.Proofs.YthjhkgohninpcaaGreatDoor
open _root_.Go.Proofs.Tryz renaming prog→zv,underlying9→zl,underlying109→zi,ntmps15→z3,func15→z7
open Go.RowKit Go.WideMaps Go.Shelf
set_option maxHeartbeats 4000000
set_option maxRecDepth 100000
variable{s:ByteArray}{T:List Tk}{U:List Us}{k:Nat}
def aPu(g:List Pc)(e:World)(i:Ending)(f:World):Prop:=
 ∃d a b c,i=.returned (.tuple #[d,.int .i64 b,.int .i64 c])/\tR (g.map jW) (a.map λj=>j.1.map zt) b c/\lL e.heap.size f d a/\aC e f
structure OLp(CV:List Pc)(w:World)(k:Nat)(v:Value)(wr:World)(QV:List (List (Lt×Value)×Value)):Prop where
 le:k<=CV.length
 made:QV.map (λp=>p.1.map zt)=(CV.take k).map λp=>aU (p.1.2.map zt)
 good:∀j h,j<k->¬jB (CV.map jW) j h
 mem:lL w.heap.size wr v QV
 low:aC w wr
theorem aH9{a:List Pc}(c:k<a.length)(b:k<(a.map jW).length):jB (a.map jW) k b↔(40<=k\/cD (aU (a[k].1.2.map zt))=false):=by unfold jB;rw [zn];exact Iff.rfl
theorem aPv{d:Type}{a:d->Option Nat}{c:List d}(b:(c.map a).Nodup):(c.filterMap a).Nodup:=by unfold List.Nodup at b ⊢;rw [List.pairwise_map] at b;refine List.Pairwise.filterMap a (λj l i m f n g e=>i ?_) b;subst e;rw [f,g]
section
variable {CV:List Pc}{w wr:World}{k:Nat}{v:Value}{QV:List (List (Lt×Value)×Value)}
theorem aHa{p e:World}{B:Nat}{d:List Lt}{j:Value}{o:Nat}{a:List (Lt×Value)}(b:wU p d j o a e)(l:B<=p.heap.size)(t:∀x∈d,dZ x.2)(A:aR d<=100000)(C:d.length<=100000):kZ e B (a,j)/\((∀c∈a,dZ c.1.2)/\aR (a.map zt)<=1000000/\a.length<=1000000)/\bD e (some ⟨o,0,none⟩) (aU d):=by
 obtain ⟨u,D,E⟩:=aDz d t;have r:a.length=(aU d).length:=by rw [<-b.made];simp
 have g:kZ e B (a,j):=by refine ⟨?_,λc f=>eJ (b.atoms c f) l⟩;rw [b.val,r];exact eJ b.row l
 have n:∀c∈a,dZ c.1.2:=λc f=>u c.1 (by rw [<-b.made];exact zs.2 ⟨c,f,rfl⟩)
 have m:aR (a.map zt)<=1000000:=by rw [b.made];omega
 refine ⟨g,⟨n,m,by omega⟩,?_⟩;obtain ⟨y,z,i,q⟩:=xB (P:=a) g.1 g.2 n m (by omega);rw [b.val] at i;simp at i;rw [<-b.made];rw [i.1];exact q
theorem aPw{w2 w3 w4:World}{c:List Lt}{vo v':Value}{nb:Nat}{Q:List (Lt×Value)}{X Y:Obj}(a:OLp CV w k v wr QV)(r:k<CV.length)(y:CV[k].1.2.map zt=c)(b:wU (wr.alloc X) c vo nb Q w2)(u:aC w2 w3)(M:∀W∈c,dZ W.2)(C:aR c<=100000)(G:c.length<=100000)(D:k<40/\cD (aU c)=true)(H:w4.ownsRow w.heap.size 41 1 v' (QV.length+1) (QV.map Prod.snd++[vo]))(g:(w3.alloc Y).grownBy w4 v.ownBlock):OLp CV w (k+1) v' w4 (QV++[(Q,vo)]):=by
 have P:=a.low.size;have A:=(Below.refl wr.heap.size wr).alloc (zz _) X;have R:=b.low.size;have S:=u.size;have t:aC w2 (w3.alloc Y):=u.alloc S Y;simp at R;have f:aC wr (w3.alloc Y):=(A.trans (b.low.mono (by simp))).trans (t.mono (by omega));have j:=bB a.mem.mem.1 f (zz _);obtain ⟨x,N,_⟩:=aHa (B:=w.heap.size) b (by simp;omega) M C G;have O:vo.ownBlock=some nb:=by rw [b.val];rfl
 have a0:wr.heap.size<nb+1:=by have:=(bL b.row nb rfl).1;simp at this;omega
 refine ⟨r,?_,λo E Z=>?_,⟨⟨?_,λl hp=>?_⟩,?_,?_⟩,?_⟩
 ·rw [zw,a.made,zr,zu r,zw,zr,b.made,y]
 ·by_cases F:o=k
  ·subst F;rw [aH9 r,y,D.2];rintro (h1|h1)
   ·omega
   ·simp at h1
  ·exact a.good o E (by omega)
 ·rw [z0,zw,zr];exact H
 ·rcases zx.1 hp with hp|hp
  ·obtain ⟨h1,q⟩:=a.mem.mem.2 l hp;refine ⟨⟨?_,λm i=>?_⟩,q⟩
   ·have:=bB h1.1 f (zz _);exact this.kept g (bW this j (by decide))
   ·have:=bB (h1.2 m i) f (zz _);exact this.kept g (bW this j (by decide))
  ·simp at hp;subst hp;refine ⟨⟨?_,λm i=>?_⟩,N⟩
   ·have:=bB x.1 t (zz _);exact this.kept g (bW this j (by decide))
   ·have:=bB (x.2 m i) t (zz _);exact this.kept g (bW this j (by decide))
 ·rw [zw,zr,z2];refine ⟨a.mem.once,by simp,λp e z n=>?_⟩;simp at n;subst n;obtain ⟨l,hp,rfl⟩:=zs.1 e;rw [O];intro d;have:=(bL (a.mem.mem.2 l hp).1.1 nb d).2;omega
 ·rw [za,zq,z2];refine ⟨a.mem.atoms,aPv b.once,λp e z n=>?_⟩;obtain ⟨l,hp,e⟩:=zf.1 e;obtain ⟨m,i,J⟩:=z1.1 e;obtain ⟨V,I,L⟩:=z1.1 n;intro d;subst d;have h1:=(bL ((a.mem.mem.2 l hp).1.2 m i) p J).2;have q:=(bL (b.atoms V I) p L).1;simp at q;omega
 ·exact (a.low.trans (f.mono P)).grown g (by have:=f.size;omega) (λo d=>(bL j o d).1)
theorem aPx{c8:Nat}{c7:Value}(M:gA c8 w c7 CV)(c3:∀F∈CV,aDm F)(D:∀F∈CV,∀G∈F.1.2,wS G.1.2)(f0:CV.length<=1000000):Calls zv 28 #[c7] w λr e5=>aPu CV w r e5:=by
 obtain ⟨e3,d7,d8,d9,e0⟩:=info_parts aJ6;obtain ⟨f6,f7,rfl⟩:=aW M.row;have z:=aA M;have d2:=aA c3;have d3:=aA D;clear M c3 D;go_enter Tryz.func28,Tryz.ntmps28;go_wp2;go_loopw [5,11] (λe4 b1 wr=>∃(k:Nat) (QV:List (List (Lt×Value)×Value)),b1=.int .i64 k/\OLp CV w k e4 wr QV) (λ_ b1 _=>CV.length-(intOf b1).toNat);case atStart=>exact ⟨0,[],rfl,⟨zk _,rfl,λc6 M a6=>by omega,lL.nil _ _,Below.refl _ _⟩⟩
 case round=>
  obtain ⟨k,QV,rfl,d⟩:=hrel;have e9:=d.le;have b0:=d.low.size;obtain ⟨f2,f3,rfl⟩:=aW d.mem.mem.1;have e1:QV.length=k:=by have:=congrArg List.length d.made;simp at this;omega
  have f1:QV.length<=1000000:=by omega
  clear e1;by_cases t:k<CV.length
  ·have C:CV[k]∈CV:=zm _;have o:=d2.o _ C;obtain ⟨n,q,D,a7⟩:=xB (P:=CV[k].1.2) (z.o.each _ C).1 (z.o.each _ C).2 o.short (by have:=o.count;omega) (by have:=o.len;omega);obtain ⟨b8,e8,c5⟩:=qF z.o.row (by omega);simp at c5;obtain ⟨rfl,rfl⟩:=c5;have b5:w.cell? ⟨b8,k*2,none⟩=some (.int .i64 CV[k].1.1):=by rw [z.o.row.cellAt _ (by omega),(aAq CV k t).1]
   have b6:w.cell? ⟨b8,k*2+1,none⟩=some (.slice n CV[k].1.2.length q):=by rw [z.o.row.cellAt _ (by omega),(aAq CV k t).2,D]
   have d5:=aD d.low b5;have b7:=aD d.low b6;have N:=o.count;have B:=o.len;have c2:(CV[k].1.2.map zt).length=CV[k].1.2.length:=by simp
   rw [<-c2] at b7 B;have O:∀H∈CV[k].1.2.map zt,dZ H.2:=λH f=>by obtain ⟨G,a9,rfl⟩:=zs.1 f;exact o.short G a9
   have g:∀H∈CV[k].1.2.map zt,wS H.2:=λH f=>by obtain ⟨G,a9,rfl⟩:=zs.1 f;exact d3.o _ C G a9
   have a3:=aH9 t (by simpa using t);obtain ⟨b,a4⟩ : ∃b,CV[k].1.2.map zt=b:=⟨_,rfl⟩;obtain ⟨j,a2⟩ : ∃d4,CV[k].1.1=d4:=⟨_,rfl⟩;rw [a4] at b7 B N O g a3 a7;rw [a2] at d5;have y:aG (40<=k\/cD (aU b)=false->tR (CV.map jW) [] j 4):=aA λf=>z4 ⟨k,by simpa using t,a3.2 f,d.good,rfl,by rw [zn];simp [jW,a2],rfl⟩
   have J:=aA (λ(m u Q:World) (l b2:Value) (c:Nat) (i:List (Lt×Value)) (Z a1:Obj) a e hg a8 a5=>aPw (w2:=m) (w3:=u) (w4:=Q) (vo:=l) (v':=b2) (nb:=c) (Q:=i) (X:=Z) (Y:=a1) d t a4 a e O N B hg a8 a5);have S:=aA (λwx (f:bD wx n b)=>aI8 n q b wx f g N B);have b3:=aA (λ(e6 m:World) (l:Value) (c:Nat) (i:List (Lt×Value)) (a:wU e6 b l c i m)=>(aHa (B:=0) a (zk _) O N B).2.2);have X:=aA (a7.below d.low (zz _));have Y:=aA d.mem.mem.1;have p:=aA d;clear b5 b6 D o C c2 a3 a4 a2 d a7 O g;have a0:aG ((wr.alloc (.cells #[.int .i64 j,.slice n b.length q] 114)).cell? ⟨wr.heap.size,0,none⟩=some (.int .i64 j)):=aA (by simp);by_cases d6:k<40
   ·cases hfit:cD (aU b) with
    |false=>
     have W:=aA (y.o (zb hfit));have x:=aA (λwx c (f:bD wx (some ⟨c,0,none⟩) (aU b))=>yR (some ⟨c,0,none⟩) (aU b).length (aU b) wx f);rw [hfit] at x;clear J y hfit;go_wp2_with (first
      |(go_at_call 39;refine (x.o _ c (b3.o _ _ _ _ _ A.o)).mono ?_;rintro r u ⟨rfl,e⟩;have V:=aA e;have e7:=aD e R;have b4:=aA (bB L.o e (zz _));have e2:=e.size;clear e)
      |(go_at_call 53;refine (S.o _ (X.o.below ((Below.refl _ _).alloc (zz _) _) (zz _))).mono ?_;rintro r m ⟨l,c,i,rfl,a⟩;have g:=a.val;subst g;have R:=aD a.low a0.o;have A:=aA a;have I:=aA (p.o.low.trans (((Below.refl wr.heap.size wr).alloc (zz _) (.cells #[.int .i64 j,.slice n b.length q] 114)).mono b0 |>.trans (a.low.mono (by simp;omega))));have L:=aA (bB (Y.o.alloc _) a.low (zz _));have E:=a.low.size;simp at E;clear a)
      |go_in)
     go_quiet (fail);go_wp2;go_returns;exact ⟨_,[],j,4,rfl,W.o,lL.nil _ _,(I.o.trans (V.o.mono (by omega))).trans ((aL ⟨_,rfl⟩).mono (by omega))⟩
    |true=>
     have x:=aA (λwx c (f:bD wx (some ⟨c,0,none⟩) (aU b))=>yR (some ⟨c,0,none⟩) (aU b).length (aU b) wx f);rw [hfit] at x;have d1:=aA (λm u Q l b2 c i Z a1 a e a8 a5=>J.o m u Q l b2 c i Z a1 a e ⟨d6,hfit⟩ a8 a5);clear J y hfit;go_wp2_with (first
      |(at_builtin;refine wpList_append_own _ rfl (.tmp 28) (.tmp 30) 26 rfl w.heap.size 41 e3 (.slice none 0 0) 1 24 Tryz.underlying26 d7 d8 d9 e0 rfl (by decide) _ _ _ rfl (b4.o.alloc _) ⟨_,0,none⟩ 1 1 [.slice (some ⟨c,0,none⟩) (aU b).length (aU b).length] rfl rfl (nC u _ _ _ rfl) (by intro f4 c4;simp at c4;subst c4;rfl) (by unfold maxLen;omega) (by omega) (by simp;omega) ?_;intro f5 Q c1 b9 _;have d0:=aA (d1.o _ _ _ _ _ _ _ _ _ A.o V.o c1 b9);clear c1 b9)
      |(go_at_call 39;refine (x.o _ c (b3.o _ _ _ _ _ A.o)).mono ?_;rintro r u ⟨rfl,e⟩;have V:=aA e;have e7:=aD e R;have b4:=aA (bB L.o e (zz _));have e2:=e.size;clear e)
      |(go_at_call 53;refine (S.o _ (X.o.below ((Below.refl _ _).alloc (zz _) _) (zz _))).mono ?_;rintro r m ⟨l,c,i,rfl,a⟩;have g:=a.val;subst g;have R:=aD a.low a0.o;have A:=aA a;have I:=aA (p.o.low.trans (((Below.refl wr.heap.size wr).alloc (zz _) (.cells #[.int .i64 j,.slice n b.length q] 114)).mono b0 |>.trans (a.low.mono (by simp;omega))));have L:=aA (bB (Y.o.alloc _) a.low (zz _));have E:=a.low.size;simp at E;clear a)
      |go_in)
     go_roundw;case rel=>exact ⟨k+1,_,by go_num,d0.o⟩
     case measure=>simp [intOf];omega
   ·have W:=aA (y.o (z4 (by omega)));clear J y;go_wp2_with (first
     |(go_at_call 53;refine (S.o _ (X.o.below ((Below.refl _ _).alloc (zz _) _) (zz _))).mono ?_;rintro r m ⟨l,c,i,rfl,a⟩;have g:=a.val;subst g;have R:=aD a.low a0.o;have A:=aA a;have I:=aA (p.o.low.trans (((Below.refl wr.heap.size wr).alloc (zz _) (.cells #[.int .i64 j,.slice n b.length q] 114)).mono b0 |>.trans (a.low.mono (by simp;omega))));have L:=aA (bB (Y.o.alloc _) a.low (zz _));have E:=a.low.size;simp at E;clear a)
     |go_in)
    go_quiet (fail);go_wp2;go_returns;exact ⟨_,[],j,4,rfl,W.o,lL.nil _ _,I.o.trans ((aL ⟨_,rfl⟩).mono (by omega))⟩
  ·have c0:k=CV.length:=by omega
   have c9:aG (tR (CV.map jW) (QV.map λF=>F.1.map zt) 0 0):=aA (zb ⟨λc6 a6=>d.good c6 a6 (by simp at a6;omega),by rw [d.made,c0,ze,List.map_map];rfl,rfl,rfl⟩);have p:=aA d;clear d c0;go_wp2;go_returns;exact ⟨_,QV,0,0,rfl,c9.o,p.o.mem,p.o.low⟩
end
def kE:Nat->List Nd->List Us
 |_,[]=>[]
 |k,n::r=>nN k n++kE (k+1) r
theorem aHb(a b:List Nd):∀k,kE k (a++b)=kE k a++kE (k+a.length) b:=by
 induction a with
 |nil=>intro k;simp [kE]
 |cons x r ih=>intro k;simp only [z5,kE,ih,zy,z6];rw [show k+1+r.length=k+(r.length+1) by omega]
theorem aPy(a:List Nd):∀k,k<=a.length->kH a k=kE 0 (a.take k):=by
 intro k;induction k with
 |zero=>intro _;simp [kH,kE]
 |succ k ih=>
  intro b;rw [aIi a k b,ih (by omega),zu b,aHb];simp [kE,Nat.min_eq_left (show k<=a.length by omega)]
theorem aPz(a:List Lt):∀k,k<=a.length->nO a k=(a.take k).flatMap λc=>kE 0 c.2:=by
 intro k;induction k with
 |zero=>intro _;simp [nO]
 |succ k ih=>
  intro b;rw [aDk a k b,ih (by omega),zu b,za,zq,aPy _ _ (zz _),ze]
theorem aAb(a:List Lt):rA a=a.flatMap λb=>kE 0 b.2:=by unfold rA;rw [aPz a _ (zz _),ze]
def nG(c:Nat)(b:List Nd):Prop:=∀a∈b,aM a=true->0<=a.2/\a.2<=c
theorem nG.mono{m b:Nat}{a:List Nd}(c:nG m a)(f:m<=b):nG b a:=λn d e=>by have:=c n d e;omega
theorem nG.append{a:Nat}{b c:List Nd}(e:nG a b)(k:nG a c):nG a (b++c):=λd hn=>by
 rcases zx.1 hn with hn|hn
 ·exact e d hn
 ·exact k d hn
theorem aQ0(a:List ByteArray)(b:ByteArray):0<=lB a b/\lB a b<=(lA a b).length:=by
 have:=aVa a b;unfold lB lA;split
 ·simp;omega
 ·omega
theorem aHc{b:Type}(d:b->b)(e:b)(c:List b):∀a:List b,(a++[e]++c).modify a.length d=a++[d e]++c:=by
 intro a;induction a with
 |nil=>rfl
 |cons x r ih=>simp only [z5,z6,List.modify_succ_cons,ih]
theorem aQ1(b c:List Pl)(a:Pl)(d:Nat):jM (b++[a]++c) b.length d=b++[(a.1,a.2.1,(d:Int),a.2.2.2)]++c:=aHc _ _ _ _
theorem aQ2(a b:List Nd)(d:Nd)(c:Nat):dR (a++[d]++b) a.length c=a++[(d.1,(c:Int))]++b:=aHc _ _ _ _
structure aHd(st st':aY)(l l':List Nd)(Q:List Pl)(M:List Nd):Prop where
 pl:st'.pz=st.pz++Q
 nd:l'=l++M
 us:Q.map nQ=kE l.length M
 vs:nG st'.vars.length M
 ps:∀p∈Q,0<=p.2.2.2
theorem aQ3(H:∀A,(aH T A).kind=110->(aH T A).txt.toList.isEmpty=false):∀j,(∀i b c e d,cJ T j i b c=.ok (e,d)->i=decide (c.length=0)->∃g f,aHd b e c d g f)/\
  (∀b c l e d r,eA T j b c l=.ok (e,d,r)->0<c.length->∃g f,aHd b e c d g f):=by
 intro j;induction j with
 |zero=>exact ⟨λi b c e d a=>by simp [cJ] at a,λb c l e d r a=>by simp [eA] at a⟩
 |succ j ih=>
  obtain ⟨P,B⟩:=ih;constructor
  ·intro i b c e d a I;rw [cJ] at a;split at a
   ·simp only [Except.ok.injEq,Prod.mk.injEq] at a;obtain ⟨rfl,rfl⟩:=a;refine ⟨[],[(⟨#[]⟩,lB b.vars (aH T b.i).txt)],by simp,rfl,?_,?_,λp hp=>by simp at hp⟩
    ·simp [kE,nN,aM]
    ·intro l hn _;simp at hn;subst hn;exact aQ0 _ _
   ·split at a
    ·simp at a
    ·rename_i v;simp only [ne_eq,Decidable.not_not] at v;have w:=H _ v;have y:∀o:Int,nN c.length ((aH T b.i).txt,o)=[((aH T b.i).txt,i,o)]:=by
      intro o;unfold nN aM;simp only;rw [w,I];rfl
     have z:∀o:Int,aM ((aH T b.i).txt,o)=false:=λo=>w
     split at a
     ·split at a
      ·simp at a
      ·rename_i Q C D N;simp only [Except.ok.injEq,Prod.mk.injEq] at a;obtain ⟨rfl,rfl⟩:=a;obtain ⟨g,f,hp⟩:=B _ _ _ _ _ _ N (by simp);have x:=hp.pl;have L:=hp.nd;have O:=hp.us;have M:=hp.ps;simp only at x;refine ⟨((aH T b.i).txt,i,(D:Int),((aH T b.i).pos:Int))::g,((aH T b.i).txt,(D:Int))::f,?_,?_,?_,?_,λp hp=>?_⟩
       ·simp only;rw [x,aQ1];simp
       ·rw [L,aQ2];simp
       ·rw [List.map_cons,O,kE,y];simp [nQ]
       ·intro l hn n;rcases zh.1 hn with rfl|hn
        ·rw [z] at n;cases n
        ·exact hp.vs l hn n
       ·rcases zh.1 hp with rfl|hp
        ·simp
        ·exact M p hp
     ·simp only [Except.ok.injEq,Prod.mk.injEq] at a;obtain ⟨rfl,rfl⟩:=a;refine ⟨[((aH T b.i).txt,i,0,((aH T b.i).pos:Int))],[((aH T b.i).txt,0)],rfl,rfl,?_,?_,λp hp=>by simp at hp;subst hp;simp⟩
      ·rw [kE,y];rfl
      ·intro l hn n;simp at hn;subst hn;rw [z] at n;cases n
  ·intro b c l e d r a R;rw [eA] at a;split at a
   ·simp at a
   ·rename_i Q C hp;obtain ⟨g,f,m⟩:=P _ _ _ _ _ hp (dE (by omega)).symm;have S:=(tS T j).1 _ _ _ _ _ hp;have t:=m.pl;have u:=m.nd;have E:=m.us;simp only at t;split at a
    ·have J:0<C.length:=by omega
     have V:=(tS T j).2 _ _ _ _ _ _ a;obtain ⟨G,F,q⟩:=B _ _ _ _ _ _ a J;refine ⟨g++G,f++F,?_,?_,?_,?_,λp hp=>(zx.1 hp).elim (m.ps p) (q.ps p)⟩
     ·rw [q.pl,t,zy]
     ·rw [q.nd,u,zy]
     ·rw [zw,E,q.us,aHb,u,z0]
     ·exact (m.vs.mono (by omega)).append q.vs
    ·split at a
     ·simp only [Except.ok.injEq,Prod.mk.injEq] at a;obtain ⟨rfl,rfl,rfl⟩:=a;exact ⟨g,f,t,u,E,m.vs,m.ps⟩
     ·simp at a
theorem aQ4(A:∀v,(aH T v).kind=110->(aH T v).txt.toList.isEmpty=false):∀l a f c i,fD T l a f=.ok (c,i)->(∀d∈f,nG a.vars.length d.2)->∃e o,c.pz=a.pz++e/\i=f++o/\e.map nQ=rA o/\(∀d∈i,nG c.vars.length d.2)/\a.vars.length<=c.vars.length/\a.i<=c.i/\c.vars.length+a.i<=a.vars.length+c.i/\∀j∈e,0<=j.2.2.2:=by
 intro l;induction l with
 |zero=>intro a f c i b;simp [fD] at b
 |succ l ih=>
  intro a f c i b D;cases hq:cJ T (T.length+1) true (fJ T a) [] with
  |error j=>rw [yT hq] at b;simp at b
  |ok r=>
   obtain ⟨x,n⟩:=r;obtain ⟨P,Q,E,F⟩:=xC T a;obtain ⟨e,O,g⟩:=(aQ3 A (T.length+1)).1 _ _ _ _ _ hq rfl;have B:=(tS T (T.length+1)).1 _ _ _ _ _ hq;have m:=g.pl;have q:=g.nd;have t:=g.us;rw [F] at m;rw [E] at B;simp only [zc] at q;subst q;have u:∀d∈f++[(decide ((aH T a.i).kind=126),n)],nG x.vars.length d.2:=by
    intro d hx;rcases zx.1 hx with hx|hx
    ·exact (D d hx).mono (by omega)
    ·simp at hx;subst hx;exact g.vs
   by_cases p:(aH T x.i).kind=124
   ·rw [aB2 hq p] at b;obtain ⟨z,y,w,G,H,I,J,L,M,N⟩:=ih _ _ _ _ b u;simp only at w J L M;refine ⟨e++z,(decide ((aH T a.i).kind=126),n)::y,?_,?_,?_,I,by omega,by omega,by omega,λj C=>(zx.1 C).elim (g.ps j) (N j)⟩
    ·rw [w,m,zy]
    ·rw [G,zy];rfl
    ·rw [zw,t,H,aAb,aAb,zo];rfl
   ·rw [aB3 hq p] at b;simp only [Except.ok.injEq,Prod.mk.injEq] at b;obtain ⟨rfl,rfl⟩:=b;refine ⟨e,[(decide ((aH T a.i).kind=126),n)],m,rfl,?_,u,by omega,by omega,by omega,g.ps⟩;rw [t,aAb,zq];rfl
theorem aQ5(m:∀j,(aH T j).kind=110->(aH T j).txt.toList.isEmpty=false){g i:aY}{e:List Lt}(a:iV T g=.ok (i,e)):∃b,i.pz=g.pz++b/\b.map nQ=rA e/\(∀d∈e,nG i.i d.2)/\∀f∈b,0<=f.2.2.2:=by
 unfold iV at a;cases hq:jY T g with
 |error f=>rw [hq] at a;simp at a
 |ok r=>
  obtain ⟨z,w⟩:=r;rw [hq] at a;simp only at a;split at a
  ·simp only [Except.ok.injEq,Prod.mk.injEq] at a;obtain ⟨rfl,rfl⟩:=a;unfold jY at hq;split at hq
   ·simp only [Except.ok.injEq,Prod.mk.injEq] at hq;obtain ⟨rfl,rfl⟩:=hq;exact ⟨[],by simp,rfl,λd c=>by simp at c,λf n=>by simp at n⟩
   ·obtain ⟨b,v,o,l,p,q,x,y,t,u⟩:=aQ4 m _ _ _ _ _ hq (λd c=>by simp at c);simp only [zc] at l;subst l;simp only [List.length_nil] at t;exact ⟨b,o,p,λd c=>(q d c).mono (by simp;omega),u⟩
  ·simp at a
structure aHe(T:List Tk)(c:List Lt):Prop where
 short:∀x∈c,dZ x.2
 count:aR c<=T.length
 len:c.length<=T.length
 vars:∀x∈c,nG T.length x.2
theorem aQ6{m:List Tk}{r:Int}(v:TL m T r)(l:sF m T)(u:∀p,(aH T p).kind=110->(aH T p).txt.toList.isEmpty=false):∀j c g d i,gJ T j c g=.ok (d,i)->c.i<T.length->∃f e,d.pz=c.pz++f/\i=g++e/\f.map nQ=(e.flatMap λa=>rA a.2)/\(∀a∈e,aHe T a.2)/\d.i<T.length/\c.i+e.length<=d.i/\d.pz.length+c.i<=c.pz.length+d.i/\∀a∈f,0<=a.2.2.2:=by
 intro j;induction j with
 |zero=>intro c g d i b;simp [gJ] at b
 |succ j ih=>
  intro c g d i b n;rw [gJ] at b;split at b
  ·simp only [Except.ok.injEq,Prod.mk.injEq] at b;obtain ⟨rfl,rfl⟩:=b;exact ⟨[],[],by simp,by simp,rfl,λa hp=>by simp at hp,n,by simp,by omega,λa hp=>by simp at hp⟩
  ·split at b
   ·simp at b
   ·rename_i R t o;obtain ⟨w,M,x,y,z,N,O⟩:=aDy v l o n;obtain ⟨f,A,B,C,D⟩:=aQ5 u o;obtain ⟨q,e,E,F,G,H,I,P,Q,J⟩:=ih _ _ _ _ b x;refine ⟨f++q,((aH T c.i).pos,t)::e,?_,?_,?_,?_,I,by simp;omega,by omega,λa hp=>(zx.1 hp).elim (D a) (J a)⟩
    ·rw [E,A,zy]
    ·rw [F,zy];rfl
    ·rw [zw,B,G,zo]
    ·intro a hp;rcases zh.1 hp with rfl|hp
     ·exact ⟨w,y,z,λL l=>(C L l).mono (by omega)⟩
     ·exact H a hp
theorem aQ7{a:ByteArray}(b:0<a.size):a.toList.isEmpty=false:=by
 cases he:a.toList.isEmpty with
 |false=>rfl
 |true=>
  rw [List.isEmpty_iff] at he;have:a=⟨#[]⟩:=wB.1 (by rw [he];simp);subst this;rw [xA] at b;omega
theorem aQ8{b:ByteArray}(a:gE b=true):0<b.size:=by
 rcases Nat.eq_zero_or_pos b.size with hx|hx
 ·unfold gE at a;rw [aA1 _ _ _ _ (by omega)] at a;simp at a
 ·exact hx
theorem aQ9(s:ByteArray):∀b e f c d,fU s b e f=some (c,d)->0<c.size:=by
 intro b;induction b with
 |zero=>intro e f c d a;simp [fU] at a
 |succ b ih=>
  intro e f c d a;rw [fU] at a;split at a
  ·split at a
   ·split at a
    ·rename_i g;simp only [Option.some.injEq,Prod.mk.injEq] at a;rw [<-a.1];exact aQ8 g
    ·simp at a
   ·split at a
    ·split at a
     ·exact ih _ _ _ _ a
     ·simp at a
    ·split at a
     ·simp at a
     ·exact ih _ _ _ _ a
  ·simp at a
theorem aQa{e:Nat}{c:Tk}(i:k<s.size)(a:eZ s k=.tok c e)(b:c.kind=110):0<c.txt.size:=by
 unfold eZ at a;split at a
 ·rename_i j;split at a
  ·cases a
  ·simp only [Nx.tok.injEq] at a;rw [<-a.1];simp only;have g:=aGo j;have m:=aB9 i g;have f:=aEa s (s.size-(k+1)) (k+1);have o:k+1<=eV s (k+1)/\(k+1<=s.size->eV s (k+1)<=s.size):=f;rw [m,ByteArray.size_extract];omega
 ·split at a
  ·split at a
   ·rename_i p n l;simp only [Nx.tok.injEq] at a;rw [<-a.1];exact aQ9 s _ _ _ _ _ l
   ·cases a
  ·split at a
   ·split at a
    ·simp only [Nx.tok.injEq] at a;rw [<-a.1] at b;simp at b
    ·cases a
   ·split at a
    ·rename_i d;simp only [Nx.tok.injEq] at a;rw [<-a.1] at b;simp only at b;rw [b] at d;simp [nV] at d
    ·cases a
theorem aQb(s:ByteArray):∀a k,∀c∈(cW s a k).1,c.kind=110->0<c.txt.size:=by
 intro a;induction a with
 |zero=>intro k;simp [cW]
 |succ a ih=>
  intro k;rw [cW];split
  ·rename_i e;split
   ·exact ih _
   ·split
    ·exact ih _
    ·split
     ·rename_i c g b;intro f hu;rcases zh.1 hu with rfl|hu
      ·exact aQa e b
      ·exact ih _ f hu
     ·simp
  ·intro c b d;simp at b;rw [b] at d;simp at d
theorem aQc(s:ByteArray)(c e:Nat)(a:(aH (eY s c) e).kind=110):(aH (eY s c) e).txt.toList.isEmpty=false:=by
 refine aQ7 ?_;have g:∀d∈eY s c,d.kind=110->0<d.txt.size:=by
  intro d ht;unfold eY eP at ht;rcases zx.1 ht with ht|ht
  ·exact aQb s _ _ d ht
  ·generalize (cW s (s.size+1-c) c).2=b at ht;cases b with
   |none=>simp at ht
   |some p=>
    simp at ht;rw [ht];intro a;simp at a
 unfold aH at a ⊢;by_cases f:e<(eY s c).length
 ·rw [zj,zg f,Option.getD_some] at a ⊢;exact g _ (zm _) a
 ·rw [zj,List.getElem?_eq_none (by omega)] at a;exact absurd a (by decide)
def wJ(a:Value):Option (DataW Unit×List MemPlace):=
 match a with
 | .agg cs=>match cs.toList with
  |[.string s,.bool b,.int .i64 n]=>some (.agg [.lit (.string s.data.toList),.lit (.bool b),.lit (.int .i64 n)],[])
  |_=>none
 |_=>none
def qX(a:Us):DataW Unit:=.agg [.lit (.string a.1.data.toList),.lit (.bool a.2.1),.lit (.int .i64 a.2.2)]
theorem bCp(a:Us):wJ (.agg #[.string a.1,.bool a.2.1,.int .i64 a.2.2])=some (qX a,[]):=rfl
theorem aHf{e:Value}{c:Us}{j:List MemPlace}(a:wJ e=some (qX c,j)):e=.agg #[.string c.1,.bool c.2.1,.int .i64 c.2.2]:=by
 unfold wJ at a;split at a
 ·next cs=>
  split at a
  ·next s b n hcs=>
   have i:cs=#[.string s,.bool b,.int .i64 n]:=by have:=congrArg List.toArray hcs;simpa using this
   subst i;simp only [qX,Option.some.injEq,Prod.mk.injEq,DataW.agg.injEq,List.cons.injEq,DataW.lit.injEq,Lit.string.injEq,Lit.bool.injEq,Lit.int.injEq,and_true,true_and] at a;obtain ⟨⟨d,f,g⟩,_⟩:=a;have:s=c.1:=by obtain ⟨⟨l⟩⟩:=s;obtain ⟨⟨⟨m⟩⟩,o⟩:=c;simp at d;rw [d]
   rw [this,f,g]
  ·simp at a
 ·simp at a
structure yE(D:DataW Unit)(U:List Us)(k:Nat):Prop where
 isMap:Maps.IsMap D
 old:∀j (h:j<U.length),j<k->Maps.has D (.string U[j].1.data.toList)=true/\∀z,D.atKey (.string U[j].1.data.toList) z=qX U[j]
 new:∀s:ByteArray,(∀j (h:j<U.length),j<k->U[j].1≠s)->Maps.has D (.string s.data.toList)=false
theorem aHg{a:ByteArray}(b:s.data.toList=a.data.toList):s=a:=by obtain ⟨⟨c⟩⟩:=s;obtain ⟨⟨d⟩⟩:=a;simp at b;rw [b]
theorem aQd(U:List Us):yE (.map []) U 0:=⟨Maps.isMap_empty,λb _ a=>by omega,λs _=>rfl⟩
theorem aQe{i:DataW Unit}(b:yE i U k)(p:k<U.length)(q:∀a (c:a<U.length),a<k->U[a].1=U[k].1->U[a]=U[k]):yE (i.put (.string U[k].1.data.toList) (qX U[k])) U (k+1):=by
 have j:WideAt.IsKeyLit (.string U[k].1.data.toList):=trivial;refine ⟨b.isMap.put _ _,λa c o=>?_,λs m=>?_⟩
 ·by_cases f:U[a].1=U[k].1
  ·have r:U[a]=U[k]:=by
    by_cases g:a=k
    ·subst g;rfl
    ·exact q a c (by omega) f
   rw [r];exact ⟨Maps.has_put_same b.isMap j _,λn=>Maps.atKey_put_same b.isMap j _ _⟩
  ·have d:(Lit.string U[a].1.data.toList)≠.string U[k].1.data.toList:=λe=>f (aHg (by simpa using e))
   have g:a<k:=by
    rcases Nat.lt_or_ge a k with h1|h1
    ·exact h1
    ·have:a=k:=by omega
     subst this;exact absurd rfl f
   have l:=b.old a c g;exact ⟨by rw [Maps.has_put_other d];exact l.1,λn=>by rw [Maps.atKey_put_other d];exact l.2 n⟩
 ·have d:(Lit.string s.data.toList)≠.string U[k].1.data.toList:=λe=>m k p (by omega) (aHg (by simpa using e)).symm
  rw [Maps.has_put_other d];exact b.new s λa c o=>m a c (by omega)
def tH(U:List Us)(k:Nat):Prop:=∀a (c:a<U.length),a<k->U[a].2.2<=5/\∀b (d:b<a),(U[b]'(by omega)).1=U[a].1->(U[b]'(by omega)).2=U[a].2
theorem aQf(b:tH U U.length):aIk U:=λc a=>b c a a
theorem aQg:zv.stoodInHeld 111=false:=by kernel_rfl
theorem aQh:zv.eqGuardType zv.depth 111=false:=by kernel_rfl
theorem aQi:zv.underlying 111=some (.struct (zv.fieldsOf 111)):=by kernel_rfl
def wK(a b:Us):Bool:=decide (a=b)
theorem aQj(a b:Us)(c:World):(Op.equalIn 10000 111 (.agg #[.string a.1,.bool a.2.1,.int .i64 a.2.2]) (.agg #[.string b.1,.bool b.2.1,.int .i64 b.2.2])).run zv c=.ok (wK a b) c:=by rw [show (10000:Nat)=9999+1 from rfl,run_equalIn_agg c 9999 111 _ _ aQi aQg];simp only [Program.fieldsOf,Tryz.underlying111];go_simp;obtain ⟨s,d,l⟩:=a;obtain ⟨m,e,j⟩:=b;simp only [wK,wB];by_cases f:s=m<;>by_cases g:d=e<;>by_cases i:l=j<;>simp [f,g,i]
def tI(U:List Us)(a:Int):Prop:=(a=-1/\aIk U)\/∃k:Nat,k<U.length/\a=k/\tH U k/\¬tH U (k+1)
theorem tI.of(a:tH U k)(b:k<U.length)(c:¬tH U (k+1)):tI U k:=zb ⟨k,b,rfl,a,c⟩
theorem aQk(a4:Option Addr)(b2:Nat)(U:List Us)(w:World)(W:aIl w a4 U):Calls zv 26 #[.slice a4 U.length b2] w λb3 c2=>∃b1:Int,b3=.returned (.int .i64 b1)/\tI U b1/\aC w c2:=by
 have c8:=W.few;have a3:=aA W;have d0:=@run_makeMap zv;have c7:=aQh;clear W;go_enter Tryz.func26,Tryz.ntmps26;go_wp2;go_loopw [11] (λb wr=>∃(k:Nat) (l:DataW Unit),k<=U.length/\b=.int .i64 k/\wr.ownsMap zv 9 wJ w.heap.size k l/\yE l U k/\tH U k/\aC w wr) (λb _=>U.length-(intOf b).toNat);case atStart=>exact ⟨0,.map [],zk _,rfl,World.ownsMap_made _ _ _ _,aQd U,λb _ N=>by omega,(Below.refl _ _).alloc (zz _) _⟩
 case round=>
  obtain ⟨k,l,c9,rfl,q,X,Y,n⟩:=hrel;have M:=n.size;have D:=aA X;have x:=aA Y;have B:=aA n;by_cases p:k<U.length
  ·obtain ⟨c6,rfl,a5,a6,a7⟩:=a3.o.cell k p;have P:=aD n a5;have Q:=aD n a6;have R:=aD n a7;have Z:=a3.o.short k p;have C:aG (5<U[k].2.2->tI U k):=λg=>tI.of x.o p λf=>by have:=(f k p (by omega)).1;omega
   have E:aG (∀a (c:a<U.length),a<k->U[a].1=U[k].1->U[a]≠U[k]->tI U k):=λa c e d c0=>tI.of x.o p λf=>by
    have b4:=(f k p (by omega)).2 a e d;exact c0 (Prod.ext d b4)
   have A:aG (U[k].2.2<=5->(∀a (c:a<U.length),a<k->U[a].1=U[k].1->U[a]=U[k])->tH U (k+1)/\yE (l.put (.string U[k].1.data.toList) (qX U[k])) U (k+1)):=λg b0=>by
    refine ⟨λb N a9=>?_,aQe D.o p b0⟩;by_cases b7:b=k
    ·subst b7;exact ⟨g,λa c d=>by rw [b0 a (by omega) c d]⟩
    ·exact x.o b N (by omega)
   have o:keyOf zv 9 (.string U[k].1)=some (.string U[k].1.data.toList):=keyOf_string_mk zl (by unfold maxLen;omega);clear a5 a6 a7 n X Y;by_cases g:5<U[k].2.2
   ·have F:=aA (C.o g);clear C E A o q;generalize U[k]=u at *;obtain ⟨s,v,t⟩:=u;simp only at P Q R g;go_wp2;go_ret;exact ⟨_,rfl,F.o,B.o.alloc M _⟩
   ·have G:U[k].2.2<=5:=by omega
    have b5:=(q.alloc (.cells #[.string U[k].1,.bool U[k].2.1,.int .i64 U[k].2.2] 111)).look_ok (Maps.string_keyed zl) zi (Tryz.zeroValue111 _) (zd:=qX (⟨#[]⟩,false,0)) (zp:=[]) rfl o;obtain ⟨d5,d2,i,r⟩:=b5;cases hhas:Maps.has l (.string U[k].1.data.toList)
    ·rw [aAj D.o.isMap hhas] at r;have a0:=aHf r;subst a0;rw [hhas] at i;have m:=aA (A.o G (λa c e d=>by
      have:=(D.o.old a c e).1;rw [d,hhas] at this;simp at this))
     have z:=aA o;clear C E A r hhas o;generalize f:U[k]=u at *;obtain ⟨s,v,t⟩:=u;simp only at P Q R g G Z i m z;clear f;go_wp2_with (first
      |(at_mapUpdate;refine wpList_mapUpdate_own _ rfl _ _ _ 109 rfl 9 111 (Maps.string_keyed zl) zi wJ w.heap.size k l rfl ((q.alloc _).alloc _) (by unfold maxLen;omega) _ _ (.string s.data.toList) rfl rfl (aB z) (qX (s,v,t)) [] rfl ?_)
      |go_in)
     intro c3 J H;have V:=aA J;have S:=aA (((B.o.alloc M (.cells #[.string s,.bool v,.int .i64 t] 111)).alloc (by simp;omega) _).grown H (by simp;omega) (λc5 a1=>by simp at a1;omega));clear J H q i;go_wp2;go_roundw;case rel=>exact ⟨k+1,_,by omega,by go_num,V.o,m.o.2,m.o.1,S.o⟩
     case measure=>simp [intOf];omega
    ·obtain ⟨a,c,e,I⟩ : ∃a,∃c:a<U.length,a<k/\U[a].1=U[k].1:=Classical.byContradiction λc1=>by
      have:=D.o.new U[k].1 (λa c e d=>c1 ⟨a,c,e,d⟩);rw [hhas] at this;simp at this
     have L:=(D.o.old a c e).2 (qX (⟨#[]⟩,false,0));rw [I] at L;rw [L] at r;have a0:=aHf r;subst a0;rw [hhas] at i;have a2:=λc4=>aQj U[a] U[k] c4
     have z:=aA o;by_cases j:U[a]=U[k]
     ·have a8:wK U[a] U[k]=true:=by simp [wK,j]
      have m:=aA (A.o G (λb N a9 d=>by
       by_cases b6:b=a
       ·subst b6;exact j
       ·have O:U[b].1=U[a].1:=d.trans I.symm;have:U[b]=U[a]:=by
         rcases Nat.lt_or_ge b a with b9|hge
         ·exact Prod.ext O ((x.o a c e).2 b b9 O)
         ·exact (Prod.ext O.symm ((x.o b N a9).2 a (by omega) O.symm)).symm
        rw [this,j]))
      rw [j] at i a2 a8;clear C E A r hhas o L j I;generalize f:U[k]=u at *;obtain ⟨s,v,t⟩:=u;simp only at P Q R g G Z i m z a2;clear f;go_wp2_with (first
       |(at_mapUpdate;refine wpList_mapUpdate_own _ rfl _ _ _ 109 rfl 9 111 (Maps.string_keyed zl) zi wJ w.heap.size k l rfl ((q.alloc _).alloc _) (by unfold maxLen;omega) _ _ (.string s.data.toList) rfl rfl (aB z) (qX (s,v,t)) [] rfl ?_)
       |go_in)
      intro c3 J H;have V:=aA J;have S:=aA (((B.o.alloc M (.cells #[.string s,.bool v,.int .i64 t] 111)).alloc (by simp;omega) _).grown H (by simp;omega) (λc5 a1=>by simp at a1;omega));clear J H q i;go_wp2;go_roundw;case rel=>exact ⟨k+1,_,by omega,by go_num,V.o,m.o.2,m.o.1,S.o⟩
      case measure=>simp [intOf];omega
     ·have a8:wK U[a] U[k]=false:=by simp [wK,j]
      have F:=aA (E.o a c e I j);clear C E A r hhas o L I j z;generalize U[a]=y at *;generalize f:U[k]=u at *;obtain ⟨s,v,t⟩:=u;obtain ⟨d3,d4,d1⟩:=y;simp only at P Q R g G Z i a2;clear f;go_wp2;go_ret;exact ⟨_,rfl,F.o,(B.o.alloc M _).alloc (by simp;omega) _⟩
  ·have b8:k=U.length:=by omega
   subst b8;have F:=aA (aQf x.o);clear X Y q n;go_wp2;go_ret;exact ⟨_,rfl,z4 ⟨rfl,F.o⟩,B.o⟩
def RdQ(s:ByteArray)(e:World)(g:Ending)(f:World):Prop:=
 ∃d a b c,g=.returned (.tuple #[d,.int .i64 b,.int .i64 c])/\gI s (a.map λi=>i.1.map zt) b c/\lL e.heap.size f d a/\aC e f
theorem lL.mono{B d:Nat}{w:World}{v:Value}{e:List (List (Lt×Value)×Value)}(a:lL B w v e)(b:d<=B):lL d w v e:=
 ⟨⟨eJ a.mem.1 b,λp c=>⟨⟨eJ (a.mem.2 p c).1.1 b,λg f=>eJ ((a.mem.2 p c).1.2 g f) b⟩,(a.mem.2 p c).2⟩⟩,a.once,a.atoms⟩
theorem aCz(d:List Pl)(k:Nat):tH (d.map nQ) k↔∀c f,c<k->¬jK d c f:=by
 constructor
 ·intro h c f q a;obtain ⟨l,g⟩:=h c (by simpa using f) q;simp only [zn,nQ] at l g;rcases a with a|⟨b,e,m,n⟩
  ·omega
  ·have:=g b e m;simp at this;rcases n with h|h
   ·exact h this.1
   ·exact h this.2
 ·intro h b e p;have o:b<d.length:=by simpa using e
  have a:=h b o p;simp only [jK,not_or,not_exists] at a;refine ⟨by simp [nQ];omega,λk r j=>?_⟩;have i:=a.2 k r;simp only [zn,nQ] at j ⊢;simp only [mB,not_and,not_or,Decidable.not_not] at i;have:=i j;rw [this.1,this.2]
theorem aQl{a:List Pl}{e:Int}(l:tI (a.map nQ) e):(e=-1/\oX a (-1))\/∃k,∃g:k<a.length,e=k/\oX a a[k].2.2.2:=by
 rcases l with ⟨rfl,p⟩|⟨k,g,rfl,c,f⟩
 ·refine z4 ⟨rfl,z4 ⟨rfl,λd b=>?_⟩⟩;exact (aCz a a.length).1 (λd b _=>p d b) d b b
 ·have i:k<a.length:=by simpa using g
  rw [aCz a k] at c;rw [aCz a (k+1)] at f;refine zb ⟨k,i,rfl,zb ⟨k,i,?_,c,rfl⟩⟩;refine Classical.byContradiction λo=>f λj m q=>?_
  by_cases n:j=k
  ·subst n;exact o
  ·exact c j m (by omega)
theorem aQm(a:List Pl)(k:Nat)(b:k<a.length):(nF a)[k]?=some (.int .i64 a[k].2.2.2):=by unfold nF;rw [List.getElem?_map,zg b];rfl
theorem aQn(a:List Pc):gB a=(a.map jW).flatMap λb=>rA b.2:=by
 unfold gB;induction a with
 |nil=>rfl
 |cons x r ih=>rw [zo,ih,List.map_cons,zo];rfl
theorem aQo(Q:s.size<=3000){f:aY}{q:List (Nat×List Lt)}(x:gJ (eY s 0) ((eY s 0).length+1) ⟨0,[],[]⟩ []=.ok (f,q))(y:0<(eY s 0).length)(n:(eY s 0).length<=3002){b:List Pc}(m:b.map jW=q):gB b=f.pz.map nQ/\(∀a∈b,aDm a)/\(∀a∈b,∀e∈a.1.2,wS e.1.2)/\b.length<=3002/\f.pz.length<=3002/\(∀a∈f.pz,0<=a.2.2.2)/\∀d∈gB b,d.1.size<=1000000:=by
 obtain ⟨O,w,p,l,G,H,I,J,L,M⟩:=aQ6 (aE4 s (by omega)) (aB0 s (by omega)) (aQc s 0) _ _ _ _ _ x y;simp only [zc] at p l;simp only [List.length_nil,Nat.zero_add,Nat.add_zero] at J L;change f.i<(eY s 0).length at I;have g:∀a∈b,aHe (eY s 0) (a.1.2.map zt):=λa c=>H (jW a) (by rw [<-l,<-m];exact zs.2 ⟨a,c,rfl⟩)
 have P:b.length=w.length:=by rw [<-l,<-m];simp
 have hu:gB b=f.pz.map nQ:=by rw [aQn,m,l,p,G]
 refine ⟨hu,λa c=>⟨λe o=>(g a c).short e.1 (zs.2 ⟨e,o,rfl⟩),by have:=(g a c).count;omega,by have:=(g a c).len;simp at this;omega⟩,λa c e o i z C=>?_,by omega,by omega,by rw [p];exact M,?_⟩
 ·have:=(g a c).vars e.1 (zs.2 ⟨e,o,rfl⟩) i z C;omega
 ·intro d t;unfold gB at t;obtain ⟨a,c,u⟩:=zf.1 t;rw [aAb] at u;obtain ⟨v,D,B⟩:=zf.1 u;have A:=(g a c).short v D;have F:∀(j:List Nd) k,(∀i∈j,i.1.size<=1000000)->∀d∈kE k j,d.1.size<=1000000:=by
   intro j;induction j with
   |nil=>intro k _ d hu;simp [kE] at hu
   |cons i r ih=>
    intro k n d hu;rw [kE] at hu;rcases zx.1 hu with hu|hu
    ·unfold nN at hu;split at hu
     ·simp at hu
     ·simp at hu;subst hu;exact n i (List.mem_cons_self ..)
    ·exact ih _ (λN E=>n N (List.mem_cons_of_mem _ E)) d hu
  exact F v.2 0 A d B
theorem aD0(s:ByteArray)(t:World)(f3:s.size<=140737488355328):Calls zv 15 #[.string s] t λc e6=>RdQ s t c e6:=by
 by_cases d1:3000<s.size
 ·have d4:(3000:Int)<(s.size:Int):=by omega
  go_enter z7,z3;go_wp2;go_returns;exact ⟨_,[],0,1,rfl,z4 ⟨d1,rfl,rfl,rfl⟩,lL.nil _ _,Below.refl _ _⟩
 ·have d4:¬(3000:Int)<(s.size:Int):=by omega
  have i:s.size<=3000:=by omega
  have d5:(eY s 0).length<=3002:=by have:=aE3 s (s.size+1) 0;show (eP (cW s (s.size+1) 0)).length<=3002;unfold eP;split<;>simp<;>omega
  have B:=aA (aPb s t i);have w:=(aB0 s (by omega)).small;have a9:=aE4 s (by omega);have b2:=aB0 s (by omega);have j:=aA (λA L E (F:tD t.heap.size A L s (eY s 0) ⟨0,[],[]⟩ E (.slice none 0 0) (.slice none 0 0) []) (d2:t.heap.size<=A.heap.size)=>aP3 (λd9=>aOu s 0 d9) w i (by omega) (λz g2 e8 a d6=>by have:=aDy a9 b2 a d6;omega) F d2 (zk _) (zk _));have l:aG (qC s=gJ (eY s 0) ((eY s 0).length+1) ⟨0,[],[]⟩ []):=aA rfl;clear w a9 b2;cases a:gJ (eY s 0) ((eY s 0).length+1) ⟨0,[],[]⟩ [] with
  |error p=>
   rw [List.map_nil,a] at j;rw [a] at l;clear a;go_enter z7,z3;go_wp2_with (first
    |(go_at_call 25;refine (j.o _ _ _ u.o f.o.size).mono ?_;rintro c M ⟨o,f5,e3,e5,e4,rfl,a7,a8⟩;obtain ⟨e0,a1,_⟩:=a7.box;have c8:=a1.c2;rw [a8] at c8;have m:=aA (f.o.trans o);clear o a7 a8 a1)
    |(go_at_call 24;refine (aB B).mono ?_;rintro c A ⟨L,E,rfl,n,r⟩;have f:=aA n;have u:=aA r;clear n r)
    |go_in)
   go_quiet (fail);go_wp2;go_returns;refine ⟨_,[],p,2,rfl,zb ⟨i,?_⟩,lL.nil _ _,aV m.o (aL ⟨_,rfl⟩)⟩;rw [l.o];exact ⟨rfl,rfl,rfl⟩
  |ok y=>
   obtain ⟨z,c7⟩:=y;rw [List.map_nil,a] at j;rw [a] at l;have Q:=aA (λ(G:0<(eY s 0).length) (b:List Pc) (v:b.map jW=c7)=>aQo i a G d5 v);clear a;go_enter z7,z3;go_upto_region 6 with (first
    |(go_at_call 25;refine (j.o _ _ _ u.o f.o.size).mono ?_;rintro c M ⟨o,e3,e5,b,rfl,b0,v⟩;have m:=aA (f.o.trans o);have g:=aA b0;have P:=aA v;clear o b0 v)
    |(go_at_call 24;refine (aB B).mono ?_;rintro c A ⟨L,E,rfl,n,r⟩;have f:=aA n;have u:=aA r;clear n r)
    |go_in)
   clear B j;obtain ⟨e4,I⟩:=g.o.pp;obtain ⟨e0,H,f2⟩:=I.box;have D:=H.c4;have W:=H.c5;obtain ⟨x,J,b4,f6,f7,b5,b6⟩:=Q.o (Nat.lt_of_le_of_lt (zk _) I.lt) b P.o;have O:=aA (aTh g.o.cs D J (by omega) (by rw [x];simp;omega));have N:=aA (λwx (w:aC M wx)=>aPx (g.o.cs.below w) J b4 (by omega));obtain ⟨g5,g6,d8⟩:=aW g.o.cs.row;obtain ⟨f8,f9,d7⟩:=aW g.o.pz;have R:=aA g.o.pz;subst d8;subst d7;have c3:aG (gB b=z.pz.map nQ):=aA x;have c1:=aA b5;have d3:(gB b).length<=1000000:=by rw [x];simp;omega
   have X:∀k (F:k<(gB b).length),(gB b)[k].1.size<=140737488355328:=λk F=>Nat.le_trans (b6 _ (zm _)) (by omega)
   have c4:=aA X;have b3:=m.o.size;clear x J b4 b5 b6 X Q H I u f;go_upto_region 7 with (first
    |(go_at_call 26;refine (aQk e1 e2 (gB b) e7 c2.o).mono ?_;rintro c g7 ⟨g1,rfl,e,Z⟩;have S:=aA e;have d:=aA (aV b7.o Z);clear e Z)
    |(go_at_call 27;refine (aB O).mono ?_;rintro c e7 ⟨g3,rfl,a5,Y⟩;obtain ⟨e1,e2,rfl,b1⟩:=aT7 a5 d3 c4.o;have c2:=aA b1;have b7:=aA Y;clear a5 Y b1)
    |go_in)
   have f4:=d.o.size;have e9:=aD d.o D;have f0:=aD d.o W;have e:=S.o;rw [c3.o] at e;clear S O D W;rcases aQl e with ⟨rfl,q⟩|⟨k,a3,rfl,q⟩
   ·have C:=aA q;clear e q;go_wp2_with (first
     |(go_at_call 28;refine (N.o _ d.o).mono ?_;rintro c g8 ⟨g4,c5,c6,c9,rfl,a4,a6,a0⟩;have b9:=aA a4;have c0:=aA a6;have b8:=aA a0;clear a4 a6 a0)
     |go_in)
    go_returns;refine ⟨_,c5,c6,c9,rfl,zb ⟨i,?_⟩,c0.o.mono (by omega),m.o.trans ((d.o.mono b3).trans (b8.o.mono (by omega)))⟩;rw [l.o];refine ⟨-1,C.o,zb ⟨by omega,?_⟩⟩;rw [<-P.o];exact b9.o
   ·have C:=aA q;have G:=c1.o _ (zm a3);obtain ⟨d0,f1,a2⟩:=qF R.o (by omega);simp at a2;obtain ⟨rfl,rfl⟩:=a2;have V:M.cell? ⟨d0,k,none⟩=some (.int .i64 z.pz[k].2.2.2):=by rw [R.o.cellAt _ (by omega),aQm _ k a3]
    have g0:=aD d.o V;clear e q N V;generalize z.pz[k].2.2.2=pk at *;go_wp2;go_quiet (fail);go_wp2;go_returns;refine ⟨_,[],pk,3,rfl,zb ⟨i,?_⟩,lL.nil _ _,(m.o.trans (d.o.mono b3)).trans ((aL ⟨_,rfl⟩).mono (by omega))⟩;rw [l.o];exact ⟨pk,C.o,z4 ⟨G,rfl,rfl,rfl⟩⟩
theorem aQp(s:ByteArray)(a:World)(o:s.size<=140737488355328):Calls zv 8 #[.string s] a λb p=>RdQ s a b p:=by
 have f:=aA (aD0 s a o);go_enter Tryz.func8,Tryz.ntmps8;go_wp2_with (first
  |(go_at_call 15;refine (aB f).mono ?_;rintro b r ⟨q,l,m,n,rfl,c,d,e⟩;have g:=aA c;have i:=aA d;have j:=aA e;clear c d e)
  |go_in)
 go_returns;exact ⟨_,l,m,n,rfl,g.o,i.o,j.o⟩
theorem aHi{p:Nat->Prop}{a b:Nat}(e:p a)(f:p b)(c:∀k,k<a->¬p k)(d:∀k,k<b->¬p k):a=b:=by
 rcases Nat.lt_trichotomy a b with h|h|h
 ·exact absurd e (d a h)
 ·exact h
 ·exact absurd f (c b h)
theorem oX.one{c:List Pl}{n o:Int}(a:oX c n)(b:oX c o):n=o:=by
 rcases a with ⟨rfl,a⟩|⟨m,l,j,q,rfl⟩
 ·rcases b with ⟨rfl,_⟩|⟨i,e,d,_,_⟩
  ·rfl
  ·exact absurd d (a i e)
 ·rcases b with ⟨rfl,b⟩|⟨i,e,d,r,rfl⟩
  ·exact absurd j (b m l)
  ·have:m=i:=aHi (p:=λk=>∃a,jK c k a) ⟨l,j⟩ ⟨e,d⟩ (λk f ⟨a,g⟩=>q k a f g) (λk f ⟨a,g⟩=>r k a f g);subst this;rfl
theorem tR.one{c:List (Nat×List Lt)}{t u:List (List Lt)}{j l m n:Int}(a:tR c t j m)(b:tR c u l n):t=u/\j=l/\m=n:=by
 rcases a with ⟨r,q,o,v,rfl,rfl,rfl⟩|⟨a,rfl,rfl,rfl⟩
 ·rcases b with ⟨i,e,d,w,rfl,rfl,rfl⟩|⟨b,_⟩
  ·have:r=i:=aHi (p:=λk=>∃a,jB c k a) ⟨q,o⟩ ⟨e,d⟩ (λk f ⟨a,g⟩=>v k a f g) (λk f ⟨a,g⟩=>w k a f g);subst this;exact ⟨rfl,rfl,rfl⟩
  ·exact absurd o (b r q)
 ·rcases b with ⟨i,e,d,_⟩|⟨_,rfl,rfl,rfl⟩
  ·exact absurd d (a i e)
  ·exact ⟨rfl,rfl,rfl⟩
theorem gI.one{g i:List (List Lt)}{c d e f:Int}(b:gI s g c e)(a:gI s i d f):g=i/\c=d/\e=f:=by
 rcases b with ⟨m,rfl,rfl,rfl⟩|⟨m,b⟩
 ·rcases a with ⟨_,rfl,rfl,rfl⟩|⟨n,_⟩
  ·exact ⟨rfl,rfl,rfl⟩
  ·omega
 ·rcases a with ⟨n,_⟩|⟨_,a⟩
  ·omega
  ·cases hp:qC s with
   |error p=>
    rw [hp] at b a;obtain ⟨rfl,rfl,rfl⟩:=b;obtain ⟨rfl,rfl,rfl⟩:=a;exact ⟨rfl,rfl,rfl⟩
   |ok y=>
    obtain ⟨v,r⟩:=y;rw [hp] at b a;obtain ⟨t,o,b⟩:=b;obtain ⟨u,q,a⟩:=a;obtain rfl:=o.one q;rcases b with ⟨j,rfl,rfl,rfl⟩|⟨j,b⟩
    ·rcases a with ⟨_,rfl,rfl,rfl⟩|⟨l,_⟩
     ·exact ⟨rfl,rfl,rfl⟩
     ·omega
    ·rcases a with ⟨l,_⟩|⟨_,a⟩
     ·omega
     ·exact b.one a
