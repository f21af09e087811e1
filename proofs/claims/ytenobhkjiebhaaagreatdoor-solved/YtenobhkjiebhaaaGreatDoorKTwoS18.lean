/- Solve of any text, by any limit, answers what the document says that an answer may be (right steps; a refutation, or clauses that cover all that follows from them, or a bound that was come to; or the error that is asked), the same once more, its lists its caller's own; and so of a known text: the tied card. Conditions: none but the row's own (the library's tables stand as the program lays them; each list and text is of at most 2^47 - 4096 bytes). -/
import Derived.Test.YtenobhkjiebhaaaGreatDoorWCpyS18
import Derived.Test.YtenobhkjiebhaaaGreatDoorCards
import Derived.Test.YtenobhkjiebhaaaGreatDoorTie
import Derived.ProofKit
import Derived.OpenShut
import Derived.Carry
import Derived.Deep.DeepHandedRow
import Derived.Deep.DeepWitnessRowRef
import Derived.Lib.LaidIn
import Derived.Lib.LaidU8T
import Derived.PinnedBridge
namespace Go.Proofs.YtenobhkjiebhaaaGreatDoor
open Go.RowKit Go.Shelf Go.WideMaps
set_option maxRecDepth 100000
section
variable {w0 w w' wr:World}{B bk N N':Nat}{H:List Nat}{v:Bx}{next:Int}{R X:List fV}{M:List jT}{V Kv:Value}{T:List (aJ×Value)}{ks:List Nat}{QV:List (List (Lt×Value)×Value)}
theorem jI.join (d:jI B R M w) (f:jI N X [] w) (k:B≤N) (g:∀a∈iA X [],a∉iA R M):jI B (X++R) M w:=by
 refine⟨fun b hr=>?_,?_,d.mks,fun j i b hr a e c=>?_⟩
 .rcases List.mem_append.1 hr with hr | hr
  .exact fM (f.own b hr) k
  exact d.own b hr
 .rw[List.filterMap_append,List.nodup_append];refine⟨f.nd,d.nd,fun a e m l c=>?_⟩;subst c;exact g a (List.mem_append.2 (Or.inl e)) (List.mem_append.2 (Or.inl l))
 rcases List.mem_append.1 hr with hr | hr
 .exact g a (List.mem_append.2 (Or.inl (List.mem_filterMap.2 ⟨b,hr,c⟩))) (List.mem_append.2 (Or.inr (List.mem_filterMap.2 ⟨j,i,e⟩)))
 exact d.ap j i b hr a e c
theorem aGr {a:Nat} (b:a∈iA (X++R) M):a∈iA X []∨a∈iA R M:=by simp only[iA,List.filterMap_append,List.mem_append]at b ⊢;grind
theorem jI.ge (a:jI N X [] w) {b:Nat} (hk:b∈iA X []):N≤b:=by
 rcases List.mem_append.1 hk with hk | hk
 .obtain⟨d,c,hk⟩:=List.mem_filterMap.1 hk;exact(bS (a.own d c) b hk).1
 simp at hk
theorem bW.start (a:bW w0 B bk H v next R M w):bW w B bk (iA R M) v next R M w:=
 ⟨a.box,a.high,a.rst,a.nb,fun _ b=>Or.inl b,fun _ _ _ _=>rfl,dP⟩
theorem bW.join (a:bW w0 B bk H v next R M w) (i:aB w wr) (b:jI N X [] wr) (g:w.heap.size≤N):bW wr B bk (iA (X++R) M) v next (X++R) M wr:=by
 have c:=a.below i;have j:=a.lt;refine⟨c.box,c.high,c.rst.join b (Nat.le_trans a.bw g) fun f d e=>?_,fun e=>?_,fun f d=>Or.inl d,fun _ _ _ _=>rfl,dP⟩
 .have:=b.ge d;have:=a.rst.lt f e;omega
 rcases aGr e with q | q
 .have:=b.ge q;omega
 exact a.nb q
structure pD (N N':Nat) (w:World) (V Kv:Value) (T:List (aJ×Value)) (ks:List Nat) (QV:List (List (Lt×Value)×Value)):Prop where
 rst:jI N (aR V Kv T ks QV []) [] w
 vs:QV.map Prod.snd=T.map Prod.snd
 small:∀p∈QV,p.1.length≤8∧∀q∈p.1,q.1.2.length≤60
 hi:∀k∈iA (aR V Kv T ks QV []) [],k < N'
theorem pD.same (b:pD N N' w V Kv T ks QV) (d:∀a,N≤a→a < N'→w'.heap[a]?=w.heap[a]?):pD N N' w' V Kv T ks QV:=
 ⟨b.rst.same fun a c=>d a (b.rst.ge c) (b.hi a c),b.vs,b.small,b.hi⟩
theorem pD.st (a:pD N N' w V Kv T ks QV):w.ownsRow N 48 6 V T.length (gN T):=a.rst.own ⟨48,6,V,T.length,gN T⟩ (by simp[aR])
theorem pD.kp (a:pD N N' w V Kv T ks QV):eQ N w Kv ks:=a.rst.own (sE Kv ks) (by simp[aR])
theorem pD.nil:pD N N' w (nQ) (nQ) [] [] []:=by refine⟨⟨fun r a=>?_,by simp[aR,Value.ownBlock],by simp,by simp⟩,rfl,by simp,by simp[aR,iA,Value.ownBlock]⟩;simp[aR]at a;rcases a with rfl | rfl <;> exact World.ownsRow_nil _ _ _ _
theorem aMs:∀{T:List (aJ×Value)},(∀a∈T,bP N w a.2 a.1.c)→(∀a∈T,kB a.1.c)→∃QV:List (List (Lt×Value)×Value),QV.map Prod.snd=T.map Prod.snd∧(∀b∈QV.flatMap rP,(b.e=55∨b.e=52)∧w.ownsRow N b.e b.z b.v b.n b.xs)∧(∀a∈QV,a.1.length≤8∧∀c∈a.1,c.1.2.length≤60)∧((QV.flatMap rP).filterMap fun b=>b.v.ownBlock).Perm ((T.map Prod.snd).flatMap (blk w))
 | [],_,_=>⟨[],rfl,by simp,by simp,.refl _⟩
 | x :: T,h,hn=>by
  obtain⟨QV,k,l,m,n⟩:=aMs (T:=T) (fun a hp=>h a (by simp[hp])) (fun a hp=>hn a (by simp[hp]));obtain⟨j,g,i,o,p⟩:=h x (by simp);have f:=hn x (by simp);refine⟨(j,x.2) :: QV,by simp[k],fun b hr=>?_,fun a hp=>?_,?_⟩
  .rw[List.flatMap_cons]at hr;rcases List.mem_append.1 hr with hr | hr
   .rcases List.mem_append.1 hr with hr | hr
    .obtain⟨c,d,rfl⟩:=List.mem_map.1 hr;exact⟨Or.inr rfl,o c d⟩
    simp at hr;subst hr;exact⟨Or.inl rfl,i⟩
   exact l b hr
  .rcases List.mem_cons.1 hp with rfl | hp
   .refine⟨by have:=f.len;rw[←g]at this;simpa using this,fun c d=>?_⟩;have:=f.nodes (x:=c.1) (by rw[←g];exact List.mem_map_of_mem d);omega
   exact m a hp
  rw[List.flatMap_cons,List.filterMap_append,List.map_cons,List.flatMap_cons,aAf i];refine List.Perm.append ?_ n;unfold rP rQ;rw[List.filterMap_append,List.filterMap_map,List.filterMap_map];refine List.perm_append_comm.trans (.of_eq ?_);cases e:x.2.ownBlock <;> simp[e,Function.comp_def]
theorem yT.mem {i z:Nat}{j g:Value} (a:yT N w i j g z T ks) (t:∀k∈T,bD k.1.c=true):∃QV,pD N w.heap.size w j g T (if i=2 then ks else []) QV:=by
 obtain⟨QV,n,b,o,p⟩:=aMs a.st.cl (fun k x=>mB (t k x));have f:eQ N w g (if i=2 then ks else []):=by
  rcases a.kp with⟨e,b⟩ | ⟨e,rfl⟩
  .rw[aT e];exact b
  rw[aS e];exact World.ownsRow_nil _ _ _ _
 have hr:jI N (aR j g T (if i=2 then ks else []) QV []) [] w:=by
  refine⟨fun c hr=>?_,?_,by simp,by simp⟩
  .rcases List.mem_append.1 hr with hr | hr
   .exact(b c hr).2
   simp at hr;rcases hr with rfl | rfl
   .exact a.st.row
   exact f
  unfold aR;rw[List.filterMap_append,List.nodup_append];refine⟨p.nodup_iff.2 a.ap,?_,fun A r C s e=>?_⟩
  .rcases dC a.st.row f (by decide)with q | q;all_goals cases e1:j.ownBlock <;> cases e2:g.ownBlock <;> simp_all
  subst e;obtain⟨c,hr,D⟩:=List.mem_filterMap.1 r;obtain⟨d,m,E⟩:=List.mem_filterMap.1 s;have u:=(b c hr).2;have l:d.e≠c.e∧w.ownsRow N d.e d.z d.v d.n d.xs:=by
   simp at m;rcases m with rfl | rfl
   .exact⟨by rcases(b c hr).1 with e | e <;> rw[e] <;> simp,a.st.row⟩
   exact⟨by rcases(b c hr).1 with e | e <;> rw[e] <;> simp,f⟩
  rcases dC l.2 u l.1 with q | q;all_goals simp_all
 refine⟨QV,hr,n,o,fun y f=>?_⟩;exact hr.lt y f
end
def uW (a:Nat) (p:World) (i l:Nat):Prop:=∃q j g e c d b f,bW q i l j g f (bR g e c d b []) (bM e c d b []) p∧(∀n∈b,∃k o m,n.one=.slice k (o+1) m)∧g.y=nQ∧e.length≤10000 * a∧b.length≤200 * a∧c.length≤3 * a∧d.length≤3 * a∧-(2000 * (a:Int))≤f∧f≤0
theorem uW.below {c:Nat}{w w':World}{B b:Nat} (a:uW c w B b) (hb:aB w w'):uW c w' B b:=by obtain⟨w0,i,v,f,d,e,g,k,a,j⟩:=a;exact⟨w0,i,v,f,d,e,g,k,a.below hb,j⟩
theorem aYg {H N1 N2 N3:Nat}{E wr:World}{y C vd vd' used used':Nat}{o m d a:Value}{b b':Bool}{n c:List (aJ×Value)}{p e:List Nat}{s f:List (List (Lt×Value)×Value)} (R:uW H E y C) (X:aB E wr) (b8:H≤10) (T:E.heap.size≤N2) (b5:N1≤N2) (b6:N2≤N3) (u:pD E.heap.size N1 wr o m n p s) (v:pD N2 N3 wr d a c e f) (b3:n.length≤101∧p.length≤101) (b4:c.length≤101∧e.length≤101) :
  Calls Tryz.prog 13 #[pQ C,mN vd o m used b] wr fun t w=>t=.returned (.tuple #[])∧Below y wr w∧(∀g,N3≤g→g < wr.heap.size→w.heap[g]?=wr.heap[g]?)∧Calls Tryz.prog 13 #[pQ C,mN vd' d a used' b'] w fun t I=>t=.returned (.tuple #[])∧Below y w I∧uW (H+2) I y C:=by
 obtain⟨d2,b2,D,A,x,z,B,c0,hK,b0,b1,d3,d4,d5,d6,d7,d8⟩:=R;have W:=u.rst.join v.rst T fun g a0 G=>by
  have:=v.rst.ge a0;have:=u.hi g G;omega
 have S:=hK.join X W (Nat.le_refl _);have b7:=hK.lt;have Q:aR o m n p s (bR D A x z B (aR d a c e f []))=aR o m n p s []++(bR D A x z B []++aR d a c e f []):=by simp[aR,bR]
 have a1:(aR d a c e f []++aR o m n p s []++bR D A x z B []).Perm (aR o m n p s (bR D A x z B (aR d a c e f []))):=by rw[Q,List.append_assoc];exact List.perm_append_comm.trans (.of_eq (List.append_assoc ..))
 refine(aKi (S.perm a1) u.vs u.small b0 (by omega) (by omega) (by omega) (by omega) (by omega) (by omega) (by omega)).mono ?_;rintro t w ⟨rfl,r,k,i,j,l,c1,a7,c7,c8,c9,d0,d1,a8,F⟩;refine⟨rfl,F.low,fun g b9 a3=>F.far g a3 (by omega) fun G=>?_,?_⟩
 .rcases aGr G with q | q
  .rcases aGr q with q | q
   .have:=v.hi g q;omega
   have:=u.hi g q;omega
  have:=hK.rst.lt g q;omega
 have a2:(bR r k i j l (aR d a c e f [])).Perm (aR d a c e f (bR r k i j l [])):=by rw[show bR r k i j l (aR d a c e f [])=bR r k i j l []++aR d a c e f [] by simp[bR],show aR d a c e f (bR r k i j l [])=aR d a c e f []++bR r k i j l [] by simp[aR]];exact List.perm_append_comm
 refine(aKi (F.perm a2).start v.vs v.small a8 (by omega) (by omega) (by omega) (by omega) (by omega) (by omega) (by omega)).mono ?_;rintro t I ⟨rfl,a9,N,L,M,P,a4,a5,c2,c3,c4,c5,c6,a6,J⟩;exact⟨rfl,J.low,_,_,a9,N,L,M,P,a4,J,a6,by rw[a5,a7,b1],by omega,by omega,by omega,by omega,by omega,by omega⟩
def aDi (m:ByteArray) (a:Int) (e:Nat) (c:List aJ) (l:List Nat) (n:Nat) (j:Bool) (g:Int):Prop:=
 (∃b f d,iS m b f d∧((d≠0∧g=d)∨(d=0∧¬(1≤a∧a≤100)∧g=7))∧e=0∧c=[]∧l=[]∧n=0∧j=false)∨
 (∃b f i k,iS m b f 0∧1≤a∧a≤100∧g=0∧tP a.toNat b e i k j∧c=i.map Prod.fst∧l=qG e k∧n=if e=1 then c.length - 1 else c.length)
theorem aDi.one {n:ByteArray}{m:Int}{q r:Nat}{e f:List aJ}{k l:List Nat}{o p:Nat}{g i:Bool}{s t:Int} (y:aDi n m q e k o g s) (j:aDi n m r f l p i t):q=r∧e=f∧k=l∧o=p∧g=i∧s=t:=by
 rcases y with⟨u,w,F,z,A,rfl,rfl,rfl,rfl,rfl⟩ | ⟨u,w,E,I,z,A,G,rfl,H,rfl,rfl,rfl⟩
 .rcases j with⟨a,b,x,c,d,rfl,rfl,rfl,rfl,rfl⟩ | ⟨a,b,v,D,c,d,B,rfl,C,rfl,rfl,rfl⟩;all_goals grind[iS.one,tP.one]
 rcases j with⟨a,b,x,c,d,rfl,rfl,rfl,rfl,rfl⟩ | ⟨a,b,v,D,c,d,B,rfl,C,rfl,rfl,rfl⟩;all_goals grind[iS.one,tP.one]
structure aMt (s:ByteArray) (lim:Int) (w w':World) (vd used:Nat) (V Kv:Value) (b:Bool) (x:Int) (T:List (aJ×Value)) (ks:List Nat):Prop where
 pure:aDi s lim vd (T.map Prod.fst) ks used b x
 mem:∃QV,pD w.heap.size w'.heap.size w' V Kv T ks QV
 st:iW w.heap.size w' V T
 cl:∀p∈T,bD p.1.c=true
 few:T.length≤101∧ks.length≤101
 may:∀wx,aB w' wx→Calls Tryz.prog 10 #[.string s,iQ lim,mN vd V Kv used b,iQ x] wx fun e w2=>e=.returned (.bool true)∧aB wx w2
theorem aMu (g:ByteArray) (b:Int) (m:World) (x:g.size≤140737488355328):Calls Tryz.prog 9 #[.string g,iQ b] m fun a u=>aB m u∧∃c p A z n d e l,a=.returned (.tuple #[mN c A z p n,iQ d])∧aMt g b m u c p A z n d e l:=by
 refine(aYf g b m x).mono ?_;rintro a u ⟨q,r,f,t,F,G⟩;refine⟨F,?_⟩;have B:∀d,((f≠0∧d=f)∨(f=0∧¬(1≤b∧b≤100)∧d=7))→aMt g b m u 0 0 (nQ) (nQ) false d [] []:=fun d o=>
  ⟨Or.inl ⟨q,r,f,t,o,rfl,rfl,rfl,rfl,rfl⟩,⟨[],.nil⟩,⟨World.ownsRow_nil _ _ _ _,by simp⟩,by simp,by simp,fun y _=>bHr g b q r f d y x t o⟩
 rcases G with⟨i,rfl⟩ | ⟨i,s,rfl⟩ | ⟨rfl,i,s,c,D,C,p,n,e,l,rfl,k,w⟩
 .exact⟨0,0,_,_,false,f,[],[],rfl,B f (Or.inl ⟨i,rfl⟩)⟩
 .exact⟨0,0,_,_,false,7,[],[],rfl,B 7 (Or.inr ⟨i,s,rfl⟩)⟩
 have j:=w.1.1;have H:e.length≤101:=by
  by_cases a:c=1
  .obtain⟨J,M,E,_,L⟩:=j.unsat a;rw[E];simp;omega
  have:=j.len a;omega
 have v:(qG c l).length≤101:=by
  unfold qG;split
  .rename_i a;have:=aJd _ 0 e.length (j.sat a).srt fun I v=>⟨Nat.zero_le _,(j.sat a).lt I v⟩
   omega
  simp
 exact⟨c,p,D,C,n,0,e,qG c l,rfl,⟨Or.inr ⟨q,r,e,l,t,i,s,rfl,w.1,rfl,rfl,by rw[List.length_map];exact k.us⟩,k.mem j.cl,k.st,j.cl,⟨H,v⟩,fun y o=>bHt g b q r m.heap.size c p D C n e l y x t i s (k.st.below o) (by
  rcases k.kp with⟨a,h⟩ | h
  .exact Or.inl ⟨a,bF h o (Nat.le_refl _)⟩
  exact Or.inr h) k.us w⟩⟩
set_option maxHeartbeats 16000000 in
theorem aYh (z:ByteArray) (a5:Int) (p N a7:Nat) (o:World) (Q:uW a7 o p N) (i5:a7≤10) (d8:z.size≤140737488355328) :
  Calls Tryz.prog 5 #[pQ N,.string z,iQ a5] o fun e i=>e=.returned (.bool true)∧Below p o i∧uW (a7+2) i p N:=by
 have b5:=O (aMu z a5 o d8);have b6:=O (fun C=>aMu z a5 C d8);have g2:=O Q;have g1:aE (p≤o.heap.size):=O (by obtain⟨_,_,_,_,_,_,_,_,i2,_⟩:=Q;exact i2.bw);clear Q;go_enter Tryz.func5,Tryz.ntmps5;go_upto_region 2 with(first
  | (go_at_call 9;refine(aD b5).mono ?_;rintro e j ⟨f,s,r,k0,j6,q,j5,d,a4,rfl,R⟩;obtain⟨j8,w⟩:=R.mem;obtain⟨f0,f1,rfl⟩:=aZ w.st;obtain⟨e1,e2,rfl⟩:=w.kp.shape;unfold mN;have L:=O f;have m:=O R;have g6:=O w;clear f R w)
  | go_in)
 obtain⟨b3,d9,d0,l3,D,E,F,G,H⟩:=aCs j (iQ s) (.slice f0 d.length f1) (.slice e1 a4.length e2) (iQ r) (.bool q);rw[d9];have b7:=O (aD b6 b3);have b9:=O d0;clear d9 d0 b5 b6;go_upto_region 3 with(first
  | (go_at_call 9;refine(aD b7).mono ?_;rintro e g ⟨l,m4,m3,k1,j7,k2,m7,u,l7,rfl,v⟩;obtain⟨j9,x⟩:=v.mem;obtain⟨j3,j4,rfl⟩:=aZ x.st;obtain⟨j0,j1,rfl⟩:=x.kp.shape;obtain⟨i7,c8,i4,i6,i3,i8⟩:=m.o.pure.one v.pure;subst i7 i4 i6 i3 i8;unfold mN;have c0:=O l;have b8:=O v;have g7:=O x;have c3:=O c8;clear l v x c8)
  | go_in)
 have c9:u.length=d.length:=by have:=congrArg List.length c3.o;simpa using this.symm
 obtain⟨A,e0,T,l5,f2,b4,f3,f4,f5⟩:=aCs g (iQ s) (.slice j3 u.length j4) (.slice j0 a4.length j1) (iQ r) (.bool q);rw[e0];have k:aB b3 A:=bE c0.o T;replace D:=aC k D
 replace E:=aC k E
 replace F:=aC k F
 replace G:=aC k G
 replace H:=aC k H
 have S:aB j A:=bE b9.o k;have J:=O (fun (C:World) (a1:∃P,C=A.drewN P)=>(m.o.may C (bE S (aN a1))).mono (R':=fun e B=>e=.returned (.bool true)∧aB A B) (fun e B d2=>⟨d2.1,(aN a1).trans (d2.2.mono (aN a1).size)⟩));unfold mN at J;have f7:=O S;have f9:=O T;rw[c9]at b4 ⊢;clear e0 T k S b7;go_wp2;go_region_held3 (fun i=>cQ i j.heap.size 0 (iQ s)∧cQ i j.heap.size 1 (.slice f0 d.length f1)∧cQ i j.heap.size 2 (.slice e1 a4.length e2)∧cQ i j.heap.size 3 (iQ r)∧cQ i j.heap.size 4 (.bool q)) (first | trivial | go_keep)
  (first
   | (go_at_call 11;refine(bBg j5 _).mono ?_;rintro e m6 ⟨rfl,rfl⟩)
   | (go_at_call 10;refine(aD J _ (by first | exact⟨0,rfl⟩ | exact⟨1,rfl⟩ | exact⟨_,rfl⟩)).mono ?_;rintro e B ⟨rfl,c⟩;have e5:=aC c D;have e6:=aC c E;have e7:=aC c F;have e8:=aC c G;have e9:=aC c H;have a8:=aC c f2;have a9:=aC c b4;have b0:=aC c f3;have b1:=aC c f4;have b2:=aC c f5;have M:=O c;clear c)
   | go_in)
 have f8:=O (bE f7.o M.o);have c1:=O (bE f9.o M.o);clear D E F G H f2 b4 f3 f4 f5 J;go_wp2;go_loopw[12,13] (fun h6 a2 wr=>∃a:Nat,a≤d.length∧h6=.bool true∧a2=iQ a∧∃P,wr=B.drewN P) (fun _ a2 _=>d.length - (intOf a2).toNat);exact⟨0,Nat.zero_le _,rfl,rfl,0,rfl⟩;obtain⟨a,k9,rfl,rfl,y⟩:=hrel;have k8:=m.o.few.1;have b:=aN y;have f:=bE f8.o b;have l:=bE c1.o b;replace e5:=aC b e5
 replace e6:=aC b e6
 replace e7:=aC b e7
 replace e8:=aC b e8
 replace e9:=aC b e9
 replace a8:=aC b a8
 replace a9:=aC b a9
 replace b0:=aC b b0
 replace b1:=aC b b1
 replace b2:=aC b b2
 by_cases X:a < d.length
 .have l0:(a:Int) < (d.length:Int):=by omega
  have d6:a < u.length:=by omega
  obtain⟨k6,k3,h4,h7,c5,-,k5,d7⟩:=(m.o.st.below f).cell X;obtain⟨k7,k4,h5,h8,c6,-,h9,a0⟩:=(b8.o.st.below l).cell d6;simp at c5 c6;obtain⟨rfl,rfl⟩:=c5;obtain⟨rfl,-⟩:=c6;have d1:u[a].1.c=d[a].1.c:=by have:=congrArg (fun j2=>j2[a]?) c3.o;simp[X,d6]at this;rw[this]
  rw[d1]at h9 a0;have W:=mB (m.o.cl _ (List.getElem_mem X));obtain⟨_,_,i0,_,e3,_⟩:=d7.lits W;obtain⟨_,_,i1,_,e4,_⟩:=a0.lits W;cases i0;cases i1;have c2:=O (fun a6=>aAs h4 h5 h7 h8 d[a].1.c d[a].1.c (wr.drewN a6) (e3.drawn ⟨a6,rfl⟩) (e4.drawn ⟨a6,rfl⟩));rw[fL rfl]at c2;generalize d[a].1.c.length=cn at *;have g8:=O y;clear d7 a0 e3 e4 W d1 y b f l;go_wp2;go_quiet ((go_at_call 12;exact Calls.quiet_of (aD c2 _)));go_wp2;exact⟨⟨a+1,by omega,rfl,by go_num,iK g8.o (by first | exact dT _ _ _ | exact⟨_,rfl⟩)⟩,by simp[intOf];omega⟩
 have l4:=c0.o.size;have i9:=c1.o.size;have l2:=b9.o.size;have l1:=L.o.size;have l6:g.heap.size < wr.heap.size:=by
  have:=M.o.size;have:=b.size;omega
 have I:=O (aYg (vd:=s) (vd':=s) (used:=r) (used':=r) (b:=q) (b':=q) (N1:=j.heap.size) (N2:=b3.heap.size) (N3:=g.heap.size) g2.o (bE L.o f) i5 (by omega) (by omega) (by omega) (g6.o.same fun a _ a3=>f.block a a3) (g7.o.same fun a _ a3=>l.block a a3) m.o.few b8.o.few);have g5:aE (Below p o wr):=O ((bE L.o f).mono g1.o);unfold mN at I;rw[c9]at I;have g9:=O a8;have h0:=O a9;have h1:=O b0;have h2:=O b1;have h3:=O b2;clear b f l i9 y;go_wp2_with(first
  | (go_at_call 13;refine(aD f6).mono ?_;rintro e m5 ⟨rfl,d5,c7⟩;have g0:=O c7;have g4:=O (g3.o.trans d5);clear c7 d5)
  | (go_at_call 13;refine(aD I).mono ?_;rintro e t ⟨rfl,d4,d3,c4⟩;have g3:=O (g5.o.trans d4);have n:=d3 g.heap.size (Nat.le_refl _) (by omega);have l8:t.cell? (aQ g.heap.size 0)=_:=(World.cell?_of_block n).trans g9.o;have l9:t.cell? (aQ g.heap.size 1)=_:=(World.cell?_of_block n).trans h0.o;have m0:t.cell? (aQ g.heap.size 2)=_:=(World.cell?_of_block n).trans h1.o;have m1:t.cell? (aQ g.heap.size 3)=_:=(World.cell?_of_block n).trans h2.o;have m2:t.cell? (aQ g.heap.size 4)=_:=(World.cell?_of_block n).trans h3.o;have f6:=O c4;clear d3 c4 n d4)
  | go_in)
 go_ret;exact⟨rfl,g4.o,g0.o⟩
theorem bT.push {x:aJ×Int}{f:List (aJ×Int)}{a L':List Cd}{b e:Nat}{c d:Bool} (j:bT (x :: f) a b c L' e d) (k:x.2=0) (l:bN x.1.c=true) (m:dU x.1.c=false):∃g i,bT f (fI a.length (a++[gV x.1 g i b]) a.length) (b+1) c L' e d:=by grind[bT]
theorem aYi:aAw pN:=⟨by kernel_rfl,by kernel_rfl⟩
theorem aGs (c d:List Lt) (a:c=cP∨c=gS) (b:d=cP∨d=gS):lO c d=[(0,0)]:=by rcases a with rfl | rfl <;> rcases b with rfl | rfl <;> simp[lO,nO,mW,nN,cP,gS,List.range_succ]
theorem aMv {c:List Lt} (a:c=cP∨c=gS) (b:Nat):nE c b=[]:=by unfold nE;rw[aGs c c a a];simp[oK]
theorem aMw {c:List Lt} (a:c=cP∨c=gS) (b d:Nat):gZ c b c d=[]:=by unfold gZ;rw[aGs c c a a];simp[nY]
theorem aYj:qA gS 0 cP 0=([],true,0):=
 aIy (c:=gS) (d:=cP) (i:=0) (j:=0) (by decide) (by decide) (aUf aYi 0 1 [] (by simp) (by decide))
theorem aYk (a b:Nat):gZ gS a cP b=[(⟨2,a,b,0,0,[]⟩,0)]:=by
 have c:nY gS a cP b (0,0)=some (⟨2,a,b,0,0,[]⟩,0):=by unfold nY;rw[aT (by decide)];simp only[aYj];rw[aT (by simp)]
 grind[aGs,gZ]
def jK:aJ:=⟨1,0,0,0,0,cP⟩
def nK:aJ:=⟨1,1,0,0,0,gS⟩
def tQ:aJ:=⟨2,1,0,0,0,[]⟩
theorem aYl:bL cP gS=false:=aMo (l:=(false,[pN])) (by simp[cP]) (by simp[gS])
theorem aYm:bL gS cP=false:=aMo (l:=(true,[pN])) (by simp[gS]) (by simp[cP])
theorem aYn (a:Value):eV ([]++[(jK,a)]) 0 [0]=[]:=by grind[cP,aO,aMv,eV,aMw,jK]
theorem aYo (b a:Value):eV ([(jK,b)]++[(nK,a)]) 1 [0,1]=[(tQ,0)]:=by unfold eV;rw[show aO ([(jK,b)]++[(nK,a)]) 1=gS from rfl,aMv (Or.inr rfl)];simp only[List.flatMap_cons,List.flatMap_nil,List.nil_append,List.append_nil];rw[show aO ([(jK,b)]++[(nK,a)]) 0=cP from rfl,show aO ([(jK,b)]++[(nK,a)]) 1=gS from rfl];rw[aYk,aMw (Or.inr rfl)];rfl
theorem aYp {x a:Cd} (b:kX a x=false):fI 1 [x,a] 1=[x,a]:=by simp[fI,b]
def aMx (c:Nat) (a:List (aJ×Value)) (_:List Nat) (b:Bool):Prop:=c=1∧a.map Prod.fst=[jK,nK,tQ]∧b=false
theorem aYq {q:List Cd}{v:Nat} (b:bT (iX [cP,gS]) [] 0 false q v false):eA 100 aMx q v [] [] false:=by
 have z:iX [cP,gS]=[(jK,0),(nK,0)]:=rfl;rw[z]at b;obtain⟨i,j,b⟩:=b.push rfl (by kernel_rfl) (by kernel_rfl);obtain⟨r,s,b⟩:=b.push rfl (by kernel_rfl) (by kernel_rfl);obtain⟨rfl,rfl,_⟩:=b;obtain⟨a,k⟩:∃g,gV jK i j 0=g:=⟨_,rfl⟩;obtain⟨f,n⟩:∃g,gV nK r s (0+1)=g:=⟨_,rfl⟩;have A:fI (fI ([]:List Cd).length ([]++[gV jK i j 0]) ([]:List Cd).length).length (fI ([]:List Cd).length ([]++[gV jK i j 0]) ([]:List Cd).length++[gV nK r s (0+1)]) (fI ([]:List Cd).length ([]++[gV jK i j 0]) ([]:List Cd).length).length=[a,f]:=by subst k n;exact aYp (by simp[kX,gV,jK,nK,cP,gS,aY])
 rw[A];have B:iC [a,f]=[f]:=by subst k n;rfl
 have y:a.c=cP:=by subst k;rfl
 have p:f.c=gS:=by subst n;rfl
 have D:(Value.slice a.ad a.ln a.cp)=.slice i 1 j:=by subst k;rfl
 refine eA.take jK ⟨by subst k;exact⟨rfl,rfl,rfl,rfl,rfl⟩,y⟩ (L':=[f]) (x:=a) (by simp) ?_ (by simp[jK,cP]) (by decide) (by simp) ?_ ?_ ?_ ?_
 .rw[←B];rfl
 all_goals rw[show dE [] [] jK.c=[0] from rfl,show ([]:List (aJ×Value)).length=0 from rfl,aYn]
 .simp
 .simp
 .simp
 rintro w C x ⟨rfl,rfl,rfl⟩;have e:dE ([]++[(jK,Value.slice a.ad a.ln a.cp)]) [0] nK.c=[0,1]:=by unfold dE;simp only[List.filter];rw[show aO ([]++[(jK,Value.slice a.ad a.ln a.cp)]) 0=cP from rfl,show nK.c=gS from rfl,aYm];rfl
 refine eA.take nK ⟨by subst n;exact⟨rfl,rfl,rfl,rfl,rfl⟩,p⟩ (L':=[]) (x:=f) (fun g o u e=>by
  simp at o e;subst o e;rw[p];exact zN (c:=cP) (d:=gS) (by kernel_rfl) (by kernel_rfl)) ?_ (by simp[nK,gS]) (by simp) (fun u e=>by
  simp at e;subst e;exact zN (c:=gS) (d:=cP) (by kernel_rfl) (by kernel_rfl)) ?_ ?_ ?_ ?_
 .show dW _ 1 [f]=_;unfold dW;simp only;rw[p,aS (by simp;exact aYl)];rfl
 all_goals rw[e]
 all_goals rw[show ([]++[(jK,Value.slice a.ad a.ln a.cp)]:List (aJ×Value)).length=1 from rfl,show ([]++[(jK,Value.slice a.ad a.ln a.cp)]:List (aJ×Value))=[(jK,Value.slice a.ad a.ln a.cp)] from rfl,aYo]
 .intro E t;simp at t;subst t;exact⟨⟨by simp[tQ],by simp[tQ]⟩,fun _ _=>by kernel_rfl⟩
 .simp
 .simp
 intro w C x b;obtain⟨l,m,b⟩:=b.push rfl (by kernel_rfl) (by kernel_rfl);obtain⟨rfl,rfl,rfl⟩:=b;refine eA.unsat tQ ⟨⟨rfl,rfl,rfl,rfl,rfl⟩,rfl⟩ (x:=gV tQ l m (0+1+1)) (L':=[]) (fun g o u e=>?_) ?_ rfl ⟨rfl,rfl,rfl⟩
 .obtain rfl:g=gV tQ l m (0+1+1):=by simpa[fI]using o
  simp at e;rcases e with rfl | rfl
  .exact zN (c:=cP) (d:=[]) (by kernel_rfl) (by kernel_rfl)
  exact zN (c:=gS) (d:=[]) (by kernel_rfl) (by kernel_rfl)
 show dW _ 1 [gV tQ l m (0+1+1)]=_;unfold dW;simp only;rw[aS ?_]
 .rfl
 simp only[show (gV tQ l m (0+1+1)).c=[] from rfl,List.any_cons,List.any_nil,Bool.or_false,Bool.or_eq_true,not_or];refine⟨?_,?_⟩
 .rw[aMn (by simp[aO,jK,nK,cP,gS])];simp
 rw[aMn (by simp[aO,jK,nK,cP,gS])];simp
set_option maxHeartbeats 8000000 in
theorem aYr (n o:Option Addr) (i j:Nat) (a c:List Lt) (b d:Nat) (e:World) (v:bU e n a) (w:bU e o c) (H:bD a=true) (I:bD c=true) (q:b < a.length) (r:d < c.length) (G:a[b].1≠c[d].1) (L:Calls Tryz.prog 31 #[.slice n a.length i] e fun g l=>g=.returned (.bool true)∧aB e l) (M:∀f,aB e f→Calls Tryz.prog 31 #[.slice o c.length j] f fun g l=>g=.returned (.bool true)∧aB f l) :
  Calls Tryz.prog 17 #[.slice n a.length i,iQ b,.slice o c.length j,iQ d] e fun g l=>SpQ (jA a c b d) e g l:=by
 have a3:=O L;have a4:=O M;have P:=O (fun f=>aKf n a.length i b f);have Q:=O (fun f=>aKf o c.length j d f);rw[fL (by omega)]at P Q;have c7:(b:Int) < (a.length:Int):=by omega
 have c9:(d:Int) < (c.length:Int):=by omega
 have c8:(0:Int)≤(b:Int):=by omega
 have d0:(0:Int)≤(d:Int):=by omega
 obtain⟨R,a0,c1,c2,rfl,y,_,_⟩:=v.cell b q;obtain⟨S,a1,c3,c4,rfl,z,_,_⟩:=w.cell d r;have b6:(a[b].1 == c[d].1)=false:=by simpa using G
 have C:=mB H;have F:=mB I;have a5:=O (fun (f:World) (k:aB e f)=>aRb (some (aQ R a0)) (some (aQ S a1)) i j a c b d f (v.below k (Nat.le_refl _)) (w.below k (Nat.le_refl _)) C.term F.term q r C.len F.len);have a9:aE (∀s u p t m,aB e t→CoR t t.heap.size (aW 0 a[b].2++aW 1 c[d].2) 0 a[b].2.length (bY 0 [(a,b),(c,d)]) s u p m→SpQ (jA a c b d) e (.returned (.tuple #[s,.bool u,iQ p])) m):=O fun s u p t m k W=>by
  obtain⟨b7,b2,b3,b4⟩:=(W.lift k).out;exact⟨s,b7,u,p,rfl,Or.inr ⟨H,I,Or.inr ⟨b,d,⟨q,r,rfl,rfl,G⟩,by simpa[q,r]using b2⟩⟩,b3,b4,(W.lift k).low⟩
 obtain⟨c5,B⟩:∃J,a[b].1=J:=⟨_,rfl⟩;obtain⟨c6,E⟩:∃J,c[d].1=J:=⟨_,rfl⟩;rw[B]at y;rw[E]at z;rw[B,E]at b6;clear B E G v w H I C F L M;go_enter Tryz.func17,Tryz.ntmps17;go_upto_region 3 with(first
  | (go_at_call 31;refine(aD a4 _ N.o).mono ?_;rintro g a2 ⟨rfl,X⟩;have x:=O (N.o.trans (X.mono b5));clear X)
  | (go_at_call 31;refine(aD a3).mono ?_;rintro g d1 ⟨rfl,A⟩;have N:=O A;have b5:=A.size;clear A))
 have b0:=aC x.o y;have b1:=aC x.o z;go_quiet (first | (go_at_call_of 32 (Value.slice (some (aQ R a0)) a.length i);exact Calls.quiet_of_same (aD P _)) | (go_at_call_of 32 (Value.slice (some (aQ S a1)) c.length j);exact Calls.quiet_of_same (aD Q _)));have D:aB e (a2.drewN nq):=bE x.o (aN (w1:=a2.drewN nq) ⟨nq,rfl⟩);have a6:=O (a5.o _ D);have a8:=O D;clear y z b0 b1 D;go_wp2_with(first
  | (go_at_call 33;refine(aD a6).mono ?_)
  | go_in)
 rintro g m ⟨b9,c0,b8,rfl,T⟩;have a7:=O (a9.o b9 c0 b8 _ m a8.o T);clear T;go_wp2;go_returns;exact a7.o
theorem aYs (k l:Option Addr) (m n:Nat) (a b:List Lt) (e f:Nat) (c:World) (i:bU c k a) (j:bU c l b) (w:bD a=true) (x:bD b=true) (C:e < a.length) (D:f < b.length) (v:a[e].1≠b[f].1) (p:Calls Tryz.prog 31 #[.slice k a.length m] c fun d g=>d=.returned (.bool true)∧aB c g) (q:∀o,aB c o→Calls Tryz.prog 31 #[.slice l b.length n] o fun d g=>d=.returned (.bool true)∧aB o g) :
  Calls Tryz.prog 8 #[.slice k a.length m,iQ e,.slice l b.length n,iQ f] c fun d g=>SpQ (jA a b e f) c d g:=by
 have y:=O (aYr k l m n a b e f c i j w x C D v p q);clear i j w x v p q;go_enter Tryz.func8,Tryz.ntmps8;go_wp2_with(first
  | (go_at_call 17;refine(aD y).mono ?_;rintro d H ⟨G,E,F,B,rfl,r,s,t,u⟩;have i:=O r;have j:=O s;have z:=O t;have A:=O u;clear r s t u)
  | go_in)
 go_returns;exact⟨_,E,F,B,rfl,i.o,j.o,z.o,A.o⟩
theorem aYt:jA [(false,sT)] [(true,sU)] 0 0 [] true 0:=
 Or.inr ⟨by kernel_rfl,by kernel_rfl,Or.inr ⟨0,0,⟨by decide,by decide,rfl,rfl,by decide⟩,aUg⟩⟩
theorem aYu (d:World):Calls Tryz.prog 9 #[.string ⟨#[112,46,32,126,112,46]⟩,iQ 100] d fun l k=>∃b n c j a,l=.returned (.tuple #[.agg #[iQ 1,.slice b n c,nQ,iQ (j:Nat),.bool false],iQ 0])∧a.map Prod.fst=[jK,nK,tQ]∧iW d.heap.size k (.slice b n c) a∧aB d k:=by
 refine(aKw _ 100 (fun _=>aMx) d (by decide) (fun u o e=>?_)).mono ?_
 .obtain⟨rfl,_,_⟩:=aP5 e;refine⟨fun x m=>?_,by simp,fun t z _ _ v B i=>?_⟩
  .simp at m;rcases m with rfl | rfl <;> kernel_rfl
  obtain rfl:t=100:=by omega
  exact aYq i
 rintro l k ⟨u,o,y,s,r,e⟩;obtain⟨rfl,rfl,rfl⟩:=aP5 s;rcases e with⟨f,_⟩ | ⟨_,f,_⟩ | ⟨_,_,_,C,E,D,j,w,a,A,rfl,g,q⟩
 .exact absurd rfl f
 .exact absurd ⟨by decide,by decide⟩ f
 obtain⟨⟨rfl,i,rfl⟩,_⟩:=q;obtain⟨b,c,rfl⟩:=aZ g.st.row;rcases g.kp with⟨p,_⟩ | ⟨_,rfl⟩
 .cases p
 exact⟨b,_,c,j,a,rfl,i,g.st,r⟩
set_option maxHeartbeats 4000000 in
theorem aYv (q:Value) (g:World) (L:pE g):Calls Tryz.prog 4 #[q] g fun a t=>a=.returned (.bool true)∧aB g t:=by
 have H:=O (bHq ⟨#[112,40,97,41,46,32,126,112,40,88,41,46]⟩ g (by decide));have w:=O L;clear L;go_enter Tryz.func4,Tryz.ntmps4;go_wp2_with(first
  | (go_at_call 7;refine(aD H).mono ?_)
  | go_in)
 clear H;rintro a T ⟨b7,a0,b1,a3,rfl,P,N,n⟩;obtain⟨f,rfl,rfl⟩:=bCa P;have o:=N.cls;obtain⟨d,D⟩:∃d,(a0.map fun q=>(q.1.map Prod.fst,q.2))=d:=⟨_,rfl⟩;rw[←uI.fsts,D]at f;rw[D]at o;have p:d.length=2:=by have:=congrArg List.length f;simpa using this
 have R:d[0].1=[(false,sT)]:=by have:=congrArg (fun E=>E[0]?) f;simpa[p]using this
 have S:d[1].1=[(true,sU)]:=by have:=congrArg (fun E=>E[1]?) f;simpa[p]using this
 obtain⟨J,b2,z,B,rfl,-,j,F⟩:=o.cell (k:=0) (by omega);obtain⟨b4,b3,A,C,M,-,l,G⟩:=o.cell (k:=1) (by omega);simp at M;obtain⟨rfl,rfl⟩:=M;rw[R]at j F;rw[S]at l G;rw[p];obtain⟨_,_,a1,-,x,-⟩:=F.lits (mB (by kernel_rfl));cases a1;obtain⟨_,_,a2,-,y,-⟩:=G.lits (mB (by kernel_rfl));cases a2;have v:=O (fun (i:World) (b:∃m,i=T.drewN m)=>(aYs z A B C [(false,sT)] [(true,sU)] 0 0 i (x.below (aN b) (Nat.le_refl _)) (y.below (aN b) (Nat.le_refl _)) (by kernel_rfl) (by kernel_rfl) (by decide) (by decide) (by decide) (aNy z B false sT i (x.below (aN b) (Nat.le_refl _)) (by kernel_rfl) (of_decide_eq_true (by kernel_rfl)) ((w.o.below n (Nat.le_refl _)).below (aN b) (Nat.le_refl _))) (fun a9 Q=>aNy A C true sU a9 ((y.below (aN b) (Nat.le_refl _)).below Q (Nat.le_refl _)) (by kernel_rfl) (of_decide_eq_true (by kernel_rfl)) (((w.o.below n (Nat.le_refl _)).below (aN b) (Nat.le_refl _)).below Q (Nat.le_refl _)))).mono (R':=fun a u=>∃r s,a=.returned (.tuple #[.slice r 0 s,.bool true,iQ 0])∧aB g u∧aB T u) (fun a u a5=>by
  obtain⟨m,rfl⟩:=b;obtain⟨b8,b5,c3,a3,rfl,a6,a4,_,e⟩:=a5;obtain⟨rfl,rfl,rfl⟩:=a6.one aYt;obtain⟨r,s,rfl⟩:=a4.shape;exact⟨r,s,rfl,bE n ((aN ⟨m,rfl⟩).trans e),(aN ⟨m,rfl⟩).trans e⟩))
 have W:=O (fun (i:World)=>aYu i);clear P N n f o D R S F G x y w p;simp only[List.length_cons,List.length_nil,Nat.zero_add]at j l v;go_wp2;go_region_held3 (fun t=>cQ t J 0 (.slice z 1 B)∧cQ t J 1 (.slice A 1 C)) (first | trivial | go_keep)
  (first
   | (go_at_call 8;refine(aD v _ (by first | exact⟨0,rfl⟩ | exact⟨1,rfl⟩ | exact⟨_,rfl⟩)).mono ?_;rintro a u ⟨r,s,rfl,e,c⟩;have a7:=aC c j;have a8:=aC c l;have X:=O e;clear e c)
   | go_in)
 clear a7 a8 j l v;go_wp2_with(first
  | (go_at_call 9;refine(aD W _).mono ?_;rintro a c2 ⟨b9,c1,c0,b6,b0,rfl,-,-,c⟩;have I:=O (bE X.o c);clear c)
  | go_in)
 go_ret;exact⟨rfl,I.o.alloc I.o.size _⟩
abbrev wR:Value:=nQ
abbrev aB7:Bx:=⟨wR,wR,wR,wR,wR,wR,wR,wR⟩
theorem aYw (a:World):uW 0 (a.alloc (.cells (wN aB7 0) 30)) a.heap.size a.heap.size:=by refine⟨a.alloc (.cells (wN aB7 0) 30),[],aB7,[],[],[],[],0,⟨heap_alloc_new ..,Nat.le_refl _,⟨fun c b=>?_,by simp[bR,Value.ownBlock],by simp[bM,mE,mF,mA,mD],by simp[bM,mE,mF,mA,mD]⟩,by simp[iA,bR,bM,mE,mF,mA,mD,Value.ownBlock],by simp[iA,bR,bM,mE,mF,mA,mD,Value.ownBlock],fun _ _ _ _=>rfl,dP⟩,by simp,rfl,by simp,by simp,by simp,by simp,by simp,by simp⟩;simp[bR]at b;rcases b with rfl | rfl | rfl | rfl | rfl | rfl | rfl <;> exact World.ownsRow_nil _ _ _ _
set_option maxHeartbeats 4000000 in
theorem aYx (b:ByteArray) (d:Int) (a:World) (i:b.size≤140737488355328) (o:pE a) :
  Calls Tryz.prog 3 #[.string b,iQ d] a fun c E=>c=.returned (.bool true)∧aB a E:=by
 have f:aB a (a.alloc (.cells (wN aB7 0) 30)):=aI a _;have l:=O (aYv (pQ a.heap.size) (a.alloc (.cells (wN aB7 0) 30)) (o.below f (Nat.le_refl _)));have e:=O (fun (u:World) (b:ByteArray) (d:Int) (j:Nat) (C:uW j u a.heap.size a.heap.size) (D:j≤10) (i:b.size≤140737488355328)=>aYh b d a.heap.size a.heap.size j u C D i);have x:=O f;clear o f;go_enter Tryz.func3,Tryz.ntmps3;go_upto_region 3 with(first
  | (go_at_call 4;refine(aD l).mono ?_;rintro c F ⟨rfl,g⟩;have z:=O (x.o.trans (g.mono (by simp)));have y:=O ((aYw a).below g);clear g)
  | go_in)
 have k:=O (aD e F b d 0 y.o (by omega) i);go_upto_region 4 with(first
  | (go_at_call 5;refine(aD k).mono ?_;rintro c G ⟨rfl,s,q⟩;have A:=O (z.o.trans s);have v:=O (aD e G ⟨#[112,40,88,41,32,124,32,113,40,88,41,46,32,126,112,40,97,41,46,32,126,113,40,98,41,46]⟩ 20 2 q (by omega) (by decide));clear s q)
  | go_in)
 clear k l e;go_upto_region 5 with(first
  | (go_at_call 5;refine(aD v).mono ?_;rintro c H ⟨rfl,t,r⟩;have n:=O (A.o.trans t);have m:=O r;clear t r)
  | go_in)
 obtain⟨_,_,R,N,L,M,P,Q,hK,I,J,T,W,X,a0,a1⟩:=m.o;have w:=O (aU6 H hK I J (by omega) (by omega) (by omega) (by omega));clear hK m;go_wp2_with(first
  | (go_at_call 6;refine(aD w).mono ?_;rintro c S ⟨rfl,p⟩;have B:=O (n.o.trans (p.mono n.o.size));clear p)
  | go_in)
 go_ret;exact⟨rfl,B.o⟩
end Go.Proofs.YtenobhkjiebhaaaGreatDoor
namespace Go.Proofs.YtenobhkjiebhaaaGreatDoor
open Go.ChangeShapes Go.WideShapes Go.ChangeAt Go.RowKit Go.Lib Go.Shelf
set_option maxRecDepth 100000
theorem own:ownKnob Tryz.prog.godebug=none:=by kernel_rfl
theorem aMy:laidOutB Tryz.prog=true:=by kernel_rfl
theorem aYy {a:World} (d:laidMetH Tryz.prog Rows.solvedRow.laid a):pE a:=by
 have b:laidMet Tryz.prog Rows.solvedRow.laid a:=d;refine utf8Tabs_of_readsT (U8Types.of196 aLr) ⟨by kernel_rfl,by kernel_rfl,by kernel_rfl,by kernel_rfl,by kernel_rfl,by kernel_rfl,by kernel_rfl⟩ ?_ ?_
 .rw[←Pinned.utf8First_eq];exact Lib.laidMet.reads b (by simp[Rows.solvedRow,Rows.laid_unicode_utf8_first])
 have c:(Rows.laid_unicode_utf8_acceptRanges:DataW Unit)=acceptData:=by kernel_rfl
 rw[←c];exact Lib.laidMet.reads b (by simp[Rows.solvedRow])
theorem contract (m:Type) (i:TypeId×Value→m) (a:World) (H:Nat) (f:Array Value) (p y:List (DataW m)) (I:List MemPlace)
  (v:∀(G:Nat) t k,Tryz.f3.params[G]?=some t→f[G]?=some k→Value.okWide Tryz.prog a .any H t k)
  (C:DataW.Whole i Tryz.prog Tryz.f3.params.toList Rows.solvedSpec.vars false a f.toList p y I)
  (a2:(DataW.weightsEach Tryz.prog (Tryz.f3.params.toList++Rows.solvedSpec.plain.varTypes Tryz.prog) (p++y)).all (·≤reachBytes)=true)
  (P:laidMetH Tryz.prog Rows.solvedRow.laid a) :
  Calls Tryz.prog 3 f a fun l b=>∃k,l=.returned k∧Rows.solvedSpec.post i Tryz.prog Tryz.f3 false true false false a f k b:=by
 have s:=C;obtain⟨a3,a9,B,Q,rfl,_,_⟩:=C;have A:DataW.TrodAll i Tryz.prog a 0 (fun _=>true) true Tryz.f3.params.toList f.toList p a3:=B;have E:=a2;rw[Tryz.params3]at A v E;obtain⟨a5,a6,g,o,w,x,rfl,rfl,rfl,z,M⟩:=trodAll_two A;obtain⟨rfl,rfl⟩:=trodVars_none Q;obtain⟨c,rfl⟩:=okWide_string Tryz.underlying9 (v 0 9 a5 rfl rfl);obtain⟨F,rfl⟩:=okWide_int Tryz.underlying3 (v 1 3 a6 rfl rfl);have L:=z;have N:=M;obtain⟨a7,a0⟩:=z;clear B;simp only[List.append_nil]at s;have D:∀e∈w++x,e.block < a.heap.size:=fun e j=>by simpa using s.lt e j
 have R:∀(b:World),aB a b→DataW.Trod i Tryz.prog b 0 (fun n=>decide (n < a.heap.size)) true 9 (.string c) g w:=
  fun b u=>Below.trod aMy (by kernel_rfl) (of_decide_eq_true (by kernel_rfl)) L u (fun e j=>D e (by simp[j]))
 have S:∀(b:World),aB a b→DataW.Trod i Tryz.prog b 0 (fun n=>decide (n < a.heap.size)) true 3 (.int .i64 F) o x:=
  fun b u=>Below.trod aMy (by kernel_rfl) (of_decide_eq_true (by kernel_rfl)) N u (fun e j=>D e (by simp[j]))
 have a1:c.size≤140737488355328:=by
  obtain⟨a4,l,T,_⟩:=DataW.trod_string Tryz.underlying9 a0;obtain rfl:c=a4:=by simpa[Value.cells]using l
  have W:g=.lit (.string c.data.toList):=congrArg Prod.fst T;have a8:=reachBytes_lt;have:=List.all_eq_true.1 E c.size (DataW.weights_mem_each (j:=0) (t:=9) (d:=g) rfl rfl c.size (by rw[W];simp[DataW.weights]));grind
 refine(aYx c F a a1 (aYy P)).mono fun l b ⟨X,r⟩=>?_
 subst X;have q:Rows.solvedSpec.fn m ([g,o]++[]) = {results:=[.lit (.bool true)],args:=[g,o]}:=rfl;refine⟨_,rfl,_,_,_,[],w++x,[],s,?_,?_,by rw[q];rfl,r.frame _,fun J=>by cases J⟩
 .rw[q];exact trodAll_mk1 (shut_bool Tryz.underlying4 _)
 rw[q];exact trodAll_mk2 (R _ r) (S _ r)
noncomputable def aDj (b:Os):World:=
 let w0:=World.holding Tryz.prog b ⟨#[],#[],[]⟩;let put (h:Array Obj) (g:Nat) (cs:Array Value):Array Obj:=h.modify g fun
  | .cells _ t frozen=>.cells cs t frozen
  | o=>o
 let h1:=put w0.heap 1 (Lib.firstTab.map fun c=>Value.int .u8 c).toArray;let h2:=put h1 2 ((List.range 16).flatMap fun a=>[Value.int .u8 (Lib.accLo a),Value.int .u8 (Lib.accHi a)]).toArray;{w0 with heap:=h2}
theorem aYz (b:Os) (a:Array Value):laidMet Tryz.prog Rows.solvedRow.laid ((aDj b).forCall (fun _ _=>0) ⟨#[],a,[]⟩).memory:=
 (LaidIn.of_run (l := [("unicode/utf8.acceptRanges", Rows.laid_unicode_utf8_acceptRanges), ("unicode/utf8.first", Rows.laid_unicode_utf8_first)]) [2, 1] 8 (by kernel_rfl) (by kernel_rfl) (by kernel_rfl) (by kernel_rfl)).met
theorem aZ0 (a:Os) {e:Type} (b:TypeId×Value→e) :
  (OpenSpec.ofChange Rows.solvedSpec).preRow b Tryz.prog Tryz.f3 Rows.solvedRow.domain false Rows.solvedRow.laid ((aDj a).forCall (fun _ _=>0) ⟨#[],#[.string ⟨#[]⟩,.int .i64 0],[]⟩).memory #[.string ⟨#[]⟩,.int .i64 0]:=by
 have g:(DataW.whole b Tryz.prog ((aDj a).forCall (fun _ _=>0) ⟨#[],#[.string ⟨#[]⟩,.int .i64 0],[]⟩).memory Tryz.f3.params.toList Rows.solvedSpec.vars false #[Value.string ⟨#[]⟩,Value.int .i64 0].toList 8).map (fun d=>(d.1,d.2.1))=some ([.lit (.string []),.lit (.int .i64 0)],[]):=by kernel_rfl
 obtain⟨⟨k,l,m⟩,i,c⟩:=Option.map_eq_some_iff.1 g;simp only[Prod.mk.injEq]at c;obtain⟨rfl,rfl⟩:=c;exact OpenSpec.preRow_of_cond 8 i (by kernel_rfl) (fun j f=>by cases f) (by kernel_rfl) (aYz a _)
theorem lifted (a:Os) (o:a.Started) (b:Type) (enc:TypeId×Value→b) (c:Stop.Interp) :
  ReturnsInHanded {} Tryz.checked a 3 .any ((OpenSpec.ofChange Rows.solvedSpec).preRow enc Tryz.prog Tryz.f3 Rows.solvedRow.domain false Rows.solvedRow.laid) (((OpenSpec.ofChange Rows.solvedSpec).at c).post enc Tryz.prog Tryz.f3 false true false false):=by
 refine returnsInHanded_of_row (C:=Tryz.checked) (s:=OpenSpec.ofChange Rows.solvedSpec) own o (by kernel_rfl) Tryz.func3
  (witness_row_atRef (enc:=enc) (C:=Tryz.checked) false (aDj a) #[.string ⟨#[]⟩,iQ 0] rfl (by kernel_rfl) (by kernel_rfl) (by kernel_rfl) (aZ0 a enc)) ?_
 intro d f e i j g m l _ _ n k _ _;exact contract b enc d f e i j g m l n k
theorem said:Rows.SolvedSaid:=
 OpenClaim.holds_of_cond 3 Tryz.f3 rfl rfl rfl rfl rfl rfl rfl ⟨rfl,rfl,rfl,rfl,rfl⟩ rfl rfl rfl rfl rfl (by kernel_rfl) Tryz.func3 (by kernel_rfl)
  (of_decide_eq_true (by kernel_rfl)) (by unfold Func.isWrapper;first | (rw[aT (by decide +kernel)];kernel_rfl) | (rw[aS (by decide +kernel)];exact⟨rfl,rfl⟩))
  (fun d e b c _ a=>by rw[OpenClaim.pre_eq_preRow];exact lifted d e b c a)
theorem plain (b:FuncId) (c:Func) (e:Tryz.pinned.checked.prog.funcNamed "moot/mootlaw.Solved" = some b) (f:Tryz.pinned.checked.prog.funcs[b]? = some c) :
  false=Tryz.pinned.checked.prog.looks []∧∀(d:Nat) a,c.params[d]?=some a→Tryz.pinned.checked.prog.wantsStandIn a=false:=by
 obtain rfl:b = 3 := Option.some.inj ((show Tryz.prog.funcNamed "moot/mootlaw.Solved" = some 3 by kernel_rfl).symm.trans e) |>.symm
 obtain rfl:c=Tryz.f3:=(Option.some.inj (Tryz.func3.symm.trans f)).symm;refine⟨by kernel_rfl,fun d a i=>?_⟩;rw[Tryz.params3]at i;have g:a=9∨a=3:=by grind
 rcases g with rfl | rfl
 .exact(show Tryz.prog.wantsStandIn 9=false by kernel_rfl)
 exact(show Tryz.prog.wantsStandIn 3=false by kernel_rfl)
theorem solved_card:Rows.SolvedCardSaid:=
 Claim7.holds_tied_plain_at .later [] _ _ _ _ said (fun _ a=>by cases a) (by kernel_rfl) (fun _ a=>by cases a) solved_row_tie rfl ⟨rfl,rfl⟩ (by kernel_rfl) rfl plain (by kernel_rfl)
#print axioms solved_card
end Go.Proofs.YtenobhkjiebhaaaGreatDoor
