/- Refutes answers as the document's own answer does, whatever text and steps come in, and leaves the steps as they were; a known text is read, resolved and refuted, its steps refute it and not another text: the tied card. Conditions: none but the row's own (the library's tables stand as the program lays them; each list and text is of at most 2^47 - 4096 bytes). -/
import Derived.Test.YthjhkgohninpcaaGreatDoorYRg3M
import Derived.Test.YthjhkgohninpcaaGreatDoorXSr7M
import Derived.Test.YthjhkgohninpcaaGreatDoorRfD0M
import Derived.Test.YthjhkgohninpcaaGreatDoorCards
import Derived.Test.YthjhkgohninpcaaGreatDoorTie
import Derived.ProofKit
import Derived.OpenShut
import Derived.Carry
import Derived.Deep.DeepHandedRow
import Derived.Deep.DeepWitnessRowRef
import Derived.Lib.LaidIn
import Derived.Lib.LaidU8T
import Derived.PinnedBridge
namespace Go.Proofs.YthjhkgohninpcaaGreatDoor
open Go.RowKit Go.Shelf Go.WideMaps
open scoped Classical
set_option maxRecDepth 100000
theorem gI.few40 {e:ByteArray} {d:List (List Lt)} {f g:Int} (a:gI e d f g):d.length≤40:=by
 have b:∀{c:List (List Lt)},c=[]→c.length≤40:=by rintro c rfl;simp
 rcases a with ⟨_,a,_⟩ | ⟨_,a⟩
 ·exact b a
 ·cases hp:qC e with
  | error p=>rw [hp] at a;exact b a.1
  | ok y=>
   obtain ⟨n,j⟩:=y;rw [hp] at a;obtain ⟨m,_,⟨_,a,_⟩ | ⟨_,⟨l,k,_,_,a,_⟩ | ⟨a,rfl,_⟩⟩⟩:=a
   ·exact b a
   ·exact b a
   ·rw [List.length_map];refine Nat.le_of_not_lt fun i=>?_
    exact a 40 i (Or.inl (Nat.le_refl _))
theorem lK.clsL {B:ByteArray} {n:Nat} {m:World} {l:Value} {e:List (List (Lt×Value)×Value)} {c:List (List Lt)} {q:Int} (d:lK n m l e) (u:(e.map fun z=>z.1.map Prod.fst)=c) (y:gI B c q 0):∃k A,l=.slice k c.length A∧pV m k c:=by
 have D:=y.few40;subst u;obtain ⟨o,r,i⟩:=aW d.1;refine ⟨o,r,by rw [i];simp,by omega,fun j w=>?_⟩;have f:j < e.length:=by simpa using w
 obtain ⟨t,C,b⟩:=qF d.1 (by omega);have a:=d.2 _ (List.getElem_mem f);obtain ⟨p,s,v,x⟩:=xB a.1.1 a.1.2 a.2.1 a.2.2.1 (by have:=a.2.2.2;omega);have g:=d.1;rw [b] at g;rw [i] at b;injection b with b;refine ⟨t,p,s,b,?_,by simpa using x⟩;rw [g.cellAt j (by omega)];simp [f,v]
theorem aN5 {b:ByteArray} {c:List Rs} (f:¬∃a e,gI b a e 0):decide (lG b c)=false:=dE fun ⟨a,d,g,_⟩=>f ⟨a,d,g⟩
theorem aN6 {b:ByteArray}:decide (lG b [])=false:=dE fun ⟨_,_,_,a,_⟩=>a rfl
theorem bC7 {d:ByteArray} {c:List (List Lt)} {e:Int} {a:List Rs} (j:gI d c e 0) {b:Nat} (k:b < a.length) (f:¬lU c a b a[b]):decide (lG d a)=false:=dE fun ⟨l,m,g,_,i,_⟩=>by
 obtain ⟨rfl,_⟩:=j.one g;exact f (i b k)
theorem aN7 {j:ByteArray} {b:List (List Lt)} {g:Int} {a:List Rs} {f:Nat} (l:gI j b g 0) (d:a.length=f+1) (i:∀e (i:e < a.length),lU b a e a[e]) {hl:f < a.length}:decide (lG j a)=decide ((a[f]'hl).c=[]):=by
 refine decide_eq_decide.2 ⟨fun ⟨m,n,o,_,_,c⟩=>?_,fun c=>⟨b,g,l,fun k=>by simp [k] at d,i,fun _=>?_⟩⟩
 ·have:=c (by omega);simpa [d] using this
 ·simpa [d] using c
set_option maxHeartbeats 4000000 in
theorem bC8 (B:ByteArray) (e3:Option Addr) (b:List Rs) (v:Nat) (p:World) (g3:B.size≤140737488355328) (x:lH p e3 b) (b1:b.length≤v) (O:iC p) :
  Calls Tryz.prog 11 #[.string B,.slice e3 b.length v] p fun a f=>a=.returned (.bool (decide (lG B b)))∧aC p f:=by
 have N:=aD0 B p g3;by_cases Q:∃k f6,gI B k f6 0
 ·obtain ⟨k,g7,G⟩:=Q;have D:=aA (N.mono (R':=fun a j=>∃q t l,a=.returned (.tuple #[.slice q k.length t,.int .i64 l,.int .i64 0])∧pV j q k∧aC p j) (fun a j A=>by
   obtain ⟨M,f5,l,m,rfl,b2,e1,g⟩:=A;obtain ⟨g2,-,rfl⟩:=b2.one G;obtain ⟨q,t,rfl,z⟩:=e1.mem.clsL g2 G;exact ⟨q,t,l,rfl,z,g⟩))
  clear N;cases hn:b.length with
  | zero=>
   obtain rfl:b=[]:=List.length_eq_zero_iff.1 hn;rw [aN6];clear x b1 O G hn;go_enter Tryz.func11,Tryz.ntmps11;go_wp2_with (first
    | (go_at_call 15;refine (aB D).mono ?_;rintro a j ⟨q,t,l,rfl,z,g⟩;have u:=aA g;clear z g)
    | go_in)
   go_ret;exact ⟨rfl,u.o⟩
  | succ n=>
   have d2:=aA x;have f4:=aA O;have d3:=aA G;have a1:=aA hn;have h4:(((n:Int)+1) == 0)=false:=kT (by omega);have h5:(((n+1:Nat):Int) == 0)=false:=kT (by omega);have h0:n+1≤2199023255552:=by have:=x.few;omega
   have g1:n < b.length:=by omega
   obtain ⟨f8,g6,h7,h8,rfl,-,-,-,-,-,R,-⟩:=x.cell n g1;obtain ⟨s,a8⟩ : ∃s,b[n].c=s:=⟨_,rfl⟩;rw [a8] at R;have d7:=aA a8;have g8:n+1≤v:=by omega
   obtain ⟨E,a6⟩ : ∃E,decide (lG B b)=E:=⟨_,rfl⟩;rw [a6];have d0:=aA a6;clear x O G hn b1 a6 a8;go_enter Tryz.func11,Tryz.ntmps11;go_upto_region 4 with (first
    | (go_at_call 15;refine (aB D).mono ?_;rintro a j ⟨q,t,l,rfl,z,g⟩;have f3:=aA z;have u:=aA g;clear z g)
    | go_in)
   clear D;have g5:=u.o.size;go_wp2;go_loopw [25] (fun b3 wr=>∃c:Nat,c≤n+1∧b3=.int .i64 c∧aC j wr∧aG (∀e (w:e < b.length),e < c→lU k b e b[e])) (fun b3 _=>n+1 - (intOf b3).toNat);case atStart=>exact ⟨0,Nat.zero_le _,rfl,Below.refl _ _,aA fun e _ w=>absurd w (Nat.not_lt_zero _)⟩
   case round=>
    obtain ⟨c,g0,rfl,H,c8⟩:=hrel;have i:aC p wr:=u.o.trans (H.mono g5);by_cases e0:c < n+1
    ·have d9:c < b.length:=by rw [a1.o];exact e0
     obtain ⟨_,_,J,L,a,b4,b5,b6,b7,b8,b9,c0⟩:=d2.o.cell c d9;cases a;obtain ⟨r,a7⟩ : ∃r,b[c]=r:=⟨_,rfl⟩;rw [a7] at b4 b5 b6 b7 b8 b9 c0;have d6:=aA a7;clear a7;have C:aG (∀o,aC wr o→Calls Tryz.prog 20 #[.slice q k.length t,.slice (some ⟨f8,g6,none⟩) c v,xW r J L] o fun a f=>a=.returned (.bool (decide (lU k b c r)))∧aC o f):=aA fun o I=>by
      have b0:aC p o:=aV i I;have f9:aC j o:=aV H I;exact bC6 q t k _ c v b r J L o (f3.o.below f9 (Nat.le_refl _)) (d2.o.below b0 (Nat.le_refl _)) (by omega) (f4.o.below b0 (Nat.le_refl _)) (c0.below b0 (Nat.le_refl _))
     have e4:=aD i b4;have e5:=aD i b5;have e6:=aD i b6;have e7:=aD i b7;have e8:=aD i b8;have e9:=aD i b9;have h2:(c:Int) < ((n+1:Nat):Int):=by omega
     have h1:c≤v:=by omega
     have f1:=aA H;have d4:=aA i;obtain ⟨F,a9⟩ : ∃F,decide (lU k b c r)=F:=⟨_,rfl⟩;rw [a9] at C;have d8:aG (decide (lU k b c b[c])=F):=aA (by rw [d6.o];exact a9);unfold xW at C;clear b4 b5 b6 b7 b8 b9 c0 H i R a9 d6;obtain ⟨m,a2,a3,a4,a5,f7⟩:=r;simp only at C e4 e5 e6 e7 e8 e9;generalize f7.length=cn at *;go_upto_region 7 with (go_in);obtain ⟨f0,e2,P,g4,T,U,V,W,X,Y⟩:=oQ wr m a2 a3 a4 a5 (.slice J cn L);rw [e2];clear e2 e4 e5 e6 e7 e8 e9 g4;have c7:=aA (fun (o:World) (I:∃e,o=f0.drewN e)=>(C.o o (by obtain ⟨e,rfl⟩:=I;exact aV P (aL ⟨e,rfl⟩))).mono (R':=fun a S=>a=.returned (.bool F)∧aC f0 S) (fun a S A=>by obtain ⟨e,rfl⟩:=I;exact ⟨A.1,(aL ⟨e,rfl⟩).trans A.2⟩));have f2:=aA (aV f1.o P);have d5:=aA (d4.o.trans (P.mono d4.o.size));clear P C;cases F with
     | true=>
      go_region_held3 (fun f=>f.cell? ⟨wr.heap.size,0,none⟩=some (.int .i64 m)∧f.cell? ⟨wr.heap.size,1,none⟩=some (.int .i64 a2)∧f.cell? ⟨wr.heap.size,2,none⟩=some (.int .i64 a3)∧f.cell? ⟨wr.heap.size,3,none⟩=some (.int .i64 a4)∧f.cell? ⟨wr.heap.size,4,none⟩=some (.int .i64 a5)∧f.cell? ⟨wr.heap.size,5,none⟩=some (.slice J cn L)) (first | trivial | go_keep)
       (first
        | (go_at_call 20;refine (aB c7 _ (by first | exact ⟨0,rfl⟩ | exact ⟨1,rfl⟩ | exact ⟨_,rfl⟩)).mono ?_;rintro a S ⟨rfl,d⟩;have c1:=aD d T;have c2:=aD d U;have c3:=aD d V;have c4:=aD d W;have c5:=aD d X;have c6:=aD d Y;have Z:=aA (aV f2.o d);clear d)
        | go_in)
      clear c1 c2 c3 c4 c5 c6 T U V W X Y;go_wp2;go_roundw;case rel=>exact ⟨c+1,by omega,by go_num,Z.o,aA fun e w h3=>by
       by_cases a:e < c
       ·exact c8.o e w a
       ·obtain rfl:e=c:=by omega
        exact of_decide_eq_true d8.o⟩
      case measure=>simp [intOf];omega
     | false=>
      go_region_held3 (fun f=>f.cell? ⟨wr.heap.size,0,none⟩=some (.int .i64 m)∧f.cell? ⟨wr.heap.size,1,none⟩=some (.int .i64 a2)∧f.cell? ⟨wr.heap.size,2,none⟩=some (.int .i64 a3)∧f.cell? ⟨wr.heap.size,3,none⟩=some (.int .i64 a4)∧f.cell? ⟨wr.heap.size,4,none⟩=some (.int .i64 a5)∧f.cell? ⟨wr.heap.size,5,none⟩=some (.slice J cn L)) (first | trivial | go_keep)
       (first
        | (go_at_call 20;refine (aB c7 _ (by first | exact ⟨0,rfl⟩ | exact ⟨1,rfl⟩ | exact ⟨_,rfl⟩)).mono ?_;rintro a S ⟨rfl,d⟩;have c1:=aD d T;have c2:=aD d U;have c3:=aD d V;have c4:=aD d W;have c5:=aD d X;have c6:=aD d Y;have Z:=aA (d5.o.trans (d.mono d5.o.size));clear d)
        | go_in)
      clear c1 c2 c3 c4 c5 c6 T U V W X Y;have a0:aG (E=false):=aA (by rw [←d0.o];exact bC7 d3.o d9 (of_decide_eq_false d8.o));go_wp2;go_ret;exact ⟨bM a0.o.symm,Z.o⟩
    ·obtain rfl:c=n+1:=by omega
     have h9:=aD i R;have c9:=aA i;have d1:aG (E=decide (s=[])):=aA (by rw [←d0.o,←d7.o];exact aN7 d3.o a1.o fun e w=>c8.o e w (by have:=a1.o;omega));clear H i e0 g0 R d7;cases s with
     | nil=>
      go_wp2;go_ret;exact ⟨bM (by rw [d1.o];simp),c9.o⟩
     | cons y s=>
      have h6:((((y :: s).length:Nat):Int) == 0)=false:=kT (by simp;omega);have a0:aG (E=false):=aA (by rw [d1.o];simp);generalize (y :: s).length=yn at *;go_wp2;go_ret;exact ⟨bM a0.o.symm,c9.o⟩
 ·rw [aN5 Q];have D:=aA (N.mono (R':=fun a j=>∃M l m,a=.returned (.tuple #[M,.int .i64 l,.int .i64 m])∧(m != 0)=true∧aC p j) (fun a j A=>by
   obtain ⟨M,f5,l,m,rfl,b2,e1,g⟩:=A;refine ⟨M,l,m,rfl,bne_iff_ne.2 fun a=>?_,g⟩;subst a;exact Q ⟨_,_,b2⟩))
  generalize b.length=n;clear N x O Q b1;go_enter Tryz.func11,Tryz.ntmps11;go_wp2_with (first
   | (go_at_call 15;refine (aB D).mono ?_;rintro a j ⟨M,l,m,rfl,g9,g⟩;have u:=aA g;clear g)
   | go_in)
  go_ret;exact ⟨rfl,u.o⟩
theorem aN8 (b:ByteArray) (e:Option Addr) (a:List Rs) (d:Nat) (c:World) (q:b.size≤140737488355328) (k:lH c e a) (o:a.length≤d) (l:iC c) :
  Calls Tryz.prog 6 #[.string b,.slice e a.length d] c fun i r=>i=.returned (.bool (decide (lG b a)))∧aC c r:=by
 have f:=aA (bC8 b e a d c q k o l);obtain ⟨g,j⟩ : ∃g,decide (lG b a)=g:=⟨_,rfl⟩;rw [j] at f ⊢;generalize a.length=n at *;clear k l o j;go_enter Tryz.func6,Tryz.ntmps6;go_wp2_with (first
  | (go_at_call 11;refine (aB f).mono ?_;rintro i s ⟨rfl,m⟩;have p:=aA m;clear m)
  | go_in)
 go_ret;exact ⟨rfl,p.o⟩
def zX (c:List (List Lt)) (a:List Rs):Prop:=∀b (d:b < a.length),lU c a b a[b]
set_option maxHeartbeats 4000000 in
theorem bC9 (t:Option Addr) (F:Nat) (d:List (List Lt)) (u:Option Addr) (y:Nat) (a:List Rs) (f:World) (z:pV f t d) (p:lH f u a) :
  Calls Tryz.prog 22 #[.slice t d.length F,.slice u a.length y] f fun g J=>g=.returned (.bool (decide (zX d a)))∧aC f J:=by
 have M:=p.few;have H:=aA (fun (E:Nat) (I:E < a.length) (G:World) (C:aC f G)=>aUq t F d u y E a G (z.below C (Nat.le_refl _)) (p.below C (Nat.le_refl _)) I);obtain ⟨k,r⟩ : ∃k:Prop,zX d a=k:=⟨_,rfl⟩;rw [r];have x:=aA r;clear z p r;go_enter Tryz.func22,Tryz.ntmps22;go_wp2;go_loopw [5] (fun s wr=>∃b:Nat,b≤a.length∧s=.int .i64 b∧aC f wr∧aG (∀c (e:c < a.length),c < b→lU d a c a[c])) (fun s _=>a.length - (intOf s).toNat);case atStart=>exact ⟨0,Nat.zero_le _,rfl,Below.refl _ _,aA fun c _ e=>absurd e (Nat.not_lt_zero _)⟩
 case round=>
  obtain ⟨b,N,rfl,A,v⟩:=hrel;have j:=aA A;clear A;by_cases B:b < a.length
  ·have O:(b:Int) < (a.length:Int):=by omega
   have l:=aA (aB H b B wr j.o);obtain ⟨o,q⟩ : ∃o,decide (lU d a b a[b])=o:=⟨_,rfl⟩;rw [q] at l;have w:=aA q;clear q;cases o with
   | true=>
    go_wp2_with (first
     | (go_at_call 48;refine (aB l).mono ?_;rintro g L ⟨rfl,i⟩;have m:=aA (aV j.o i);clear i)
     | go_in)
    go_roundw;case rel=>exact ⟨b+1,by omega,by go_num,m.o,aA fun c e P=>by
     by_cases g:c < b
     ·exact v.o c e g
     ·obtain rfl:c=b:=by omega
      exact of_decide_eq_true w.o⟩
    case measure=>simp [intOf];omega
   | false=>
    have n:aG (decide k=false):=aA (dE fun D=>by
     rw [←x.o] at D;exact of_decide_eq_false w.o (D b B))
    go_wp2_with (first
     | (go_at_call 48;refine (aB l).mono ?_;rintro g L ⟨rfl,i⟩;have m:=aA (aV j.o i);clear i)
     | go_in)
    go_ret;exact ⟨bM n.o.symm,m.o⟩
  ·have n:aG (decide k=true):=aA (eI (by
    rw [←x.o];exact fun c e=>v.o c e (by omega)))
   go_wp2;go_ret;exact ⟨bM n.o.symm,j.o⟩
set_option maxHeartbeats 4000000 in
theorem bCa (l:ByteArray) (J:Option Addr) (N:Nat) (a:List Rs) (m:World) (Y:l.size≤140737488355328) (p:lH m J a) :
  Calls Tryz.prog 13 #[.string l,.slice J a.length N] m fun b a0=>b=.returned (.bool (decide (lG l a)))∧aC m a0:=by
 have w:=aTk l m Y;by_cases B:∃g T,gI l g T 0
 ·obtain ⟨g,a3,q⟩:=B;have r:=aA (w.mono (R':=fun b f=>∃e j d,b=.returned (.tuple #[.slice e g.length j,.int .i64 d,.int .i64 0])∧pV f e g∧aC m f) (fun b f F=>by
   obtain ⟨u,S,d,o,rfl,H,Q,c⟩:=F;obtain ⟨W,-,rfl⟩:=H.one q;obtain ⟨e,j,rfl,i⟩:=Q.clsL W q;exact ⟨e,j,d,rfl,i,c⟩))
  clear w;cases hn:a.length with
  | zero=>
   obtain rfl:a=[]:=List.length_eq_zero_iff.1 hn;rw [aN6];clear p q hn;go_enter Tryz.func13,Tryz.ntmps13;go_wp2_with (first
    | (go_at_call 21;refine (aB r).mono ?_;rintro b f ⟨e,j,d,rfl,i,c⟩;have s:=aA c;clear i c)
    | go_in)
   go_ret;exact ⟨rfl,s.o⟩
  | succ n=>
   have a7:(((n:Int)+1) == 0)=false:=kT (by omega);have a8:(((n+1:Nat):Int) == 0)=false:=kT (by omega);have a6:n+1≤2199023255552:=by have:=p.few;omega
   have G:n < a.length:=by omega
   have v:=aA (fun (e:Option Addr) (j:Nat) (L:World) (Z:aC m L) (i:pV L e g)=>bC9 e j g J N a L i (p.below Z (Nat.le_refl _)));rw [hn] at v;obtain ⟨a4,b3,b1,b2,rfl,-,-,-,-,-,I,-⟩:=p.cell n G;obtain ⟨k,D⟩ : ∃k,a[n].c=k:=⟨_,rfl⟩;rw [D] at I;obtain ⟨t,A⟩ : ∃t,decide (zX g a)=t:=⟨_,rfl⟩;have z:aG (decide (lG l a)=(t && decide (k=[]))):=aA (by
    cases t with
    | true=>
     have E:zX g a:=of_decide_eq_true A;rw [aN7 q hn E (hl:=G),D];rfl
    | false=>
     rw [Bool.false_and];have E:¬zX g a:=of_decide_eq_false A;refine dE fun X=>E ?_
     obtain ⟨a1,a2,U,_,V,_⟩:=X;obtain ⟨rfl,_⟩:=q.one U;exact V)
   rw [A] at v;obtain ⟨C,O⟩ : ∃C,decide (lG l a)=C:=⟨_,rfl⟩;rw [O] at z ⊢;clear p q hn O D A G;go_enter Tryz.func13,Tryz.ntmps13;go_upto_region 5 with (first
    | (go_at_call 21;refine (aB r).mono ?_;rintro b f ⟨e,j,d,rfl,i,c⟩;have s:=aA c;have M:=aA (aB v e j f c i);clear i c)
    | (go_at_call 22;refine (aB M).mono ?_;rintro b b5 ⟨rfl,P⟩;have x:=aA (aV s.o P);clear P)
    | go_in)
   have b4:=aD x.o I;have a9:(n:Int) < ((n:Int)+1):=by omega
   clear I r v M;cases t with
   | false=>
    go_wp2;go_ret;exact ⟨bM (by rw [z.o];rfl),x.o⟩
   | true=>
    cases k with
    | nil=>
     go_wp2;go_ret;exact ⟨bM (by rw [z.o];rfl),x.o⟩
    | cons y k=>
     have b0:((((y :: k).length:Nat):Int) == 0)=false:=kT (by simp;omega);have R:aG (C=false):=aA (by rw [z.o];simp);generalize (y :: k).length=yn at *;go_wp2;go_ret;exact ⟨bM R.o.symm,x.o⟩
 ·rw [aN5 B];have r:=aA (w.mono (R':=fun b f=>∃u d o,b=.returned (.tuple #[u,.int .i64 d,.int .i64 o])∧(o != 0)=true∧aC m f) (fun b f F=>by
   obtain ⟨u,S,d,o,rfl,H,Q,c⟩:=F;refine ⟨u,d,o,rfl,bne_iff_ne.2 fun b=>?_,c⟩;subst b;exact B ⟨_,_,H⟩))
  generalize a.length=n;clear w p B;go_enter Tryz.func13,Tryz.ntmps13;go_wp2_with (first
   | (go_at_call 21;refine (aB r).mono ?_;rintro b f ⟨u,d,o,rfl,a5,c⟩;have s:=aA c;clear c)
   | go_in)
  go_ret;exact ⟨rfl,s.o⟩
theorem bCb:(Tryz.prog.info? 45).map (fun a=>(a.zero,a.size,a.bytes))=some (some (.agg #[.int .i64 0,.int .i64 0,.int .i64 0,.int .i64 0,.int .i64 0,.slice none 0 0]),6,64):=by kernel_rfl
theorem bCc (k c e g i:Int) (d:Option Addr) (j f:Nat):∀b∈[Value.int .i64 k,.int .i64 c,.int .i64 e,.int .i64 g,.int .i64 i,.slice d j f],b.oneCell'=true:=by intro b a;simp at a;rcases a with rfl | rfl | rfl | rfl | rfl | rfl <;> rfl
set_option maxHeartbeats 8000000 in
theorem bCd (h8:Value) (O:ByteArray) (a3:Option Addr) (S:Nat) (b:List Rs) (l:World) (e9:O.size≤140737488355328) (a6:wH l a3 b) (h1:b.length≤S) (e0:iC l) :
  Calls Tryz.prog 7 #[h8,.string O,.slice a3 b.length S] l fun f U=>f=.returned (.bool true)∧aC l U:=by
 obtain ⟨h6,g6,g7,g8,g9⟩:=info_parts bCb;have j3:=a6.sts.few;have R:=aA a6;have g0:=aA e0;clear a6 e0;go_enter Tryz.func7,Tryz.ntmps7;go_wp2;go_loopw [7,8] (fun b5 x wr=>∃(a:Nat) (C:List (Rs×Value)),a≤b.length∧x=.int .i64 a∧C.map Prod.fst=b.take a∧rS l.heap.size wr b5 C∧aC l wr) (fun _ x _=>b.length - (intOf x).toNat);case atStart=>exact ⟨0,[],Nat.zero_le _,rfl,rfl,⟨World.ownsRow_nil _ _ _ _,fun k4 h4=>by simp at h4⟩,Below.refl _ _⟩
 case round=>
  obtain ⟨a,C,e2,rfl,D,N,e⟩:=hrel;have e1:C.length=a:=by have g5:=congrArg List.length D;simp at g5;omega
  have a9:=e.size;by_cases w:a < b.length
  ·have a7:=R.o.below e;obtain ⟨a4,a5,n,o,rfl,E,F,G,H,I,k,A⟩:=a7.sts.cell a w;have b1:=a7.nils a w a4 a5 n _ o rfl k;have b3:b.take (a+1)=b.take a++[b[a]]:=List.take_succ_eq_append_getElem w;rw [←D] at b3;have f9:=aA b3;generalize b[a]=X at *;obtain ⟨t,p,q,r,s,d⟩:=X;simp only at E F G H I k A b1;have k8:(0:Int)≤(a:Int):=Int.natCast_nonneg _;have j1:(a:Int) < (b.length:Int):=by omega
   have d2:=aA N;have P:=aA e;have a1:=aA A;have d1:=aA b1;clear b3 D N e A b1 a7;have c9:=aA (fun (g:World) (j:aC wr g)=>aTz n o d g (a1.o.below j (Nat.le_refl _)) (d1.o.below a1.o j));generalize d.length=cn at *;go_upto_region 6 with (go_in);obtain ⟨B,f0,u,f1⟩ : ∃B,wr.alloc (.cells #[.int .i64 t,.int .i64 p,.int .i64 q,.int .i64 r,.int .i64 s,.slice n cn o] 45)=B∧aC wr B∧B.heap[wr.heap.size]?=some (.cells #[.int .i64 t,.int .i64 p,.int .i64 q,.int .i64 r,.int .i64 s,.slice n cn o] 45 (0,0)):=⟨_,rfl,(Below.refl _ wr).alloc (Nat.le_refl _) _,World.alloc_heap_new wr _⟩;rw [f0];have i1:=aD u k;have m:=aA u;have a2:=aA f1;clear f0 E F G H I k u f1;go_upto_region 7 with (first
    | (go_at_call 12;refine (aB c9 _ m.o).mono ?_;rintro f M ⟨i2,g1,rfl,e6,e7,e8,i⟩;have a0:=aA (show kV B.heap.size M i2 d from ⟨g1,e6,e7,e8⟩);obtain ⟨J,L,rfl⟩:=a0.o.shape;have c:=aA i;obtain ⟨i9,j0,-⟩:=aGl (v:=.slice J d.length L) m.o a2.o i;clear e6 e7 e8 i)
    | go_in)
   have h3:=aGl (v:=.slice J d.length L) m.o a2.o c.o;generalize M.setCell ⟨wr.heap.size,5,none⟩ (.slice J d.length L)=w4 at *;obtain ⟨-,-,z,b6,f2⟩:=h3;have i3:w4.cell? ⟨wr.heap.size,0,none⟩=some (.int .i64 t):=by simp [World.cell?,z]
   have i4:w4.cell? ⟨wr.heap.size,1,none⟩=some (.int .i64 p):=by simp [World.cell?,z]
   have i5:w4.cell? ⟨wr.heap.size,2,none⟩=some (.int .i64 q):=by simp [World.cell?,z]
   have i6:w4.cell? ⟨wr.heap.size,3,none⟩=some (.int .i64 r):=by simp [World.cell?,z]
   have i7:w4.cell? ⟨wr.heap.size,4,none⟩=some (.int .i64 s):=by simp [World.cell?,z]
   have i8:w4.cell? ⟨wr.heap.size,5,none⟩=some (.slice J d.length L):=by simp [World.cell?,z]
   have d3:=aA (d2.o.below b6);have f6:=aA ((f2 a0.o).mono a9);have Q:=aA (P.o.trans (b6.mono a9));have d8:=Q.o.size;have b2:=d3.o.row;clear z b6 f2 i9 j0 i1 c9 a0 c a2 m d2 P d1 a1;generalize d.length=en at *;go_wp2_with (first
    | (at_builtin;refine wpList_append_own _ rfl (.tmp 32) (.tmp 34) 22 rfl l.heap.size 45 h6 (.agg #[.int .i64 0,.int .i64 0,.int .i64 0,.int .i64 0,.int .i64 0,.slice none 0 0]) 6 64 Tryz.underlying22 g6 g7 g8 g9 rfl (by decide) _ _ _ rfl (b2.alloc _) ⟨w4.heap.size,0,none⟩ 1 1 [.int .i64 t,.int .i64 p,.int .i64 q,.int .i64 r,.int .i64 s,.slice J en L] rfl rfl ?c1 ?c2 ?c3 ?c4 ?c5 ?_)
    | go_in)
   case c1=>exact aE0 w4 _ _
   case c2=>exact bCc _ _ _ _ _ _ _ _
   case c3=>unfold maxLen;omega
   case c4=>omega
   case c5=>exact Nat.le_trans d8 (World.grownBy_alloc _ _ none).size
   intro k5 k7 e5 b0 _;have f7:=aA ((d3.o.below ((Below.refl _ _).alloc (Nat.le_refl _) _)).more (s:=⟨t,p,q,r,s,d⟩) (f6.o.below ((Below.refl _ _).alloc (Nat.le_refl _) _)) (by rw [e1];exact e5) b0);have f3:=aA ((Q.o.alloc d8 _).grown b0 (by simp;omega) fun a f=>(bL b2 a f).1);clear e5 b0 b2 i3 i4 i5 i6 i7 i8;go_wp2;go_roundw;case rel=>exact ⟨a+1,C++[(⟨t,p,q,r,s,d⟩,.slice J en L)],by omega,by go_num,by rw [f9.o];simp,f7.o,f3.o⟩
   case measure=>simp [intOf];omega
  ·have e3:b.take a=b:=List.take_of_length_le (by omega);rw [e3] at D;obtain ⟨g2,c1,rfl⟩:=aW N.row;obtain ⟨e4,h0,b4⟩:=N.sts D R.o.sts;rw [e4];have d4:=aA b4;have P:=aA e;have j2:aG (b.length≤S):=aA h1;have W:=aA (aN8 O g2 b c1 wr e9 b4 h0 (g0.o.below e (Nat.le_refl _)));have V:=aA (fun (g:World) (j:aC l g)=>bCa O a3 S b g e9 (R.o.sts.below j (Nat.le_refl _)));obtain ⟨Y,d9⟩ : ∃Y,decide (lG O b)=Y:=⟨_,rfl⟩;rw [d9] at W V;clear e3 D N e b4 d9 e4 e1 C;go_upto_region 10 with (first
    | (go_at_call 6;refine (aB W).mono ?_;rintro f k6 ⟨rfl,a8⟩;have Z:=aA (P.o.trans (a8.mono a9));have d5:=aA (d4.o.below a8 (Nat.le_refl _));clear a8)
    | (go_at_call 13;refine (aB V _ Z.o).mono ?_;rintro f B ⟨rfl,u⟩;have m:=aA (aV Z.o u);have f8:=aA (d5.o.below u (Nat.le_refl _));clear u)
    | go_in)
   clear W V d4 d5 Z w e2;go_wp2;go_loopw [12,13] (fun b5 x g=>∃a:Nat,a≤b.length∧b5=.bool true∧x=.int .i64 a∧aC B g) (fun _ x _=>b.length - (intOf x).toNat);case atStart=>exact ⟨0,Nat.zero_le _,rfl,rfl,Below.refl _ _⟩
   case round=>
    obtain ⟨a,e2,rfl,rfl,e⟩:=hrel;have h5:=m.o.size;have T:=m.o.trans (e.mono h5);by_cases w:a < b.length
    ·obtain ⟨a4,a5,n,o,rfl,E,F,G,H,I,k,A⟩:=(R.o.sts.below T (Nat.le_refl _)).cell a w;obtain ⟨g3,g4,d6,d7,rfl,b7,b8,b9,c0,c6,c7,c8⟩:=(f8.o.below e (Nat.le_refl _)).cell a w;generalize b[a]=X at *;obtain ⟨t,p,q,r,s,d⟩:=X;simp only at E F G H I k A b7 b8 b9 c0 c6 c7 c8;have j1:(a:Int) < (b.length:Int):=by omega
     have f5:=aA e;have d0:=aA (fun (g:World) (j:∃y,g=wr.drewN y)=>(wX d6 n d7 o d d g (by obtain ⟨y,rfl⟩:=j;exact c8.drewN y) (by obtain ⟨y,rfl⟩:=j;exact A.drewN y)).mono (R':=fun f M=>f=.returned (.bool true)∧aC wr M) (fun f M h2=>by
      obtain ⟨y,rfl⟩:=j;obtain ⟨rfl,h7,rfl⟩:=h2;exact ⟨by simp,aL (gY ⟨y,rfl⟩ ⟨h7,rfl⟩)⟩))
     clear e T A c8;generalize d.length=cn at *;go_wp2;go_region_held3 (fun U=>U.cell? ⟨a4,a5+a * 6+5,none⟩=some (.slice n cn o)∧U.cell? ⟨g3,g4+a * 6+5,none⟩=some (.slice d6 cn d7)) (first | trivial | go_keep)
      (first
       | (go_at_call 14;refine (aB d0 _ (by first | exact ⟨0,rfl⟩ | exact ⟨1,rfl⟩ | exact ⟨_,rfl⟩)).mono ?_;rintro f M ⟨rfl,i⟩;have h9:=aD i k;have i0:=aD i c7;have c:=aA i;clear i)
       | go_in)
     have Q:=aA (aV f5.o c.o);have j4:=aD c.o E;have j5:=aD c.o F;have j6:=aD c.o G;have j7:=aD c.o H;have j8:=aD c.o I;have j9:=aD c.o b7;have k0:=aD c.o b8;have k1:=aD c.o b9;have k2:=aD c.o c0;have k3:=aD c.o c6;clear E F G H I k b7 b8 b9 c0 c6 c7 h9 i0 d0;go_upto_region 15 with (fail);go_quiet (fail);go_wp2;go_roundw;case rel=>exact ⟨a+1,by omega,rfl,by go_num,aV Q.o (aL ⟨_,rfl⟩)⟩
     case measure=>simp [intOf];omega
    ·have f4:=aA T;clear e T;go_wp2;go_ret;exact ⟨bM (by cases Y <;> rfl),f4.o⟩
end Go.Proofs.YthjhkgohninpcaaGreatDoor
namespace Go.Proofs.YthjhkgohninpcaaGreatDoor
open Go.RowKit Go.Shelf Go.WideMaps
set_option maxRecDepth 100000
theorem bCe {s:ByteArray} (i:s.size≤3000) {d:aY} {a:List (Nat×List Lt)} (g:qC s=.ok (d,a)) (e:∀c b,¬jK d.pz c b) (f:∀c b,¬jB a c b):gI s (a.map fun j=>aU j.2) 0 0:=by refine Or.inr ⟨i,?_⟩;rw [g];exact ⟨-1,Or.inl ⟨rfl,e⟩,Or.inr ⟨by decide,Or.inr ⟨f,rfl,rfl,rfl⟩⟩⟩
theorem bCf:gI ⟨#[112,46,32,126,112,46]⟩ [cP,eW] 0 0:=by
 have:=bCe (s:=⟨#[112,46,32,126,112,46]⟩) (by decide) aMl (fun b a=>by
  match b,a with
  | 0,_=>simp [jK]
  | 1,_=>
   simp only [jK,mB];rintro (a | ⟨k,hk,h1,h2⟩)
   ·exact absurd a (by simp)
   ·obtain rfl:k=0:=by omega
    simp at h2) (fun b a=>by
  match b,a with
  | 0,_=>simp only [jB];exact not_or.2 ⟨by omega,fun a=>Bool.noConfusion (a.symm.trans (show cD (aU _)=true by kernel_rfl))⟩
  | 1,_=>simp only [jB];exact not_or.2 ⟨by omega,fun a=>Bool.noConfusion (a.symm.trans (show cD (aU _)=true by kernel_rfl))⟩)
 rw [show [cP,eW]=[(0,[(false,[pN])]),(3,[(true,[pN])])].map (fun p:Nat×List Lt=>aU p.2) by kernel_rfl];exact this
theorem bCg:qC ⟨#[112,46,32,112,46]⟩=.ok (⟨4,[],[(⟨#[112]⟩,true,0,0),(⟨#[112]⟩,true,0,3)]⟩,[(0,[(false,[pN])]),(3,[(false,[pN])])]):=by kernel_rfl
theorem bCh {e:List (List Lt)} {c d:Int} (a:gI ⟨#[112,46,32,112,46]⟩ e c d):e=[cP,cP]∧c=0∧d=0:=by
 have:=aFp a (by decide) bCg (fun b a=>by
  match b,a with
  | 0,_=>simp [jK]
  | 1,_=>
   simp only [jK,mB];rintro (a | ⟨k,hk,h1,h2⟩)
   ·exact absurd a (by simp)
   ·obtain rfl:k=0:=by omega
    simp at h2) (fun b a=>by
  match b,a with
  | 0,_=>simp only [jB];exact not_or.2 ⟨by omega,fun a=>Bool.noConfusion (a.symm.trans (show cD (aU _)=true by kernel_rfl))⟩
  | 1,_=>simp only [jB];exact not_or.2 ⟨by omega,fun a=>Bool.noConfusion (a.symm.trans (show cD (aU _)=true by kernel_rfl))⟩)
 rw [show [cP,cP]=[(0,[(false,[pN])]),(3,[(false,[pN])])].map (fun p:Nat×List Lt=>aU p.2) by kernel_rfl];exact this
def qU (a:aT):Rs:=⟨a.r,a.a,a.b,a.i,a.j,a.c⟩
theorem bCi:gQ eW cP 0 0 [] true 0:=
 Or.inr ⟨by kernel_rfl,by kernel_rfl,Or.inr ⟨0,0,⟨by decide,by decide,rfl,rfl,by decide⟩,aMn aMz 0 1 [] (by simp) (Nat.le_of_ble_eq_true (by kernel_rfl))⟩⟩
theorem bCj:lG ⟨#[112,46,32,126,112,46]⟩ ([eX,gR,kD].map qU):=by
 refine ⟨_,_,bCf,by simp,fun b a=>?_,fun _=>rfl⟩;match b,a with
 | 0,_=>exact ⟨Or.inl ⟨rfl,Or.inl ⟨⟨⟨show (0:Int)≤((0:Nat):Int) by decide,show ((0:Nat):Int) < ((2:Nat):Int) by decide⟩,rfl,rfl,rfl⟩,rfl,rfl⟩⟩,by kernel_rfl⟩
 | 1,_=>exact ⟨Or.inl ⟨rfl,Or.inl ⟨⟨⟨show (0:Int)≤((1:Nat):Int) by decide,show ((1:Nat):Int) < ((2:Nat):Int) by decide⟩,rfl,rfl,rfl⟩,rfl,rfl⟩⟩,by kernel_rfl⟩
 | 2,_=>exact ⟨Or.inr (Or.inl ⟨rfl,Or.inl ⟨⟨show (0:Int)≤((1:Nat):Int) by decide,show ((1:Nat):Int) < ((2:Nat):Int) by decide⟩,⟨show (0:Int)≤((0:Nat):Int) by decide,show ((0:Nat):Int) < ((2:Nat):Int) by decide⟩,0,bCi⟩⟩),by kernel_rfl⟩
theorem bCk:¬lG ⟨#[112,46,32,112,46]⟩ ([eX,gR,kD].map qU):=by
 rintro ⟨f,g,b,-,e,-⟩;obtain ⟨rfl,-,-⟩:=bCh b;rcases (e 1 (by decide)).1 with ⟨-,⟨-,a,-⟩ | ⟨-,-,a⟩⟩ | ⟨a,-⟩ | ⟨a,-⟩ | ⟨-,-,a⟩
 ·have c:cP=eW:=Option.some.inj a;have d:(cP.map Prod.fst)=eW.map Prod.fst:=by rw [c]
  exact absurd d (by simp [cP,eW])
 ·cases a
 ·exact absurd a (by decide)
 ·exact absurd a (by decide)
 ·cases a
theorem jS.sts {j:Nat} {g:World} {i:Option Addr} {f c:Nat} {a:List (aT×Value)} (d:jS j g (.slice i f c) a) (w:∀p∈a,cG p.1.c=true) (J:a.length≤1000):f=a.length∧a.length≤c∧lH g i ((a.map Prod.fst).map qU):=by
 have C:f=a.length∧a.length≤c:=by
  obtain ⟨_,⟨b,H⟩ | ⟨I,s,G,b,_,_,y,_⟩⟩:=d.row
  ·cases b;omega
  ·cases b;exact ⟨rfl,y⟩
 obtain ⟨rfl,x⟩:=C;refine ⟨rfl,x,⟨by simp;omega,fun D z=>?_⟩⟩;have e:D < a.length:=by simpa using z
 obtain ⟨v,F,E,s,b,-⟩:=d.cell e;cases b;obtain ⟨l,m,n,o,q,k,t,r,B⟩:=d.cells e;obtain ⟨_,_,u,_,A,_⟩:=B.lits (nL (w _ (List.getElem_mem e)));cases u;refine ⟨v,0,k,t,rfl,?_⟩;simp only [List.getElem_map,qU,Nat.zero_add];exact ⟨l,m,n,o,q,r,A⟩
end Go.Proofs.YthjhkgohninpcaaGreatDoor
namespace Go.Proofs.YthjhkgohninpcaaGreatDoor
open Go.RowKit Go.Shelf Go.WideMaps
open scoped Classical
set_option maxRecDepth 100000
set_option maxHeartbeats 4000000 in
theorem bCl (D:ByteArray) (z:Option Addr) (A:Nat) (k:List Rs) (d:World) (b4:D.size≤140737488355328) (Q:wH d z k) (b1:k.length≤A) (s:iC d) :
  Calls Tryz.prog 3 #[.string D,.slice z k.length A] d fun e p=>e=.returned (.bool true)∧aC d p:=by
 have a2:cG eX.c=true:=by kernel_rfl
 have a3:cG gR.c=true:=by kernel_rfl
 have a4:cG kD.c=true:=by kernel_rfl
 have E:=aA (fun (l:Value) (a:World) (f:aC d a)=>bC0 l a (s.below f (Nat.le_refl _)));have r:=aA (fun (a:World) (f:aC d a)=>(aN4 a).mono (R':=fun e p=>∃b o c m,e=.returned (.tuple #[.agg #[.int .i64 1,.slice b o c,.slice none 0 0,.int .i64 (m:Nat),.bool false],.int .i64 0])∧(o=3∧3≤c∧lH p b ([eX,gR,kD].map qU))∧aC a p) (fun e p b2=>by
  obtain ⟨b,o,c,m,N,rfl,B,g,a9⟩:=b2;have c2:N.length=3:=by have:=congrArg List.length B;simpa using this
  obtain ⟨c0,c1,R⟩:=g.sts (fun l b3=>by
   have:l.1∈N.map Prod.fst:=List.mem_map_of_mem b3;rw [B] at this;simp at this;rcases this with e | e | e
   ·rw [e];exact a2
   ·rw [e];exact a3
   ·rw [e];exact a4) (by omega)
  rw [B] at R;exact ⟨b,o,c,m,rfl,⟨by omega,by omega,R⟩,a9⟩))
 have w:=aA (fun (a5:ByteArray) (b5:a5.size≤140737488355328) (b:Option Addr) (c:Nat) (b0:3≤c) (a:World) (f:aC d a) (g:lH a b ([eX,gR,kD].map qU))=>aN8 a5 b _ c a b5 g b0 (s.below f (Nat.le_refl _)));have a6:=aA (fun (l:Value) (a:World) (f:aC d a)=>bCd l D z A k a b4 (Q.below f) b1 (s.below f (Nat.le_refl _)));have O:decide (lG ⟨#[112,46,32,126,112,46]⟩ ([eX,gR,kD].map qU))=true:=eI bCj;have P:decide (lG ⟨#[112,46,32,112,46]⟩ ([eX,gR,kD].map qU))=false:=dE bCk;have i:=aA (aB w ⟨#[112,46,32,126,112,46]⟩ (by decide));have j:=aA (aB w ⟨#[112,46,32,112,46]⟩ (by decide));rw [O] at i;rw [P] at j;simp only [List.map_cons,List.map_nil,List.length_cons,List.length_nil,Nat.zero_add,Nat.reduceAdd] at i j;simp only [List.map_cons,List.map_nil] at r;obtain ⟨M,S⟩ : ∃M,[qU eX,qU gR,qU kD]=M:=⟨_,rfl⟩;rw [S] at r i j;clear w O P s Q S a2 a3 a4;generalize k.length=n at *;go_enter Tryz.func3,Tryz.ntmps3;go_upto_region 2 with (go_in);obtain ⟨u,Z,T⟩ : ∃u,d.alloc (.cells #[.slice none 0 0,.slice none 0 0,.slice none 0 0,.slice none 0 0,.slice none 0 0,.slice none 0 0,.slice none 0 0,.slice none 0 0,.int .i64 0] 31)=u∧aC d u:=⟨_,rfl,(Below.refl _ d).alloc (Nat.le_refl _) _⟩;rw [Z];have x:=aA T;clear Z T;go_upto_region 4 with (first
  | (go_at_call 4;refine (aB E _ u x.o).mono ?_;rintro e b7 ⟨rfl,U⟩;have y:=aA (aV x.o U);clear U)
  | (go_at_call 5;refine (aB r b7 y.o).mono ?_;rintro e v ⟨b,o,c,m,rfl,⟨rfl,Y,g⟩,V⟩;have F:=aA (aV y.o V);have J:=aA g;clear V g)
  | go_in)
 obtain ⟨q,a0,C,a1⟩ : ∃q,v.alloc (.cells #[.int .i64 1,.slice b 3 c,.slice none 0 0,.int .i64 (m:Nat),.bool false] 34)=q∧aC v q∧q.cell? ⟨v.heap.size,1,none⟩=some (.slice b 3 c):=⟨_,rfl,(Below.refl _ v).alloc (Nat.le_refl _) _,by simp⟩;rw [a0];have G:=aA (aV F.o C);have L:=aA (J.o.below C (Nat.le_refl _));clear a0 C E r x y F J;go_upto_region 5 with (first
  | (go_at_call 6;refine (aB i b c Y q G.o L.o).mono ?_;rintro e b8 ⟨rfl,t⟩;have H:=aA (aV G.o t);have a8:=aA (L.o.below t (Nat.le_refl _));have b6:=aD t a1;clear t)
  | go_in)
 clear i a1;go_upto_region 6 with (first
  | (go_at_call 6;refine (aB j b c Y b8 H.o a8.o).mono ?_;rintro e b9 ⟨rfl,W⟩;have I:=aA (aV H.o W);clear W)
  | go_in)
 clear j b6;go_wp2_with (first
  | (go_at_call 7;refine (aB a6 _ b9 I.o).mono ?_;rintro e c3 ⟨rfl,X⟩;have a7:=aA (aV I.o X);clear X)
  | go_in)
 go_ret;exact ⟨rfl,a7.o⟩
end Go.Proofs.YthjhkgohninpcaaGreatDoor
namespace Go.Proofs.YthjhkgohninpcaaGreatDoor
open Go.ChangeShapes Go.WideShapes Go.ChangeAt Go.RowKit Go.Lib Go.Shelf
set_option maxRecDepth 100000
theorem own:ownKnob Tryz.prog.godebug=none:=by kernel_rfl
theorem aN9:laidOutB Tryz.prog=true:=by kernel_rfl
theorem bCm {a:World} (d:laidMetH Tryz.prog Rows.refutedRow.laid a):iC a:=by
 have b:laidMet Tryz.prog Rows.refutedRow.laid a:=d;refine utf8Tabs_of_readsT (U8Types.of196 aIr) ⟨by kernel_rfl,by kernel_rfl,by kernel_rfl,by kernel_rfl,by kernel_rfl,by kernel_rfl,by kernel_rfl⟩ ?_ ?_
 ·rw [←Pinned.utf8First_eq];exact Lib.laidMet.reads b (by simp [Rows.refutedRow,Rows.laid_unicode_utf8_first])
 ·have c:(Rows.laid_unicode_utf8_acceptRanges:DataW Unit)=acceptData:=by kernel_rfl
  rw [←c];exact Lib.laidMet.reads b (by simp [Rows.refutedRow])
theorem contract (o:Type) (i:TypeId×Value→o) (a:World) (O:Nat) (f:Array Value) (s C:List (DataW o)) (P:List MemPlace)
  (x:∀(J:Nat) t l,Tryz.f3.params[J]?=some t→f[J]?=some l→Value.okWide Tryz.prog a .any O t l)
  (H:DataW.Whole i Tryz.prog Tryz.f3.params.toList Rows.refutedSpec.vars false a f.toList s C P)
  (a7:(DataW.weightsEach Tryz.prog (Tryz.f3.params.toList++Rows.refutedSpec.plain.varTypes Tryz.prog) (s++C)).all (·≤reachBytes)=true)
  (U:laidMetH Tryz.prog Rows.refutedRow.laid a) :
  Calls Tryz.prog 3 f a fun n b=>∃l,n=.returned l∧Rows.refutedSpec.post i Tryz.prog Tryz.f3 false true false false a f l b:=by
 have w:=H;obtain ⟨a8,b6,G,V,rfl,_,_⟩:=H;have F:DataW.TrodAll i Tryz.prog a 0 (fun _=>true) true Tryz.f3.params.toList f.toList s a8:=G;have y:=a7;rw [Tryz.params3] at F x y;obtain ⟨b0,b1,g,m,z,A,rfl,rfl,rfl,D,E⟩:=trodAll_two F;obtain ⟨rfl,rfl⟩:=trodVars_none V;obtain ⟨c,rfl⟩:=okWide_string Tryz.underlying9 (x 0 9 b0 rfl rfl);obtain ⟨p,L,r,rfl⟩:=okWide_slice Tryz.underlying22 (x 1 22 b1 rfl rfl);have S:=D;have T:=E;obtain ⟨b2,a2⟩:=D;obtain ⟨b3,a3⟩:=E;clear G;simp only [List.append_nil] at w;have I:∀e∈z++A,e.block < a.heap.size:=fun e k=>by simpa using w.lt e k
 have W:∀(b:World),aC a b→DataW.Trod i Tryz.prog b 0 (fun q=>decide (q < a.heap.size)) true 9 (.string c) g z:=
  fun b j=>Below.trod aN9 (by kernel_rfl) (of_decide_eq_true (by kernel_rfl)) S j (fun e k=>I e (by simp [k]))
 have X:∀(b:World),aC a b→DataW.Trod i Tryz.prog b 0 (fun q=>decide (q < a.heap.size)) true 22 (.slice p L r) m A:=
  fun b j=>Below.trod aN9 (by kernel_rfl) (of_decide_eq_true (by kernel_rfl)) T j (fun e k=>I e (by simp [k]))
 have a6:c.size≤140737488355328:=by
  obtain ⟨a9,n,Z,_⟩:=DataW.trod_string Tryz.underlying9 a2;obtain rfl:c=a9:=by simpa [Value.cells] using n
  have a0:g=.lit (.string c.data.toList):=congrArg Prod.fst Z;have b5:=reachBytes_lt;have:=List.all_eq_true.1 y c.size (DataW.weights_mem_each (j:=0) (t:=9) (d:=g) rfl rfl c.size (by rw [a0];simp [DataW.weights]));have b4:c.size≤reachBytes:=by simpa using this
  omega
 obtain ⟨N,B,Q,Y,a4,a5⟩:=aOc a3 (fun M j=>by
  have:=List.all_eq_true.1 y M (DataW.weights_mem_each (j:=1) (t:=22) (d:=m) rfl rfl M j);simpa using this)
 obtain ⟨rfl,rfl,rfl⟩ : p=N∧L=B.length∧r=Q:=by simpa [Value.cells] using Y
 refine (bCl c p r B a a6 a4 a5 (bCm U)).mono fun n b ⟨a1,v⟩=>?_
 subst a1;have u:Rows.refutedSpec.fn o ([g,m]++[]) = {results:=[.lit (.bool true)],args:=[g,m]}:=rfl;refine ⟨_,rfl,_,_,_,[],z++A,[],w,?_,?_,by rw [u];rfl,v.frame _,fun R=>by cases R⟩
 ·rw [u];exact trodAll_mk1 (shut_bool Tryz.underlying4 _)
 ·rw [u];exact trodAll_mk2 (W _ v) (X _ v)
noncomputable def aCm (b:Os):World:=
 let w0:=World.holding Tryz.prog b ⟨#[],#[],[]⟩;let put (h:Array Obj) (g:Nat) (cs:Array Value):Array Obj:=h.modify g fun
  | .cells _ t frozen=>.cells cs t frozen
  | o=>o
 let h1:=put w0.heap 1 (Lib.firstTab.map fun c=>Value.int .u8 c).toArray;let h2:=put h1 2 ((List.range 16).flatMap fun a=>[Value.int .u8 (Lib.accLo a),Value.int .u8 (Lib.accHi a)]).toArray;{w0 with heap:=h2}
theorem bCn (b:Os) (a:Array Value):laidMet Tryz.prog Rows.refutedRow.laid ((aCm b).forCall (fun _ _=>0) ⟨#[],a,[]⟩).memory:=
 (LaidIn.of_run (l := [("unicode/utf8.acceptRanges", Rows.laid_unicode_utf8_acceptRanges), ("unicode/utf8.first", Rows.laid_unicode_utf8_first)]) [2, 1] 8 (by kernel_rfl) (by kernel_rfl) (by kernel_rfl) (by kernel_rfl)).met
theorem bCo (a:Os) {e:Type} (b:TypeId×Value→e) :
  (OpenSpec.ofChange Rows.refutedSpec).preRow b Tryz.prog Tryz.f3 Rows.refutedRow.domain false Rows.refutedRow.laid ((aCm a).forCall (fun _ _=>0) ⟨#[],#[.string ⟨#[]⟩,.slice none 0 0],[]⟩).memory #[.string ⟨#[]⟩,.slice none 0 0]:=by
 have g:(DataW.whole b Tryz.prog ((aCm a).forCall (fun _ _=>0) ⟨#[],#[.string ⟨#[]⟩,.slice none 0 0],[]⟩).memory Tryz.f3.params.toList Rows.refutedSpec.vars false #[Value.string ⟨#[]⟩,Value.slice none 0 0].toList 8).map (fun d=>(d.1,d.2.1))=some ([.lit (.string []),.nil],[]):=by kernel_rfl
 obtain ⟨⟨k,l,m⟩,i,c⟩:=Option.map_eq_some_iff.1 g;simp only [Prod.mk.injEq] at c;obtain ⟨rfl,rfl⟩:=c;exact OpenSpec.preRow_of_cond 8 i (by kernel_rfl) (fun j f=>by cases f) (by kernel_rfl) (bCn a _)
theorem lifted (a:Os) (o:a.Started) (b:Type) (enc:TypeId×Value→b) (c:Stop.Interp) :
  ReturnsInHanded {} Tryz.checked a 3 .any ((OpenSpec.ofChange Rows.refutedSpec).preRow enc Tryz.prog Tryz.f3 Rows.refutedRow.domain false Rows.refutedRow.laid) (((OpenSpec.ofChange Rows.refutedSpec).at c).post enc Tryz.prog Tryz.f3 false true false false):=by
 refine returnsInHanded_of_row (C:=Tryz.checked) (s:=OpenSpec.ofChange Rows.refutedSpec) own o (by kernel_rfl) Tryz.func3
  (witness_row_atRef (enc:=enc) (C:=Tryz.checked) false (aCm a) #[.string ⟨#[]⟩,.slice none 0 0] rfl (by kernel_rfl) (by kernel_rfl) (by kernel_rfl) (bCo a enc)) ?_
 intro d f e i j g m l _ _ n k _ _;exact contract b enc d f e i j g m l n k
theorem said:Rows.RefutedSaid:=
 OpenClaim.holds_of_cond 3 Tryz.f3 rfl rfl rfl rfl rfl rfl rfl ⟨rfl,rfl,rfl,rfl,rfl⟩ rfl rfl rfl rfl rfl (by kernel_rfl) Tryz.func3 (by kernel_rfl)
  (of_decide_eq_true (by kernel_rfl)) (by unfold Func.isWrapper;first | (rw [aJ (by decide +kernel)];kernel_rfl) | (rw [aI (by decide +kernel)];exact ⟨rfl,rfl⟩))
  (fun d e b c _ a=>by rw [OpenClaim.pre_eq_preRow];exact lifted d e b c a)
theorem plain (b : FuncId) (c : Func) (g : Tryz.pinned.checked.prog.funcNamed "moot/mootlaw.Refuted" = some b) (i : Tryz.pinned.checked.prog.funcs[b]? = some c) :
  false=Tryz.pinned.checked.prog.looks []∧∀(e:Nat) a,c.params[e]?=some a→Tryz.pinned.checked.prog.wantsStandIn a=false:=by
 obtain rfl : b = 3 := Option.some.inj ((show Tryz.prog.funcNamed "moot/mootlaw.Refuted" = some 3 by kernel_rfl).symm.trans g) |>.symm
 obtain rfl:c=Tryz.f3:=(Option.some.inj (Tryz.func3.symm.trans i)).symm;refine ⟨by kernel_rfl,fun e a d=>?_⟩;rw [Tryz.params3] at d;have j:a=9∨a=22:=by
  have hh:a∈[9,22]:=by simpa using Array.mem_of_getElem? d
  rcases List.mem_cons.1 hh with f | hh
  ·exact Or.inl f
  ·exact Or.inr (List.mem_singleton.1 hh)
 rcases j with rfl | rfl
 ·exact (show Tryz.prog.wantsStandIn 9=false by kernel_rfl)
 ·exact (show Tryz.prog.wantsStandIn 22=false by kernel_rfl)
theorem refuted_card:Rows.RefutedCardSaid:=
 Claim7.holds_tied_plain_at .later [] _ _ _ _ said (fun _ a=>by cases a) (by kernel_rfl) (fun _ a=>by cases a) refuted_row_tie rfl ⟨rfl,rfl⟩ (by kernel_rfl) rfl plain (by kernel_rfl)
#print axioms refuted_card
end Go.Proofs.YthjhkgohninpcaaGreatDoor
