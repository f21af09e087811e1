/- Solve of the text of any raw clauses with variables and two constants (eight at most, of four literals at most): Sat just if some choice of the six atoms makes all instances true, Unsat just if none does; Out only at the limit or where something was above its size; and two known texts are solved, the one refuted, as they are: the tied card. Conditions: none but the row's own (the library's tables stand as the program lays them; each list and text is of at most 2^47 - 4096 bytes). -/
import Derived.Test.YtmelidkanelpbaaGreatDoorXSr9G
import Derived.Test.YtmelidkanelpbaaGreatDoorGnL5G
import Derived.Test.YtmelidkanelpbaaGreatDoorCAllG
import Derived.Test.YtmelidkanelpbaaGreatDoorRPrimG
import Derived.Test.YtmelidkanelpbaaGreatDoorCards
import Derived.Test.YtmelidkanelpbaaGreatDoorTie
import Derived.ProofKit
import Derived.OpenShut
import Derived.Carry
import Derived.Deep.DeepHandedRow
import Derived.Deep.DeepWitnessRowRef
import Derived.Lib.LaidIn
import Derived.Lib.LaidU8T
import Derived.PinnedBridge
namespace Go.Proofs.YtmelidkanelpbaaGreatDoor
open Go.RowKit Go.Shelf Go.WideMaps
set_option maxRecDepth 100000
theorem aSj:aAl:=fun c d e a b=>by
 rw [aAb] at a b ⊢;exact ⟨Nat.le_trans a.1 b.1,aPo a.2 b.2⟩
theorem aSk (a:List Lt) (b:aY a=true):bE a a=true:=aAb.2 ⟨Nat.le_refl _,aPn b⟩
theorem aSl {g:List (aL×Value)} {c:List Nat} (m:c.Pairwise (· < ·)) (i:sJ g c):aD7 g c:=fun p k=>by
 obtain ⟨b,d,rfl⟩:=List.getElem_of_mem k;refine ⟨fun f e=>i b d f (vX.2 (Or.inl e)),fun q l o f e=>?_⟩;obtain ⟨a,j,rfl⟩:=List.getElem_of_mem l;have n:a≤b:=by
  rcases Nat.lt_or_ge b a with h1 | h1
  ·have:=List.pairwise_iff_getElem.1 m b a d j h1;omega
  ·exact h1
 exact i b d f (vX.2 (Or.inr ⟨c[a],List.mem_take_iff_getElem.2 ⟨a,by omega,rfl⟩,e⟩))
def aAe (D:Nd→Prop) (f:Nat) (P:List (List Lt)) (c:Nat) (d:List (aL×Value)) (_:List Nat) (e:Bool):Prop:=
 (c=2→∃b,∀a∈P,jL D b a)∧(c=1→¬∃b,∀a∈P,jL D b a)∧(c=3→d.length=f∨e=true)
theorem aSm {f:Nd→Prop} {P:List (List Lt)} (t:∀d∈P,aY d=true) (l:∀d∈P,cS f d) (y:P.length≤40) (k:List (List Nd)) (o:∀d,cS f d→∀p:Int→Nd,(∀I,dY f (p I))→∀E∈d,bJ p E.2∈k) {F:Nd} (B:dY f F) {i:Nat} (s:i≤100) {c:List Cd} {e:Nat} (q:bH (gN P) [] 0 false c e false):cL i (aAe f i P) c e [] [] false:=by
 refine aTn (P:=P) (fun d J=>xV) aSj aSk s ?sat ?big ?unsat ?out i c e [] [] false (jM.start t y q) (by simp);case sat=>exact fun c e j m b _ g=>⟨fun _=>b.sat l g (fun a=>by cases a) k o,fun a=>by omega,fun a=>by omega⟩
 case big=>
  intro c e j m b _ g;refine cL.big (fun G C L x=>xV (b.clause x) (b.ok.l G C)) g (fun M z H D=>(aDc (b.clause (List.getElem_mem z)) (fun n v=>b.clause (List.mem_of_mem_take v)) H D).1) (fun w=>⟨fun _=>b.sat l g (fun _=>aSl b.srt w) k o,fun a=>by omega,fun a=>by omega⟩) (fun _=>⟨fun a=>by omega,fun a=>by omega,fun _=>Or.inr rfl⟩)
 case unsat=>exact fun c e j m n N O b _ A r=>⟨fun a=>by omega,fun _=>b.unsat l A r B,fun a=>by omega⟩
 case out=>exact fun c e j m n b u _=>⟨fun a=>by omega,fun a=>by omega,fun _=>Or.inl u⟩
theorem aSn {D:Nd→Prop} (l:ByteArray) (e:List (List Lt)) (a:Nat) (N:1≤a) (O:a≤100) (w:∀b q r,nF l b q r→b=e∧r=0) (Q:l.size≤3000) (y:∀i∈e,cS D i) (F:e.length≤40) (u:List (List Nd)) (B:∀i,cS D i→∀x:Int→Nd,(∀L,dY D (x L))→∀s∈i,bJ x s.2∈u) {J:Nd} (I:dY D J) (p:World) :
  Calls Tryz.prog 9 #[.string l,.int .i64 a] p fun v t=>aB p t∧∃d o n m g f k,v=.returned (.tuple #[tQ d o n m g,.int .i64 0])∧vH p.heap.size t d o n m f k∧xI (aAe D a e) d f k g:=by
 refine (aG8 l a (fun b=>aAe D a b) p (by omega) fun b q c=>?_).mono ?_
 ·obtain ⟨rfl,_⟩:=w _ _ _ c;refine ⟨aO5 c,by omega,fun s P _ G M R z=>?_⟩;obtain rfl:a=s:=by omega
  exact aSm (aO5 c) y F u B I G z
 ·rintro v t ⟨b,q,r,c,C,j⟩;obtain ⟨rfl,rfl⟩:=w _ _ _ c;rcases j with ⟨j,_⟩ | ⟨_,j,_⟩ | ⟨_,_,_,d,o,n,m,g,f,k,E,A,H⟩
  ·exact absurd rfl j
  ·omega
  ·exact ⟨C,d,o,n,m,g,f,k,E,A,H⟩
end Go.Proofs.YtmelidkanelpbaaGreatDoor
namespace Go.Proofs.YtmelidkanelpbaaGreatDoor
open Go.RowKit
set_option maxRecDepth 100000
def nP:Nd:=(⟨#[112]⟩,1)
def nQ:Nd:=(⟨#[113]⟩,2)
def nA:Nd:=(⟨#[97]⟩,0)
def nB:Nd:=(⟨#[98]⟩,0)
def DR (a:Nd):Prop:=a=nP∨a=nQ∨a=nA∨a=nB
theorem wP:aK nP=false∧aX nP=1:=⟨by kernel_rfl,by kernel_rfl⟩
theorem wQ:aK nQ=false∧aX nQ=2:=⟨by kernel_rfl,by kernel_rfl⟩
theorem wA:aK nA=false∧aX nA=0:=⟨by kernel_rfl,by kernel_rfl⟩
theorem wB:aK nB=false∧aX nB=0:=⟨by kernel_rfl,by kernel_rfl⟩
theorem aD8 {b:Nd} (c:dY DR b):b=nA∨b=nB:=by
 obtain ⟨h1 | h1 | h1 | h1,_,a⟩:=c
 ·rw [h1,wP.2] at a;cases a
 ·rw [h1,wQ.2] at a;cases a
 ·exact Or.inl h1
 ·exact Or.inr h1
theorem aD9:dY DR nA:=⟨Or.inr (Or.inr (Or.inl rfl)),wA.1,wA.2⟩
theorem aIm:dY DR nB:=⟨Or.inr (Or.inr (Or.inr rfl)),wB.1,wB.2⟩
def vT:List (List Nd):=[[nP,nA],[nP,nB],[nQ,nA,nA],[nQ,nB,nA],[nQ,nA,nB],[nQ,nB,nB],[nA],[nB]]
theorem aSo (i:List Lt) (m:cS DR i) (f:Int→Nd) (p:∀q,dY DR (f q)):∀g∈i,bJ f g.2∈vT:=fun g n=>by
 obtain ⟨h,d,e,j,k,b,l⟩:=m g n;have c:∀a∈d,(if aK a=true then f a.2 else a)=nA∨(if aK a=true then f a.2 else a)=nB:=fun a o=>by
  rcases l a o with h | h
  ·rw [aI h];exact aD8 (p _)
  ·rw [aH (by rw [h.2.1];simp)];exact aD8 h
 rw [e];unfold bJ;rw [List.map_cons,aH (by rw [j];simp)];rcases k with rfl | rfl | rfl | rfl
 ·rw [wP.2] at b;match d,b,c with
  | [a],_,c=>
   rw [List.map_cons,List.map_nil];rcases c a (by simp) with e | e <;> rw [e] <;> simp [vT]
 ·rw [wQ.2] at b;match d,b,c with
  | [a,u],_,c=>
   rw [List.map_cons,List.map_cons,List.map_nil];rcases c a (by simp) with e | e <;> rcases c u (by simp) with e' | e' <;> rw [e,e'] <;> simp [vT]
 ·rw [wA.2] at b;match d,b with
  | [],_=>simp [vT]
 ·rw [wB.2] at b;match d,b with
  | [],_=>simp [vT]
theorem aDa (a:Int):aK (fU fF (dH a))=true∨(DR (fU fF (dH a))∧aK (fU fF (dH a))=false∧aX (fU fF (dH a))=0):=by
 rcases aEe a with ⟨_,b⟩ | ⟨_,b⟩ | ⟨_,b⟩ | ⟨_,b⟩;all_goals rw [b]
 ·exact Or.inl (uR _)
 ·exact Or.inl (uR _)
 ·exact Or.inr aD9
 ·exact Or.inr aIm
theorem aSp (b:Rl):fC DR (pU fF (gI b)).2:=by
 unfold pU gI;by_cases c:eM b.2.1 2=0
 ·simp only [aI c];refine ⟨nP,[fU fF (dH b.2.2.1)],rfl,wP.1,Or.inl rfl,wP.2,fun d a=>?_⟩;simp at a;subst a;exact aDa _
 ·simp only [aH c];refine ⟨nQ,[fU fF (dH b.2.2.1),fU fF (dH b.2.2.2)],rfl,wQ.1,Or.inr (Or.inl rfl),wQ.2,fun d a=>?_⟩;simp at a;rcases a with rfl | rfl
  ·exact aDa _
  ·exact aDa _
theorem aSq (a:List Rl):cS DR (qU a):=by
 unfold qU;refine cS.ord fun d b=>?_
 obtain ⟨c,_,rfl⟩:=List.mem_map.1 b;exact aSp c
theorem aSr (a:List (List Rl)) (j:a.length≤40) (c:∀i∈a,i.length≤4) (b:Nat) (r:1≤b) (s:b≤100) (d:World) :
  Calls Tryz.prog 9 #[.string (gQ a),.int .i64 b] d fun p o=>aB d o∧∃e n m l g f k,p=.returned (.tuple #[tQ e n m l g,.int .i64 0])∧vH d.heap.size o e n m l f k∧xI (aAe DR b (a.map qU)) e f k g:=by
 have w:=aB2 a c;exact aSn (D:=DR) (gQ a) (a.map qU) b r s (fun x u v q=>aXc q j c) (by omega) (fun i c=>by
  obtain ⟨t,_,rfl⟩:=List.mem_map.1 c;exact aSq t) (by simpa using j) vT aSo aD9 d
end Go.Proofs.YtmelidkanelpbaaGreatDoor
namespace Go.Proofs.YtmelidkanelpbaaGreatDoor
open Go.RowKit Go.Shelf Go.WideMaps
set_option maxRecDepth 100000
theorem aSs (f:ByteArray) (d:List (List Lt)) (j g e b:Nat) (a:List (aL×Value)) (c:World) (B:f.size≤140737488355328) (s:∀t w l,nF f t w l→t=d∧l=0) (m:∀x∈d,aY x=true) (y:a.length=b+1) (o:iY j c (.slice (some ⟨g,0,none⟩) a.length e) a) (p:kT c) (n:∀i (D:i < a.length),aG9 d a i a[i].1) (r:a[b].1.c=[]) (z:b≤1000) (A:a.length≤e) :
  Calls Tryz.prog 13 #[.string f,.slice (some ⟨g,0,none⟩) (b+1) e] c fun k C=>k=.returned (.bool true)∧aB c C:=by
 have u:=aA (bEi f d j g e b a c B s m y o p n r z A);clear s m o p n r;go_enter Tryz.func13,Tryz.ntmps13;go_wp2_with (first
  | (go_at_call 17;refine (aD u).mono ?_;rintro k E ⟨rfl,q⟩;have v:=aA q;clear q)
  | go_in)
 go_ret;exact ⟨rfl,v.o⟩
theorem aIn:sG qN:=⟨by kernel_rfl,by kernel_rfl⟩
theorem aSt:kK kH cP 0 0 cQ true 0:=
 Or.inr ⟨by kernel_rfl,by kernel_rfl,Or.inr ⟨0,0,⟨by decide,by decide,rfl,rfl,by decide⟩,by
  have a:=aBx aPp 0 1 [((0:Int),(false,[qN]))] (by intro c b;simp at b;subst b;exact ⟨qN,rfl,aIn⟩) (Nat.le_of_ble_eq_true (by kernel_rfl));rw [show aV ([((0:Int),((false,[qN]):Lt))].map Prod.snd)=cQ by kernel_rfl] at a;exact a⟩⟩
theorem aSu:kK cQ oJ 0 0 [] true 0:=
 Or.inr ⟨by kernel_rfl,by kernel_rfl,Or.inr ⟨0,0,⟨by decide,by decide,rfl,rfl,by decide⟩,aBx aIn 0 1 [] (by simp) (Nat.le_of_ble_eq_true (by kernel_rfl))⟩⟩
theorem aSv {b:List (aL×Value)} (e:b.map Prod.fst=[lC,oK,jI,pG,pH]):∀k (d:k < b.length),aG9 [cP,kH,oJ] b k b[k].1:=by
 have g:b.length=5:=by have:=congrArg List.length e;simpa using this
 have c:∀k,aF b k=([lC,oK,jI,pG,pH].map aL.c).getD k []:=fun k=>by
  rw [xY,←e,List.map_map];rfl
 have f:∀k (d:k < b.length),some b[k].1=[lC,oK,jI,pG,pH][k]?:=fun k d=>by
  rw [←e,List.getElem?_map,List.getElem?_eq_getElem d];rfl
 intro k d;have a:=f k d;match k,d with
 | 0,_=>
  obtain a:b[0].1=lC:=by simpa using a
  rw [a];exact ⟨by kernel_rfl,by kernel_rfl,Or.inl ⟨rfl,rfl,rfl,rfl,rfl⟩⟩
 | 1,_=>
  obtain a:b[1].1=oK:=by simpa using a
  rw [a];exact ⟨by kernel_rfl,by kernel_rfl,Or.inl ⟨rfl,rfl,rfl,rfl,rfl⟩⟩
 | 2,_=>
  obtain a:b[2].1=jI:=by simpa using a
  rw [a];exact ⟨by kernel_rfl,by kernel_rfl,Or.inl ⟨rfl,rfl,rfl,rfl,rfl⟩⟩
 | 3,_=>
  obtain a:b[3].1=pG:=by simpa using a
  rw [a];refine ⟨by kernel_rfl,by kernel_rfl,Or.inr ⟨rfl,by decide,by decide,?_,?_,?_⟩⟩
  ·rw [c];kernel_rfl
  ·rw [c];kernel_rfl
  ·rw [c,c];exact aSt
 | 4,_=>
  obtain a:b[4].1=pH:=by simpa using a
  rw [a];refine ⟨by kernel_rfl,by kernel_rfl,Or.inr ⟨rfl,by decide,by decide,?_,?_,?_⟩⟩
  ·rw [c];kernel_rfl
  ·rw [c];kernel_rfl
  ·rw [c,c];exact aSu
 | k+5,d=>omega
theorem aSw (g:World):Calls Tryz.prog 9 #[.string zY,.int .i64 100] g fun c m=>∃d b l a,c=.returned (.tuple #[.agg #[.int .i64 1,.slice (some ⟨d,0,none⟩) (4+1) b,.slice none 0 0,.int .i64 (l:Nat),.bool false],.int .i64 0])∧a.map Prod.fst=[lC,oK,jI,pG,pH]∧a.length≤b∧iY g.heap.size m (.slice (some ⟨d,0,none⟩) a.length b) a∧aB g m:=by
 refine (aG8 _ 100 (fun _=>yB) g (by decide) (fun x p i=>?_)).mono ?_
 ·obtain ⟨rfl,_,_⟩:=zZ i;refine ⟨fun A n=>?_,by simp,fun w o _ _ y G f=>?_⟩
  ·simp at n;rcases n with rfl | rfl | rfl <;> kernel_rfl
  ·obtain rfl:w=100:=by omega
   exact aPx f
 ·rintro c m ⟨x,p,D,v,s,i⟩;obtain ⟨rfl,rfl,rfl⟩:=zZ v;rcases i with ⟨j,_⟩ | ⟨_,j,_⟩ | ⟨_,_,_,H,J,I,l,z,a,F,rfl,e,r⟩
  ·exact absurd rfl j
  ·exact absurd ⟨by decide,by decide⟩ j
  ·obtain ⟨⟨rfl,f,rfl⟩,_⟩:=r;have o:a.length=4+1:=by have:=congrArg List.length f;simpa using this
   obtain ⟨d,b,_,_,rfl,_⟩:=e.st.cell (k:=0) (by omega);have t:a.length≤b:=by
    obtain ⟨_,⟨c,_⟩ | ⟨E,B,C,c,_,_,u,_⟩⟩:=e.st.row
    ·cases c
    ·simp at c u;omega
   rcases e.kp with ⟨q,_⟩ | ⟨_,rfl⟩
   ·cases q
   ·exact ⟨d,b,l,a,by rw [←o];rfl,f,t,e.st,s⟩
theorem aSx (i:World):Calls Tryz.prog 9 #[.string aCs,.int .i64 100] i fun j n=>∃b w c f t g a,j=.returned (.tuple #[.agg #[.int .i64 2,.slice b w c,.slice f t g,.int .i64 (a:Nat),.bool false],.int .i64 0])∧aB i n:=by
 refine (aG8 _ 100 (fun _=>aA0) i (by decide) (fun v o d=>?_)).mono ?_
 ·obtain ⟨rfl,_,_⟩:=aGt d;refine ⟨fun A m=>?_,by simp,fun u C _ _ x E q=>?_⟩
  ·simp at m;rcases m with rfl | rfl <;> kernel_rfl
  ·obtain rfl:u=100:=by omega
   exact aPy q
 ·rintro j n ⟨v,o,B,s,l,d⟩;obtain ⟨rfl,rfl,rfl⟩:=aGt s;rcases d with ⟨e,_⟩ | ⟨_,e,_⟩ | ⟨_,_,_,F,H,G,a,z,y,D,rfl,k,p⟩
  ·exact absurd rfl e
  ·exact absurd ⟨by decide,by decide⟩ e
  ·obtain ⟨⟨rfl,rfl⟩,_⟩:=p;obtain ⟨b,c,rfl⟩:=aZ k.st.row;rcases k.kp with ⟨_,r⟩ | ⟨_,rfl⟩
   ·obtain ⟨f,g,rfl⟩:=aZ r;exact ⟨b,_,c,f,_,g,a,rfl,l⟩
   ·exact ⟨b,_,c,none,0,0,a,rfl,l⟩
set_option maxHeartbeats 4000000 in
theorem aSy (c:World) (z:kT c):Calls Tryz.prog 6 #[] c fun m b5=>m=.returned (.bool true)∧aB c b5:=by
 have u:=aA (aSw c);have v:=aA (fun (b6:World)=>aSx b6);have a3:=aA z;clear z;go_enter Tryz.func6,Tryz.ntmps6;go_upto_region 2 with (first
  | (go_at_call 9;refine (aD u).mono ?_;rintro m b ⟨i,g,O,f,rfl,B,D,F,q⟩;have p:=aA F;have l:=aA B;have Y:=aA q;have a7:=q.size;clear F B q)
  | go_in)
 obtain ⟨d,H,r,t⟩ : ∃d,b.alloc (.cells #[.int .i64 1,.slice (some ⟨i,0,none⟩) 5 g,.slice none 0 0,.int .i64 (O:Nat),.bool false] 30)=d∧aB b d∧d.heap[b.heap.size]?=some (.cells #[.int .i64 1,.slice (some ⟨i,0,none⟩) 5 g,.slice none 0 0,.int .i64 (O:Nat),.bool false] 30 (0,0)):=⟨_,rfl,(Below.refl _ b).alloc (Nat.le_refl _) _,World.alloc_heap_new b _⟩;rw [H];have T:d.cell? ⟨b.heap.size,0,none⟩=some (.int .i64 1):=by simp [World.cell?,t]
 have U:d.cell? ⟨b.heap.size,1,none⟩=some (.slice (some ⟨i,0,none⟩) 5 g):=by simp [World.cell?,t]
 have Z:=aA (Y.o.trans (r.mono a7));have w:=aA r;clear H t r u;go_upto_region 3 with (first
  | (go_at_call 9;refine (aD v _).mono ?_;rintro m e ⟨Q,S,R,L,N,M,P,rfl,j⟩;have V:=aC j T;have W:=aC j U;have a0:=aA (bD Z.o j);have x:=aA (w.o.trans (j.mono w.o.size));clear j)
  | go_in)
 obtain ⟨a,I,k,J⟩ : ∃a,e.alloc (.cells #[.int .i64 2,.slice Q S R,.slice L N M,.int .i64 (P:Nat),.bool false] 30)=a∧aB e a∧a.heap[e.heap.size]?=some (.cells #[.int .i64 2,.slice Q S R,.slice L N M,.int .i64 (P:Nat),.bool false] 30 (0,0)):=⟨_,rfl,(Below.refl _ e).alloc (Nat.le_refl _) _,World.alloc_heap_new e _⟩;rw [I];have b7:=aC k V;have c6:=aC k W;have b8:a.cell? ⟨e.heap.size,0,none⟩=some (.int .i64 2):=by simp [World.cell?,J]
 have s:aB c a:=bD a0.o k;have n:aB b a:=x.o.trans (k.mono x.o.size);have E:f.length=4+1:=by have:=congrArg List.length l.o;simpa using this
 have A:f[4].1=pH:=by have:=congrArg (fun a8=>a8[4]?) l.o;simp only [List.getElem?_map] at this;rw [List.getElem?_eq_getElem (by omega)] at this;simpa using this
 have G:iY c.heap.size a (.slice (some ⟨i,0,none⟩) f.length g) f:=⟨bK p.o.row n (Nat.le_refl _),fun a9 a5=>by
  obtain ⟨a4,b1,b2,b3,b4⟩:=p.o.cl a9 a5;exact ⟨a4,b1,bK b2 n (Nat.le_refl _),fun b0 a6=>bK (b3 b0 a6) n (Nat.le_refl _),b4⟩⟩
 have X:=aA (aSs zY [cP,kH,oJ] c.heap.size i g 4 f a (by decide) (fun c2 b9 c1 y=>⟨(zZ y).1,(zZ y).2.2⟩) (by intro c0 C;simp at C;rcases C with rfl | rfl | rfl <;> kernel_rfl) E G (a3.o.below s (Nat.le_refl _)) (aSv l.o) (by rw [A];rfl) (by omega) D);have a1:=aA s;clear I J k s n G A E D v T U V W p l;go_wp2_with (first
  | (go_at_call 13;refine (aD X).mono ?_;rintro m c5 ⟨rfl,o⟩;have c3:=aC o b7;have c4:=aC o b8;have a2:=aA (bD a1.o o);clear o)
  | go_in)
 go_ret;exact ⟨rfl,a2.o⟩
def aSz (d:Nd→Prop) (g:Nat) (e:List (List Lt)) (a i:Nat) (f:Bool):Prop:=(a=1∨a=2∨a=3)∧(a=2→∃c,∀b∈e,jL d c b)∧(a=1→¬∃c,∀b∈e,jL d c b)∧(a=3→i=g∨f=true)
def yE (f:Nat) (g:Option Addr) (j i:Nat) (b:Option Addr) (d c e:Nat) (a:Bool):Array Value:=#[.int .i64 f,.slice g j i,.slice b d c,.int .i64 e,.bool a]
theorem aT0 (d:List (List Rl)) (w:d.length≤40) (v:∀q∈d,q.length≤4) (e:Nat) (r:1≤e) (s:e≤100) (m:World) :
  Calls Tryz.prog 9 #[.string (gQ d),.int .i64 e] m fun n o=>aB m o∧∃i B D C a c b g f,n=.returned (.tuple #[.agg (yE i B D C a c b g f),.int .i64 0])∧aSz DR e (d.map qU) i g f:=by
 refine (aSr d w v e r s m).mono ?_;rintro n o ⟨u,i,F,A,g,f,p,E,rfl,j,l,x⟩;obtain ⟨y,z,rfl⟩:=aZ j.st.row;obtain ⟨a,c,b,rfl⟩ : ∃a c b,A=.slice a c b:=by
  rcases j.kp with ⟨_,k⟩ | ⟨_,k⟩
  ·obtain ⟨a,b,rfl⟩:=aZ k;exact ⟨_,_,_,rfl⟩
  ·exact ⟨_,_,_,k⟩
 refine ⟨u,i,y,p.length,z,a,c,b,g,f,rfl,?_,l.1,l.2.1,fun t=>?_⟩
 ·rcases x with ⟨h,_⟩ | h | h
  ·exact Or.inl h
  ·exact Or.inr (Or.inl h)
  ·exact Or.inr (Or.inr h)
 ·rcases l.2.2 t with h | h
  ·left;rw [j.us,aH (by omega)];exact h
  ·exact Or.inr h
theorem aT1 {b:World} {a:Nat} {e:Nat} {k:Option Addr} {m l:Nat} {g:Option Addr} {j i d:Nat} {c:Bool} (f:b.heap[a]?=some (.cells (yE e k m l g j i d c) 30 (0,0))):b.cell? ⟨a,0,none⟩=some (.int .i64 e)∧b.cell? ⟨a,3,none⟩=some (.int .i64 d)∧b.cell? ⟨a,4,none⟩=some (.bool c):=by refine ⟨?_,?_,?_⟩ <;> simp [World.cell?,f,yE]
theorem aT2 (b:List Kr) (a:Nat):(∀c∈(b.take a).map jE,c.2.2.length≤4)∧((b.take a).map jE).length≤a:=by refine ⟨fun c d=>?_,by rw [List.length_map,List.length_take];omega⟩;obtain ⟨e,_,rfl⟩:=List.mem_map.1 d;show (e.2.2.take 4).length≤4;rw [List.length_take];omega
end Go.Proofs.YtmelidkanelpbaaGreatDoor
namespace Go.Proofs.YtmelidkanelpbaaGreatDoor
open Go.RowKit
set_option maxRecDepth 100000
def kI (a:Int) (b c:Nat):Nat:=match eM a 4 with | 0=>b | 1=>c | 2=>0 | _=>1
def sV (a:Rl) (b c:Nat):Nat:=if eM a.2.1 2=0 then kI a.2.2.1 b c else 2+kI a.2.2.1 b c+2 * kI a.2.2.2 b c
def sW (c b:Nat) (a:Rl):Bool:=Nat.testBit c (sV a (b % 2) (b / 2)) != a.1
def uE (b c:Nat) (a:List Rl):Bool:=a.any (sW b c)
def oM (b:Nat) (a:List Rl) (c:Nat):Bool:=(List.range c).all fun d=>uE b d a
def rH (b:Nat) (c:List (List Rl)):Bool:=c.all fun a=>oM b a 4
def qM (b:List (List Rl)) (c:Nat):Bool:=(List.range c).any fun a=>rH a b
theorem aAf (c:Int) {a b:Nat} (d:a < 2) (e:b < 2):kI c a b < 2:=by unfold kI;split <;> omega
theorem aIo (a:Rl) {d e:Nat} (b:d < 2) (c:e < 2):sV a d e < 6:=by have f:=aAf a.2.2.1 b c;have g:=aAf a.2.2.2 b c;unfold sV;split <;> omega
def kN (a:Nat):Nd:=if a=0 then nA else nB
def kJ (a:Nat):List Nd:=match a with | 0=>[nP,nA] | 1=>[nP,nB] | 2=>[nQ,nA,nA] | 3=>[nQ,nB,nA] | 4=>[nQ,nA,nB] | _=>[nQ,nB,nB]
theorem aT3 (a:Nat):dY DR (kN a):=by
 unfold kN;split
 ·exact aD9
 ·exact aIm
theorem aIp {d:Int→Nd} {e f:Nat} (g:d 0=kN e) (i:d 1=kN f) (a:Int):(if aK (fU fF (dH a))=true then d (fU fF (dH a)).2 else fU fF (dH a))=kN (kI a e f):=by
 rcases aEe a with ⟨c,b⟩ | ⟨c,b⟩ | ⟨c,b⟩ | ⟨c,b⟩;all_goals
  rw [b];unfold kI;rw [c]
 ·exact (aI (uR _)).trans g
 ·exact (aI (uR _)).trans i
 ·exact aH (by rw [show aK (fU fF (110,⟨#[97]⟩))=false from wA.1];simp)
 ·exact aH (by rw [show aK (fU fF (110,⟨#[98]⟩))=false from wB.1];simp)
theorem aIq {b:Int→Nd} {x y:Nat} (e:b 0=kN x) (g:b 1=kN y) (f:x < 2) (i:y < 2) (a:Rl):bJ b (pU fF (gI a)).2=kJ (sV a x y):=by
 have d:=aIp e g a.2.2.1;have k:=aIp e g a.2.2.2;have j:=aAf a.2.2.1 f i;have l:=aAf a.2.2.2 f i;unfold bJ pU gI sV;by_cases c:eM a.2.1 2=0
 ·simp only [aI c];show [if aK nP=true then b nP.2 else nP,if aK (fU fF (dH a.2.2.1))=true then b (fU fF (dH a.2.2.1)).2 else fU fF (dH a.2.2.1)]=_;rw [aH (by rw [wP.1];simp),d];generalize kI a.2.2.1 x y=n at j;obtain rfl | rfl:n=0∨n=1:=by omega
  ·rfl
  ·rfl
 ·simp only [aH c];show [if aK nQ=true then b nQ.2 else nQ,if aK (fU fF (dH a.2.2.1))=true then b (fU fF (dH a.2.2.1)).2 else fU fF (dH a.2.2.1),if aK (fU fF (dH a.2.2.2))=true then b (fU fF (dH a.2.2.2)).2 else fU fF (dH a.2.2.2)]=_;rw [aH (by rw [wQ.1];simp),d,k];generalize kI a.2.2.1 x y=n at j;generalize kI a.2.2.2 x y=m at l;obtain rfl | rfl:n=0∨n=1:=by omega
  ·obtain rfl | rfl:m=0∨m=1:=by omega
   ·rfl
   ·rfl
  ·obtain rfl | rfl:m=0∨m=1:=by omega
   ·rfl
   ·rfl
theorem aIr {b:Nd} (c:dY DR b):∃a,a < 2∧b=kN a:=by
 rcases aD8 c with rfl | rfl
 ·exact ⟨0,by omega,rfl⟩
 ·exact ⟨1,by omega,rfl⟩
theorem aIs {v:List Nd→Bool} {t:Nat} (A:∀p,p < 6→v (kJ p)=Nat.testBit t p) (e:List Rl):jL DR v (qU e)↔oM t e 4=true:=by
 unfold oM;rw [List.all_eq_true];constructor
 ·intro l g f;rw [List.mem_range] at f;obtain ⟨s,r,_,F⟩:=aO8 (e.map fun x=>pU fF (gI x)) (fun b=>if b=0 then kN (g % 2) else kN (g / 2));obtain ⟨q,n,z⟩:=l s (fun y=>by
   obtain ⟨x,i⟩:=r y;rw [i];split <;> exact aT3 _)
  obtain ⟨H,a,j,k⟩:=F q n;obtain ⟨x,o,rfl⟩:=List.mem_map.1 a;unfold uE;rw [List.any_eq_true];refine ⟨x,o,?_⟩;rw [k,aIq (x:=g % 2) (y:=g / 2) (by simp) (by simp) (by omega) (by omega),A _ (aIo x (by omega) (by omega)),j] at z;unfold sW;simpa [pU,gI] using z
 ·intro l s D;obtain ⟨G,r,E,_⟩:=aO7 (e.map fun x=>pU fF (gI x)) s;have f:∀b,dY DR (G b):=fun b=>by
   obtain ⟨y,i⟩:=r b;rw [i];exact D y
  obtain ⟨c,u,B⟩:=aIr (f 0);obtain ⟨d,w,C⟩:=aIr (f 1);have m:=l (c+2 * d) (by rw [List.mem_range];omega);unfold uE at m;rw [List.any_eq_true] at m;obtain ⟨x,o,a⟩:=m;obtain ⟨q,n,j,k⟩:=E _ (List.mem_map_of_mem o);refine ⟨q,n,?_⟩;rw [k,aIq B C u w,A _ (aIo x u w),j];unfold sW at a;rw [show (c+2 * d) % 2=c by omega,show (c+2 * d) / 2=d by omega] at a;simpa [pU,gI] using a
theorem aT4:∀b c d e f g:Bool,∃a,a < 64∧Nat.testBit a 0=b∧Nat.testBit a 1=c∧Nat.testBit a 2=d∧Nat.testBit a 3=e∧Nat.testBit a 4=f∧Nat.testBit a 5=g:=by intro b c d e f g;refine ⟨b.toNat+2 * c.toNat+4 * d.toNat+8 * e.toNat+16 * f.toNat+32 * g.toNat,?_⟩;revert b c d e f g;decide
theorem aT5:∀b,b < 6→∀a,a < 6→kJ b=kJ a→b=a:=by
 intro b e a f g;have d:nA≠nB:=by unfold nA nB;intro c;simp at c
 have i:∀b,b < 6→∀a,a < 6→b < a→kJ b≠kJ a:=by
  intro b e a f m c;have:(b=0∧a=1)∨(b=2∧a=3)∨(b=2∧a=4)∨(b=2∧a=5)∨(b=3∧a=4)∨(b=3∧a=5)∨(b=4∧a=5)∨(b < 2∧2≤a):=by omega
  rcases this with ⟨rfl,rfl⟩ | ⟨rfl,rfl⟩ | ⟨rfl,rfl⟩ | ⟨rfl,rfl⟩ | ⟨rfl,rfl⟩ | ⟨rfl,rfl⟩ | ⟨rfl,rfl⟩ | ⟨h1,l⟩;all_goals first
   | (simp only [kJ,List.cons.injEq,and_true,true_and] at c;first | exact d c | exact d c.symm | exact d c.1 | exact d c.1.symm)
   | skip
  have j:(kJ b).length=2:=by
   obtain rfl | rfl:b=0∨b=1:=by omega
   ·rfl
   ·rfl
  have k:(kJ a).length=3:=by
   obtain rfl | rfl | rfl | rfl:a=2∨a=3∨a=4∨a=5:=by omega
   all_goals rfl
  rw [c,k] at j;omega
 rcases Nat.lt_trichotomy b a with h1 | h1 | h1
 ·exact absurd g (i b e a f h1)
 ·exact h1
 ·exact absurd g.symm (i a f b e h1)
theorem aT6 (d:Nat):∃v:List Nd→Bool,∀a,a < 6→v (kJ a)=Nat.testBit d a:=
 ⟨fun g=>(List.range 6).any fun c=>decide (kJ c=g) && Nat.testBit d c,fun a e=>by
  rw [Bool.eq_iff_iff,List.any_eq_true];constructor
  ·rintro ⟨c,f,b⟩;rw [Bool.and_eq_true,decide_eq_true_eq] at b;rw [←aT5 c (by simpa using f) a e b.1];exact b.2
  ·intro b;exact ⟨a,by simpa using e,by simp [b]⟩⟩
theorem aIt (g:List (List Rl)):qM g 64=true↔∃v,∀f∈g.map qU,jL DR v f:=by
 unfold qM rH;simp only [List.any_eq_true,List.all_eq_true,List.mem_range];constructor
 ·rintro ⟨c,_,d⟩;obtain ⟨v,q⟩:=aT6 c;refine ⟨v,fun f p=>?_⟩;obtain ⟨b,e,rfl⟩:=List.mem_map.1 p;exact (aIs q b).2 (d b e)
 ·rintro ⟨v,d⟩;obtain ⟨c,o,i,j,k,l,m,n⟩:=aT4 (v (kJ 0)) (v (kJ 1)) (v (kJ 2)) (v (kJ 3)) (v (kJ 4)) (v (kJ 5));refine ⟨c,o,fun b e=>(aIs (v:=v) (fun a r=>?_) b).1 (d _ (List.mem_map_of_mem e))⟩;obtain rfl | rfl | rfl | rfl | rfl | rfl:a=0∨a=1∨a=2∨a=3∨a=4∨a=5:=by omega
  ·exact i.symm
  ·exact j.symm
  ·exact k.symm
  ·exact l.symm
  ·exact m.symm
  ·exact n.symm
theorem aIu (d:Int) (f g:Nat) (k:lE d) (p:f < 2) (q:g < 2) (e:World):Calls Tryz.prog 16 #[.int .i64 d,.int .i64 f,.int .i64 g] e fun j r=>(∃a:Nat,j=.returned (.int .i64 a)∧a=kI d f g∧a < 2)∧aB e r:=by
 have n:=aA (fun i=>aB4 d 4 k (by omega) (by omega) i);have b:=aA (fun o=>(Below.refl e.heap.size e).alloc (Nat.le_refl _) o);clear k;go_enter Tryz.func16,Tryz.ntmps16;go_wp2_with (first
  | (go_at_call 8;refine (aD n _).mono ?_;rintro j i ⟨⟨a,rfl,l,s⟩,m⟩;rw [m];clear m i;have c:=aA l;clear l;obtain rfl | rfl | rfl | rfl:a=0∨a=1∨a=2∨a=3:=by omega)
  | go_in)
 ·go_ret;exact ⟨⟨f,rfl,(by unfold kI;rw [←c.o];rfl),p⟩,b.o _⟩
 ·go_ret;exact ⟨⟨g,rfl,(by unfold kI;rw [←c.o];rfl),q⟩,b.o _⟩
 ·go_ret;exact ⟨⟨0,rfl,(by unfold kI;rw [←c.o];rfl),by omega⟩,b.o _⟩
 ·go_ret;exact ⟨⟨1,rfl,(by unfold kI;rw [←c.o];rfl),by omega⟩,b.o _⟩
set_option maxHeartbeats 2000000 in
theorem aT7 (d:Rl) (k l:Nat) (y:lE d.2.1) (z:lE d.2.2.1) (A:lE d.2.2.2) (m:k < 2) (M:l < 2) (b:World):Calls Tryz.prog 11 #[.agg #[.bool d.1,.int .i64 d.2.1,.int .i64 d.2.2.1,.int .i64 d.2.2.2],.int .i64 k,.int .i64 l] b fun c v=>(∃n:Nat,c=.returned (.int .i64 n)∧n=sV d k l∧n < 6)∧aB b v:=by
 obtain ⟨N,w,o,p⟩:=d;simp only at y z A ⊢;have P:=aA (fun a=>aB4 w 2 y (by omega) (by omega) a);have C:=aA (fun a=>aIu o k l z m M a);have O:=aA (fun a=>aIu p k l A m M a);obtain ⟨f,W,F,u⟩ : ∃f,b.alloc (.cells #[.bool N,.int .i64 w,.int .i64 o,.int .i64 p] 38)=f∧aB b f∧f.heap[b.heap.size]?=some (.cells #[.bool N,.int .i64 w,.int .i64 o,.int .i64 p] 38 (0,0)):=⟨_,rfl,(Below.refl _ b).alloc (Nat.le_refl _) _,World.alloc_heap_new b _⟩;clear y z A;go_enter Tryz.func11,Tryz.ntmps11;go_upto_region 1 with (fail);have X:f.cell? ⟨b.heap.size,1,none⟩=some (.int .i64 w):=by simp [World.cell?,u]
 have Y:f.cell? ⟨b.heap.size,2,none⟩=some (.int .i64 o):=by simp [World.cell?,u]
 have Z:f.cell? ⟨b.heap.size,3,none⟩=some (.int .i64 p):=by simp [World.cell?,u]
 have D:=aA F;clear W F u;go_wp2_with (first
  | (go_at_call 8;refine (aD P _).mono ?_;rintro c a ⟨⟨n,rfl,G,a2⟩,L⟩;rw [L];clear L a;have E:=aA G;clear G;obtain rfl | rfl:n=0∨n=1:=by omega)
  | (go_at_call 16;refine (aD C _).mono ?_;rintro c g ⟨⟨e,rfl,H,a3⟩,i⟩;have T:=aA H;have x:=aA (bD D.o i);clear i H)
  | go_in)
 ·go_ret;exact ⟨⟨e,rfl,(by unfold sV;rw [aI E.o.symm];exact T.o),by omega⟩,x.o⟩
 ·have Q:=aA (fun (a:World) (m:∃j,a=f.drewN j)=>(C.o a).mono (R':=fun c g=>(∃e:Nat,c=.returned (.int .i64 e)∧e=kI o k l∧e < 2)∧aB f g) (fun c g q=>by obtain ⟨j,rfl⟩:=m;exact ⟨q.1,(aR ⟨j,rfl⟩).trans q.2⟩));have R:=aA (fun (g a:World) (m:∃j,a=g.drewN j)=>(O.o a).mono (R':=fun c B=>(∃e:Nat,c=.returned (.int .i64 e)∧e=kI p k l∧e < 2)∧aB g B) (fun c B q=>by obtain ⟨j,rfl⟩:=m;exact ⟨q.1,(aR ⟨j,rfl⟩).trans q.2⟩));clear X;go_region_held3 (fun v=>v.cell? ⟨b.heap.size,2,none⟩=some (.int .i64 o)∧v.cell? ⟨b.heap.size,3,none⟩=some (.int .i64 p)) (first | trivial | go_keep)
   (first
    | (go_at_call 16;refine (aD R g _ (by first | exact ⟨0,rfl⟩ | exact ⟨1,rfl⟩ | exact ⟨_,rfl⟩)).mono ?_;rintro c B ⟨⟨s,rfl,J,a5⟩,t⟩;have V:=aA J;have a9:=aC t a0;have b0:=aC t a1;have S:=aA (bD x.o t);clear t J;have a7:IntKind.i64.wrap (2 * (s:Int))=2 * (s:Int):=(by rw [IntKind.wrap_i64];omega);have a8:IntKind.i64.wrap (2+(r:Int)+2 * (s:Int))=2+(r:Int)+2 * (s:Int):=(by rw [IntKind.wrap_i64];omega))
    | (go_at_call 16;refine (aD Q _ (by first | exact ⟨0,rfl⟩ | exact ⟨1,rfl⟩ | exact ⟨_,rfl⟩)).mono ?_;rintro c g ⟨⟨r,rfl,I,a4⟩,i⟩;have U:=aA I;have a0:=aC i Y;have a1:=aC i Z;have x:=aA (bD D.o i);clear i I;have a6:IntKind.i64.wrap (2+(r:Int))=2+(r:Int):=(by rw [IntKind.wrap_i64];omega))
    | go_in)
  go_wp2;go_ret;exact ⟨⟨2+r+2 * s,rfl,(by unfold sV;rw [aH (by rw [←E.o];omega),U.o,V.o]),by omega⟩,S.o⟩
end Go.Proofs.YtmelidkanelpbaaGreatDoor
namespace Go.Proofs.YtmelidkanelpbaaGreatDoor
open Go.RowKit Go.Shelf Go.WideMaps
set_option maxRecDepth 100000
theorem aT8:((List.range 64).all fun a=>(List.range 6).all fun b=>(bits BinOp.and IntKind.i64 ((a:Int) / 2 ^ b) 1 == 1) == Nat.testBit a b)=true:=by kernel_rfl
theorem aT9 {a b:Nat} (c:a < 64) (d:b < 6):(bits BinOp.and IntKind.i64 ((a:Int) / 2 ^ b) 1 == 1)=Nat.testBit a b:=by have:=aT8;rw [List.all_eq_true] at this;have:=this a (by simpa using c);rw [List.all_eq_true] at this;exact eq_of_beq (this b (by simpa using d))
theorem aTa {c:Type} (f:c→Bool) (b:List c) (a:Nat) (d:a < b.length):(b.take (a+1)).any f=((b.take a).any f || f b[a]):=by rw [List.take_succ_eq_append_getElem d,List.any_append];simp
theorem aTb (b:Nat) (a:List Rl) (c:Nat):oM b a (c+1)=(oM b a c && uE b c a):=by unfold oM;rw [List.range_succ,List.all_append];simp
theorem aTc (a:List (List Rl)) (b:Nat):qM a (b+1)=(qM a b || rH b a):=by unfold qM;rw [List.range_succ,List.any_append];simp
set_option maxHeartbeats 8000000 in
theorem aTd (I:Option Addr) (b5:Nat) (s:List Kr) (r:World) (c1:wU r I s) (c0:kT r) :
  Calls Tryz.prog 4 #[.slice I s.length b5] r fun p h4=>p=.returned (.bool true)∧aB r h4:=by
 have a1:=aA (aSy r c0);have a3:=aA (fun (j:World) (n:aB r j)=>aXl I b5 s 8 (by omega) j (c1.below n));obtain ⟨N,c2⟩:=aT2 s 8;have D:=aA (fun (j:World) (l:List Kr) (b3:Option Addr) (g0:Nat) (n:aEf j b3 (l.map fun a=>(oU a,a.2.2))) (h0:l.length≤8) (u:∀a∈l,a.2.2.length≤4)=>aXh b3 g0 (l.map fun a=>(oU a,a.2.2)) j n (by simpa using (show l.length≤40 by omega)) (fun Z T=>by obtain ⟨a,U,rfl⟩:=List.mem_map.1 T;exact u a U));have a4:=aA (fun (j:World) (l:List Kr) (h0:l.length≤8) (u:∀a∈l,a.2.2.length≤4)=>aT0 (l.map fun a=>a.2.2) (by simpa using (show l.length≤40 by omega)) (fun Z T=>by obtain ⟨a,U,rfl⟩:=List.mem_map.1 T;exact u a U) 25 (by omega) (by omega) j);simp only [List.map_map,Function.comp_def,List.length_map] at D;generalize (s.take 8).map jE=Y at *;clear c1 c0;go_enter Tryz.func4,Tryz.ntmps4;go_upto_region 2 with (first
  | (go_at_call 6;refine (aD a1).mono ?_;rintro p h5 ⟨rfl,c3⟩;have a5:=aA c3;clear c3)
  | go_in)
 go_upto_region 3 with (first
  | (go_at_call 7;refine (aD a3 h5 a5.o).mono ?_;rintro p e3 ⟨j6,rfl,d0,c4⟩;have a6:=aA d0;have f0:=aA (bD a5.o c4);clear d0 c4)
  | go_in)
 obtain ⟨h7,h8,rfl,d2,c9⟩:=a6.o.cell;have a2:=aA (aD D e3 Y h7 h8 d2 c2 N);have E:=aA (fun j=>aD a4 j Y c2 N);have f5:=aA c9;unfold yE at E;clear d2 c9 a1 a3 D a4;go_upto_region 5 with (first
  | (go_at_call 10;refine (aD a2).mono ?_;rintro p j7 ⟨rfl,c5⟩;have f1:=aA c5;clear c5)
  | (go_at_call 9;refine (aD E _).mono ?_;rintro p y ⟨c6,x,e6,e8,e7,d7,d9,d8,w,A,rfl,d3⟩;have b2:=aA d3;have f2:=aA (bD f1.o c6);clear c6 d3)
  | go_in)
 obtain ⟨o,d5,c7,d6⟩ : ∃o,y.alloc (.cells #[.int .i64 x,.slice e6 e8 e7,.slice d7 d9 d8,.int .i64 w,.bool A] 30)=o∧aB y o∧o.heap[y.heap.size]?=some (.cells (yE x e6 e8 e7 d7 d9 d8 w A) 30 (0,0)):=⟨_,rfl,(Below.refl _ y).alloc (Nat.le_refl _) _,World.alloc_heap_new y _⟩;rw [d5];obtain ⟨e4,a0,e5⟩:=aT1 d6;have F:=aA (bD f2.o c7);clear d5 c7 d6 a2 E;go_wp2;have f8:aM (∀e (n:e < Y.length),(Y.map fun a=>a.2.2).take (e+1)=(Y.map fun a=>a.2.2).take e++[Y[e].2.2]):=aA fun e n=>by rw [List.take_succ_eq_append_getElem (by simpa using n),List.getElem_map]
 have f9:aM ((Y.map fun a=>a.2.2).take Y.length=Y.map fun a=>a.2.2):=aA (by rw [←List.length_map (f:=fun a:Kr=>a.2.2),List.take_length]);have c8:=F.o.size;go_loopw [8,9] (fun t L wr=>∃b:Nat,t=.bool (qM (Y.map fun a=>a.2.2) b)∧L=.int .i64 b∧b≤64∧aB o wr) (fun _ L _=>64 - (intOf L).toNat);case atStart=>exact ⟨0,rfl,rfl,by omega,Below.refl _ _⟩
 case round=>
  obtain ⟨b,rfl,rfl,i1,d⟩:=hrel;by_cases g9:b < 64
  ·have i7:(b:Int) < 64:=by omega
   have e9:=aA d;clear d;have a9:=aA (aTc (Y.map fun a=>a.2.2) b);generalize qM (Y.map fun a=>a.2.2) b=an at *;go_wp2;go_loopw [10,11] (fun t V wr=>∃e:Nat,t=.bool (rH b ((Y.map fun a=>a.2.2).take e))∧V=.int .i64 e∧e≤Y.length∧aB o wr) (fun _ V _=>Y.length - (intOf V).toNat);case atStart=>exact ⟨0,rfl,rfl,by omega,e9.o⟩
   case round=>
    obtain ⟨e,rfl,rfl,i3,d⟩:=hrel;by_cases B:e < Y.length
    ·have i5:(e:Int) < (Y.length:Int):=by omega
     obtain ⟨i0,rfl,P⟩:=f5.o e B;have S:=a6.o.raw _ (List.getElem_mem B);have g8:=N _ (List.getElem_mem B);have a7:aM (rH b ((Y.map fun a=>a.2.2).take (e+1))=(rH b ((Y.map fun a=>a.2.2).take e) && oM b Y[e].2.2 4)):=aA (by rw [f8.o e B];unfold rH;rw [List.all_append];simp);generalize rH b ((Y.map fun a=>a.2.2).take e)=al at *;generalize Y[e]=a at *;obtain ⟨j4,j5,g⟩:=a;unfold oU at P;simp only at P S g8 a7;have b1:=aA S;have f3:=aA d;clear d S;go_wp2;go_loopw [10,12] (fun t X wr=>∃c:Nat,t=.bool (al && oM b g c)∧X=.int .i64 c∧c≤4∧aB o wr) (fun _ X _=>4 - (intOf X).toNat);case atStart=>exact ⟨0,by simp [oM],rfl,by omega,f3.o⟩
     case round=>
      obtain ⟨c,rfl,rfl,j2,d⟩:=hrel;by_cases i8:c < 4
      ·have i9:(c:Int) < 4:=by omega
       have H:aM ((al && oM b g (c+1))=(al && oM b g c && uE b c g)):=aA (by rw [aTb,Bool.and_assoc]);have f6:∃J,(al && oM b g c)=J:=⟨_,rfl⟩;obtain ⟨J,O⟩:=f6;rw [O] at H;rw [O];clear O;have f4:=aA d;clear d;go_wp2;go_loopw [13,14] (fun h2 W wr=>∃i:Nat,h2=.bool ((g.take i).any (sW b c))∧W=.int .i64 i∧i≤g.length∧aB o wr) (fun _ W _=>g.length - (intOf W).toNat);case atStart=>exact ⟨0,by simp,rfl,by omega,f4.o⟩
       case round=>
        obtain ⟨i,rfl,rfl,i4,d⟩:=hrel;have q:aB e3 wr:=F.o.trans (d.mono c8);have b4:=aC q P;by_cases R:i < g.length
        ·have i6:(i:Int) < (g.length:Int):=by omega
         obtain ⟨h9,j3,rfl,b6,b7,b8,b9⟩:=b1.o.cell i R;obtain ⟨e0,e1,e2⟩:=b1.o.rng i R;have M:=aC q b6;have g1:=aC q b7;have g2:=aC q b8;have g3:=aC q b9;have a8:=aA (aTa (sW b c) g i R);have C:=aA (fun (j:World)=>aT7 g[i] (c % 2) (c / 2) e0 e1 e2 (by omega) (by omega) j);generalize (g.take i).any (sW b c)=on at *;generalize g[i]=Z at *;obtain ⟨k0,j8,j9,a0⟩:=Z;simp only at M g1 g2 g3 C;have j0:Int.tmod (c:Int) 2=((c % 2:Nat):Int):=by rw [Int.tmod_eq_emod_of_nonneg (by omega)];rfl
         have i2:Int.tdiv (c:Int) 2=((c / 2:Nat):Int):=by rw [Int.tdiv_eq_ediv_of_nonneg (by omega)];rfl
         have k:=aA d;clear d b6 b7 b8 b9 e0 e1 e2;cases on
         ·go_wp2_with (first
           | (go_at_call 11;refine (aD C _).mono ?_;rintro p h6 ⟨⟨h3,rfl,v,d1⟩,m⟩;have g5:=aC m b4;have g4:=aC m M;have b0:=aA v;have G:=aA (bD k.o m);clear m v)
           | go_in)
          go_roundw;case rel=>exact ⟨i+1,(by rw [a8.o,Bool.false_or];unfold sW;rw [←b0.o,←aT9 g9 d1];rfl),by go_num,by omega,G.o⟩
          case measure=>simp [intOf];omega
         ·go_wp2_with (first
           | (go_at_call 11;refine (aD C _).mono ?_;rintro p h6 ⟨⟨h3,rfl,v,d1⟩,m⟩;have g5:=aC m b4;have g4:=aC m M;have b0:=aA v;have G:=aA (bD k.o m);clear m v)
           | go_in)
          go_roundw;case rel=>exact ⟨i+1,by rw [a8.o];rfl,by go_num,by omega,G.o⟩
          case measure=>simp [intOf];omega
        ·obtain rfl:i=g.length:=by omega
         have f7:aM ((g.take g.length).any (sW b c)=uE b c g):=aA (by rw [List.take_length];rfl);rw [f7.o];generalize uE b c g=on at *;have k:=aA d;clear d q;cases J
         ·go_wp2;go_roundw;case rel=>exact ⟨c+1,by rw [H.o];rfl,by go_num,by omega,k.o⟩
          case measure=>simp [intOf];omega
         ·go_wp2;go_roundw;case rel=>exact ⟨c+1,by rw [H.o];rfl,by go_num,by omega,k.o⟩
          case measure=>simp [intOf];omega
      ·obtain rfl:c=4:=by omega
       rw [←a7.o];have k:=aA d;clear d;go_wp2;go_roundw;case rel=>exact ⟨e+1,rfl,by go_num,by omega,k.o⟩
       case measure=>simp [intOf];omega
    ·obtain rfl:e=Y.length:=by omega
     rw [f9.o];generalize rH b (Y.map fun a=>a.2.2)=al at *;have k:=aA d;clear d;cases an
     ·go_wp2;go_roundw;case rel=>exact ⟨b+1,by rw [a9.o];rfl,by go_num,by omega,k.o⟩
      case measure=>simp [intOf];omega
     ·go_wp2;go_roundw;case rel=>exact ⟨b+1,by rw [a9.o];rfl,by go_num,by omega,k.o⟩
      case measure=>simp [intOf];omega
  ·obtain rfl:b=64:=by omega
   have Q:(x=3∧(w=25∨A=true))∨(x=2∧qM (Y.map fun a=>a.2.2) 64=true)∨(x=1∧qM (Y.map fun a=>a.2.2) 64=false):=by
    obtain ⟨h1,g6,g7,u⟩:=b2.o;rcases h1 with h1 | h1 | h1
    ·refine Or.inr (Or.inr ⟨h1,?_⟩);rw [←Bool.not_eq_true];exact fun n=>g7 h1 ((aIt _).1 n)
    ·exact Or.inr (Or.inl ⟨h1,(aIt _).2 (g6 h1)⟩)
    ·exact Or.inl ⟨h1,u h1⟩
   have k1:=aC d e4;have k2:=aC d a0;have k3:=aC d e5;have z:=aA (bD f0.o (F.o.trans (d.mono c8)));clear d e4 a0 e5 b2;generalize qM (Y.map fun a=>a.2.2) 64=an at *;rcases Q with ⟨rfl,Q⟩ | ⟨rfl,rfl⟩ | ⟨rfl,rfl⟩
   ·by_cases d4:w=25
    ·subst d4;go_wp2;go_ret;exact ⟨rfl,z.o⟩
    ·obtain rfl:A=true:=Q.resolve_left d4;have j1:((w:Int) == 25)=false:=by rw [beq_eq_false_iff_ne];omega
     go_wp2;go_ret;exact ⟨rfl,z.o⟩
   ·go_wp2;go_ret;exact ⟨rfl,z.o⟩
   ·go_wp2;go_ret;exact ⟨rfl,z.o⟩
end Go.Proofs.YtmelidkanelpbaaGreatDoor
namespace Go.Proofs.YtmelidkanelpbaaGreatDoor
open Go.ChangeShapes Go.WideShapes Go.ChangeAt Go.RowKit Go.Lib Go.Shelf
set_option maxRecDepth 100000
theorem own:ownKnob Tryz.prog.godebug=none:=by kernel_rfl
theorem aTe:laidOutB Tryz.prog=true:=by kernel_rfl
theorem aTf {a:World} (d:laidMetH Tryz.prog Rows.groundedRow.laid a):kT a:=by
 have b:laidMet Tryz.prog Rows.groundedRow.laid a:=d;refine utf8Tabs_of_readsT (U8Types.of196 aM3) ⟨by kernel_rfl,by kernel_rfl,by kernel_rfl,by kernel_rfl,by kernel_rfl,by kernel_rfl,by kernel_rfl⟩ ?_ ?_
 ·rw [←Pinned.utf8First_eq];exact Lib.laidMet.reads b (by simp [Rows.groundedRow,Rows.laid_unicode_utf8_first])
 ·have c:(Rows.laid_unicode_utf8_acceptRanges:DataW Unit)=acceptData:=by kernel_rfl
  rw [←c];exact Lib.laidMet.reads b (by simp [Rows.groundedRow])
theorem contract (i:Type) (f:TypeId×Value→i) (a:World) (E:Nat) (c:Array Value) (m s:List (DataW i)) (F:List MemPlace)
  (z:∀(A:Nat) t d,Tryz.f4.params[A]?=some t→c[A]?=some d→Value.okWide Tryz.prog a .any E t d)
  (y:DataW.Whole f Tryz.prog Tryz.f4.params.toList Rows.groundedSpec.vars false a c.toList m s F)
  (V:(DataW.weightsEach Tryz.prog (Tryz.f4.params.toList++Rows.groundedSpec.plain.varTypes Tryz.prog) (m++s)).all (·≤reachBytes)=true)
  (J:laidMetH Tryz.prog Rows.groundedRow.laid a) :
  Calls Tryz.prog 4 c a fun r b=>∃d,r=.returned d∧Rows.groundedSpec.post f Tryz.prog Tryz.f4 false true false false a c d b:=by
 have o:=y;obtain ⟨g,W,w,L,rfl,_,_⟩:=y;have v:DataW.TrodAll f Tryz.prog a 0 (fun _=>true) true Tryz.f4.params.toList c.toList m g:=w;rw [Tryz.params4] at v z;obtain ⟨T,l,rfl,rfl,u⟩:=trodAll_one v;obtain ⟨rfl,rfl⟩:=trodVars_none L;obtain ⟨j,B,k,rfl⟩:=okWide_slice Tryz.underlying22 (z 0 22 T rfl rfl);have I:=u;obtain ⟨U,P⟩:=u;clear w;simp only [List.append_nil] at o;have R:∀e∈g,e.block < a.heap.size:=fun e p=>by simpa using o.lt e p
 have M:∀(b:World),aB a b→DataW.Trod f Tryz.prog b 0 (fun C=>decide (C < a.heap.size)) true 22 (.slice j B k) l g:=
  fun b S=>Below.trod aTe (by kernel_rfl) (of_decide_eq_true (by kernel_rfl)) I S (fun e p=>R e (by simp [p]))
 obtain ⟨D,q,G,N,Q⟩:=aXn P;obtain ⟨rfl,rfl,rfl⟩ : j=D∧B=q.length∧k=G:=by simpa [Value.cells] using N
 refine (aTd j k q a Q (aTf J)).mono fun r b ⟨O,x⟩=>?_
 subst O;have n:Rows.groundedSpec.fn i ([l]++[]) = {results:=[.lit (.bool true)],args:=[l]}:=rfl;refine ⟨_,rfl,_,_,_,[],g,[],o,?_,?_,by rw [n];rfl,x.frame _,fun H=>by cases H⟩
 ·rw [n];exact trodAll_mk1 (shut_bool Tryz.underlying4 _)
 ·rw [n];exact trodAll_mk1 (M _ x)
noncomputable def aAg (b:Os):World:=
 let w0:=World.holding Tryz.prog b ⟨#[],#[],[]⟩;let put (h:Array Obj) (g:Nat) (cs:Array Value):Array Obj:=h.modify g fun
  | .cells _ t frozen=>.cells cs t frozen
  | o=>o
 let h1:=put w0.heap 1 (Lib.firstTab.map fun c=>Value.int .u8 c).toArray;let h2:=put h1 2 ((List.range 16).flatMap fun a=>[Value.int .u8 (Lib.accLo a),Value.int .u8 (Lib.accHi a)]).toArray;{w0 with heap:=h2}
theorem aTg (b:Os) (a:Array Value):laidMet Tryz.prog Rows.groundedRow.laid ((aAg b).forCall (fun _ _=>0) ⟨#[],a,[]⟩).memory:=
 (LaidIn.of_run (l := [("unicode/utf8.acceptRanges", Rows.laid_unicode_utf8_acceptRanges), ("unicode/utf8.first", Rows.laid_unicode_utf8_first)]) [2, 1] 8 (by kernel_rfl) (by kernel_rfl) (by kernel_rfl) (by kernel_rfl)).met
theorem aTh (a:Os) {e:Type} (b:TypeId×Value→e) :
  (OpenSpec.ofChange Rows.groundedSpec).preRow b Tryz.prog Tryz.f4 Rows.groundedRow.domain false Rows.groundedRow.laid ((aAg a).forCall (fun _ _=>0) ⟨#[],#[.slice none 0 0],[]⟩).memory #[.slice none 0 0]:=by
 have g:(DataW.whole b Tryz.prog ((aAg a).forCall (fun _ _=>0) ⟨#[],#[.slice none 0 0],[]⟩).memory Tryz.f4.params.toList Rows.groundedSpec.vars false #[Value.slice none 0 0].toList 8).map (fun d=>(d.1,d.2.1))=some ([.nil],[]):=by kernel_rfl
 obtain ⟨⟨k,l,m⟩,i,c⟩:=Option.map_eq_some_iff.1 g;simp only [Prod.mk.injEq] at c;obtain ⟨rfl,rfl⟩:=c;exact OpenSpec.preRow_of_cond 8 i (by kernel_rfl) (fun j f=>by cases f) (by kernel_rfl) (aTg a _)
theorem lifted (a:Os) (o:a.Started) (b:Type) (enc:TypeId×Value→b) (c:Stop.Interp) :
  ReturnsInHanded {} Tryz.checked a 4 .any ((OpenSpec.ofChange Rows.groundedSpec).preRow enc Tryz.prog Tryz.f4 Rows.groundedRow.domain false Rows.groundedRow.laid) (((OpenSpec.ofChange Rows.groundedSpec).at c).post enc Tryz.prog Tryz.f4 false true false false):=by
 refine returnsInHanded_of_row (C:=Tryz.checked) (s:=OpenSpec.ofChange Rows.groundedSpec) own o (by kernel_rfl) Tryz.func4
  (witness_row_atRef (enc:=enc) (C:=Tryz.checked) false (aAg a) #[.slice none 0 0] rfl (by kernel_rfl) (by kernel_rfl) (by kernel_rfl) (aTh a enc)) ?_
 intro d f e i j g m l _ _ n k _ _;exact contract b enc d f e i j g m l n k
theorem said:Rows.GroundedSaid:=
 OpenClaim.holds_of_cond 4 Tryz.f4 rfl rfl rfl rfl rfl rfl rfl ⟨rfl,rfl,rfl,rfl,rfl⟩ rfl rfl rfl rfl rfl (by kernel_rfl) Tryz.func4 (by kernel_rfl)
  (of_decide_eq_true (by kernel_rfl)) (by unfold Func.isWrapper;first | (rw [aI (by decide +kernel)];kernel_rfl) | (rw [aH (by decide +kernel)];exact ⟨rfl,rfl⟩))
  (fun d e b c _ a=>by rw [OpenClaim.pre_eq_preRow];exact lifted d e b c a)
theorem plain (b : FuncId) (c : Func) (f : Tryz.pinned.checked.prog.funcNamed "moot/mootkeep.Grounded" = some b) (g : Tryz.pinned.checked.prog.funcs[b]? = some c) :
  false=Tryz.pinned.checked.prog.looks []∧∀(e:Nat) a,c.params[e]?=some a→Tryz.pinned.checked.prog.wantsStandIn a=false:=by
 obtain rfl : b = 4 := Option.some.inj ((show Tryz.prog.funcNamed "moot/mootkeep.Grounded" = some 4 by kernel_rfl).symm.trans f) |>.symm
 obtain rfl:c=Tryz.f4:=(Option.some.inj (Tryz.func4.symm.trans g)).symm;refine ⟨by kernel_rfl,fun e a d=>?_⟩;rw [Tryz.params4] at d;obtain rfl:a=22:=by simpa using Array.mem_of_getElem? d
 exact (show Tryz.prog.wantsStandIn 22=false by kernel_rfl)
theorem grounded_card:Rows.GroundedCardSaid:=
 Claim7.holds_tied_plain_at .later [] _ _ _ _ said (fun _ a=>by cases a) (by kernel_rfl) (fun _ a=>by cases a) grounded_row_tie rfl ⟨rfl,rfl⟩ (by kernel_rfl) rfl plain (by kernel_rfl)
#print axioms grounded_card
end Go.Proofs.YtmelidkanelpbaaGreatDoor
