/- Solve of the texts of any raw clauses (eight at most, of four literals at most), and of the same clauses turned by any number: neither is the one Sat and the other Unsat, both are read, and two known texts are solved, the one refuted, as they are: the tied card. Conditions: none but the row's own (the library's tables stand as the program lays them; each list and text is of at most 2^47 - 4096 bytes). -/
import Derived.Test.YtmelidkanelpbaaGreatDoorXSr9T
import Derived.Test.YtmelidkanelpbaaGreatDoorGnL4T
import Derived.Test.YtmelidkanelpbaaGreatDoorRelWT
import Derived.Test.YtmelidkanelpbaaGreatDoorCards
import Derived.Test.YtmelidkanelpbaaGreatDoorTie
import Derived.ProofKit
import Derived.OpenShut
import Derived.Carry
import Derived.Deep.DeepHandedRow
import Derived.Deep.DeepWitnessRowRef
import Derived.Lib.LaidIn
import Derived.Lib.LaidU8T
import Derived.PinnedBridge
namespace Go.Proofs.YtmelidkanelpbaaGreatDoor
open Go.RowKit Go.Shelf Go.WideMaps
set_option maxRecDepth 100000
theorem aTl:aAj:=fun c d e a b=>by
 rw [aAb] at a b ⊢;exact ⟨Nat.le_trans a.1 b.1,aPl a.2 b.2⟩
theorem aTm (a:List Lt) (b:aY a=true):bD a a=true:=aAb.2 ⟨Nat.le_refl _,aPk b⟩
theorem aTn {g:List (aK×Value)} {c:List Nat} (m:c.Pairwise (· < ·)) (i:sD g c):aD2 g c:=fun p k=>by
 obtain ⟨b,d,rfl⟩:=List.getElem_of_mem k;refine ⟨fun f e=>i b d f (vU.2 (Or.inl e)),fun q l o f e=>?_⟩;obtain ⟨a,j,rfl⟩:=List.getElem_of_mem l;have n:a≤b:=by
  rcases Nat.lt_or_ge b a with h1 | h1
  ·have:=List.pairwise_iff_getElem.1 m b a d j h1;omega
  ·exact h1
 exact i b d f (vU.2 (Or.inr ⟨c[a],List.mem_take_iff_getElem.2 ⟨a,by omega,rfl⟩,e⟩))
def aAd (D:Nd→Prop) (f:Nat) (P:List (List Lt)) (c:Nat) (d:List (aK×Value)) (_:List Nat) (e:Bool):Prop:=
 (c=2→∃b,∀a∈P,jH D b a)∧(c=1→¬∃b,∀a∈P,jH D b a)∧(c=3→d.length=f∨e=true)
theorem aTo {f:Nd→Prop} {P:List (List Lt)} (t:∀d∈P,aY d=true) (l:∀d∈P,cS f d) (y:P.length≤40) (k:List (List Nd)) (o:∀d,cS f d→∀p:Int→Nd,(∀I,eI f (p I))→∀E∈d,bK p E.2∈k) {F:Nd} (B:eI f F) {i:Nat} (s:i≤100) {c:List Cd} {e:Nat} (q:bH (gK P) [] 0 false c e false):cL i (aAd f i P) c e [] [] false:=by
 refine aUg (P:=P) (fun d J=>xO) aTl aTm s ?sat ?big ?unsat ?out i c e [] [] false (jI.start t y q) (by simp);case sat=>exact fun c e j m b _ g=>⟨fun _=>b.sat l g (fun a=>by cases a) k o,fun a=>by omega,fun a=>by omega⟩
 case big=>
  intro c e j m b _ g;refine cL.big (fun G C L x=>xO (b.clause x) (b.ok.l G C)) g (fun M z H D=>(aD6 (b.clause (List.getElem_mem z)) (fun n v=>b.clause (List.mem_of_mem_take v)) H D).1) (fun w=>⟨fun _=>b.sat l g (fun _=>aTn b.srt w) k o,fun a=>by omega,fun a=>by omega⟩) (fun _=>⟨fun a=>by omega,fun a=>by omega,fun _=>Or.inr rfl⟩)
 case unsat=>exact fun c e j m n N O b _ A r=>⟨fun a=>by omega,fun _=>b.unsat l A r B,fun a=>by omega⟩
 case out=>exact fun c e j m n b u _=>⟨fun a=>by omega,fun a=>by omega,fun _=>Or.inl u⟩
theorem aTp {D:Nd→Prop} (l:ByteArray) (e:List (List Lt)) (a:Nat) (N:1≤a) (O:a≤100) (w:∀b q r,nO l b q r→b=e∧r=0) (Q:l.size≤3000) (y:∀i∈e,cS D i) (F:e.length≤40) (u:List (List Nd)) (B:∀i,cS D i→∀x:Int→Nd,(∀L,eI D (x L))→∀s∈i,bK x s.2∈u) {J:Nd} (I:eI D J) (p:World) :
  Calls Tryz.prog 9 #[.string l,.int .i64 a] p fun v t=>aB p t∧∃d o n m g f k,v=.returned (.tuple #[tJ d o n m g,.int .i64 0])∧uX p.heap.size t d o n m f k∧xB (aAd D a e) d f k g:=by
 refine (aFy l a (fun b=>aAd D a b) p (by omega) fun b q c=>?_).mono ?_
 ·obtain ⟨rfl,_⟩:=w _ _ _ c;refine ⟨aOf c,by omega,fun s P _ G M R z=>?_⟩;obtain rfl:a=s:=by omega
  exact aTo (aOf c) y F u B I G z
 ·rintro v t ⟨b,q,r,c,C,j⟩;obtain ⟨rfl,rfl⟩:=w _ _ _ c;rcases j with ⟨j,_⟩ | ⟨_,j,_⟩ | ⟨_,_,_,d,o,n,m,g,f,k,E,A,H⟩
  ·exact absurd rfl j
  ·omega
  ·exact ⟨C,d,o,n,m,g,f,k,E,A,H⟩
end Go.Proofs.YtmelidkanelpbaaGreatDoor
namespace Go.Proofs.YtmelidkanelpbaaGreatDoor
open Go.RowKit
set_option maxRecDepth 100000
def nP:Nd:=(⟨#[112]⟩,1)
def nQ:Nd:=(⟨#[113]⟩,2)
def nA:Nd:=(⟨#[97]⟩,0)
def nB:Nd:=(⟨#[98]⟩,0)
def DR (a:Nd):Prop:=a=nP∨a=nQ∨a=nA∨a=nB
theorem wP:aL nP=false∧aX nP=1:=⟨by kernel_rfl,by kernel_rfl⟩
theorem wQ:aL nQ=false∧aX nQ=2:=⟨by kernel_rfl,by kernel_rfl⟩
theorem wA:aL nA=false∧aX nA=0:=⟨by kernel_rfl,by kernel_rfl⟩
theorem wB:aL nB=false∧aX nB=0:=⟨by kernel_rfl,by kernel_rfl⟩
theorem aI7 {b:Nd} (c:eI DR b):b=nA∨b=nB:=by
 obtain ⟨h1 | h1 | h1 | h1,_,a⟩:=c
 ·rw [h1,wP.2] at a;cases a
 ·rw [h1,wQ.2] at a;cases a
 ·exact Or.inl h1
 ·exact Or.inr h1
theorem aI8:eI DR nA:=⟨Or.inr (Or.inr (Or.inl rfl)),wA.1,wA.2⟩
theorem aTq:eI DR nB:=⟨Or.inr (Or.inr (Or.inr rfl)),wB.1,wB.2⟩
def vN:List (List Nd):=[[nP,nA],[nP,nB],[nQ,nA,nA],[nQ,nB,nA],[nQ,nA,nB],[nQ,nB,nB],[nA],[nB]]
theorem aTr (i:List Lt) (m:cS DR i) (f:Int→Nd) (p:∀q,eI DR (f q)):∀g∈i,bK f g.2∈vN:=fun g n=>by
 obtain ⟨h,d,e,j,k,b,l⟩:=m g n;have c:∀a∈d,(if aL a=true then f a.2 else a)=nA∨(if aL a=true then f a.2 else a)=nB:=fun a o=>by
  rcases l a o with h | h
  ·rw [aI h];exact aI7 (p _)
  ·rw [aH (by rw [h.2.1];simp)];exact aI7 h
 rw [e];unfold bK;rw [List.map_cons,aH (by rw [j];simp)];rcases k with rfl | rfl | rfl | rfl
 ·rw [wP.2] at b;match d,b,c with
  | [a],_,c=>
   rw [List.map_cons,List.map_nil];rcases c a (by simp) with e | e <;> rw [e] <;> simp [vN]
 ·rw [wQ.2] at b;match d,b,c with
  | [a,u],_,c=>
   rw [List.map_cons,List.map_cons,List.map_nil];rcases c a (by simp) with e | e <;> rcases c u (by simp) with e' | e' <;> rw [e,e'] <;> simp [vN]
 ·rw [wA.2] at b;match d,b with
  | [],_=>simp [vN]
 ·rw [wB.2] at b;match d,b with
  | [],_=>simp [vN]
theorem aD3 (a:Int):aL (pB qJ (fA a))=true∨(DR (pB qJ (fA a))∧aL (pB qJ (fA a))=false∧aX (pB qJ (fA a))=0):=by
 rcases aGz a with ⟨_,b⟩ | ⟨_,b⟩ | ⟨_,b⟩ | ⟨_,b⟩;all_goals rw [b]
 ·exact Or.inl (xQ _)
 ·exact Or.inl (xQ _)
 ·exact Or.inr aI8
 ·exact Or.inr aTq
theorem aTs (b:Rl):fC DR (xR qJ (jV b)).2:=by
 unfold xR jV;by_cases c:dO b.2.1 2=0
 ·simp only [aI c];refine ⟨nP,[pB qJ (fA b.2.2.1)],rfl,wP.1,Or.inl rfl,wP.2,fun d a=>?_⟩;simp at a;subst a;exact aD3 _
 ·simp only [aH c];refine ⟨nQ,[pB qJ (fA b.2.2.1),pB qJ (fA b.2.2.2)],rfl,wQ.1,Or.inr (Or.inl rfl),wQ.2,fun d a=>?_⟩;simp at a;rcases a with rfl | rfl
  ·exact aD3 _
  ·exact aD3 _
theorem aTt (a:List Rl):cS DR (qK a):=by
 unfold qK;refine cS.ord fun d b=>?_
 obtain ⟨c,_,rfl⟩:=List.mem_map.1 b;exact aTs c
theorem aTu (a:List (List Rl)) (j:a.length≤40) (c:∀i∈a,i.length≤4) (b:Nat) (r:1≤b) (s:b≤100) (d:World) :
  Calls Tryz.prog 9 #[.string (gL a),.int .i64 b] d fun p o=>aB d o∧∃e n m l g f k,p=.returned (.tuple #[tJ e n m l g,.int .i64 0])∧uX d.heap.size o e n m l f k∧xB (aAd DR b (a.map qK)) e f k g:=by
 have w:=zY a c;exact aTp (D:=DR) (gL a) (a.map qK) b r s (fun x u v q=>aRh q j c) (by omega) (fun i c=>by
  obtain ⟨t,_,rfl⟩:=List.mem_map.1 c;exact aTt t) (by simpa using j) vN aTr aI8 d
def aI9 {b:Type} (a:List b) (d:Nat):List b:=(List.range a.length).filterMap fun c=>a[(c+d) % a.length]?
theorem aTv {g:Type} {a:List g} {b:Nat} (i:b < a.length) (f:g):f∈aI9 a b↔f∈a:=by
 unfold aI9;rw [List.mem_filterMap];constructor
 ·rintro ⟨j,_,c⟩;exact List.mem_of_getElem? c
 ·intro c;obtain ⟨d,e,rfl⟩:=List.getElem_of_mem c;refine ⟨(d+(a.length - b)) % a.length,by rw [List.mem_range];exact Nat.mod_lt _ (by omega),?_⟩;rw [Nat.mod_add_mod,show d+(a.length - b)+b=d+a.length by omega,Nat.add_mod_right,Nat.mod_eq_of_lt e,List.getElem?_eq_getElem e]
def kF {a:Type} (Y:List a) (p k:Nat):List a:=(List.range k).filterMap fun b=>Y[(b+p) % Y.length]?
theorem aIa {b:Type} {Y:List b} {p k:Nat} (a:0 < Y.length):kF Y p (k+1)=kF Y p k++[Y[(k+p) % Y.length]'(Nat.mod_lt _ a)]:=by
 unfold kF;rw [List.range_succ,List.filterMap_append];congr 1
 rw [List.filterMap_cons,List.getElem?_eq_getElem (Nat.mod_lt _ a)];rfl
theorem aD4 {b:Type} {Y:List b} {p:Nat} (a:0 < Y.length):∀k,(kF Y p k).length=k
 | 0=>rfl
 | k+1=>by rw [aIa a,List.length_append,aD4 a k];rfl
theorem aIb {c:Type} {Y:List c} {e d:Nat} {b:c} (a:b∈kF Y e d):b∈Y:=by unfold kF at a;rw [List.mem_filterMap] at a;obtain ⟨f,_,a⟩:=a;exact List.mem_of_getElem? a
theorem aTw {c:Type} {Y:List c} (b:Int) (a:c):a∈kF Y (dO b Y.length) Y.length↔a∈Y:=by
 rcases Nat.eq_zero_or_pos Y.length with h | h
 ·obtain rfl:=List.length_eq_zero_iff.1 h;simp [kF]
 ·exact aTv (zW b h) a
theorem aIc {c:Nd→Prop} {d e:List (List Lt)} (f:∀a,a∈e→a∈d) (i:∃b,∀a∈d,jH c b a):∃b,∀a∈e,jH c b a:=by obtain ⟨b,j⟩:=i;exact ⟨b,fun a g=>j a (f a g)⟩
end Go.Proofs.YtmelidkanelpbaaGreatDoor
namespace Go.Proofs.YtmelidkanelpbaaGreatDoor
open Go.RowKit Go.Shelf Go.WideMaps
set_option maxRecDepth 100000
theorem aTx (f:ByteArray) (d:List (List Lt)) (j g e b:Nat) (a:List (aK×Value)) (c:World) (B:f.size≤140737488355328) (s:∀t w l,nO f t w l→t=d∧l=0) (m:∀x∈d,aY x=true) (y:a.length=b+1) (o:iV j c (.slice (some ⟨g,0,none⟩) a.length e) a) (p:kQ c) (n:∀i (D:i < a.length),aFz d a i a[i].1) (r:a[b].1.c=[]) (z:b≤1000) (A:a.length≤e) :
  Calls Tryz.prog 13 #[.string f,.slice (some ⟨g,0,none⟩) (b+1) e] c fun k C=>k=.returned (.bool true)∧aB c C:=by
 have u:=aA (bDz f d j g e b a c B s m y o p n r z A);clear s m o p n r;go_enter Tryz.func13,Tryz.ntmps13;go_wp2_with (first
  | (go_at_call 17;refine (aD u).mono ?_;rintro k E ⟨rfl,q⟩;have v:=aA q;clear q)
  | go_in)
 go_ret;exact ⟨rfl,v.o⟩
theorem aId:sC qN:=⟨by kernel_rfl,by kernel_rfl⟩
theorem aTy:kH kP cP 0 0 cQ true 0:=
 Or.inr ⟨by kernel_rfl,by kernel_rfl,Or.inr ⟨0,0,⟨by decide,by decide,rfl,rfl,by decide⟩,by
  have a:=aBz aXe 0 1 [((0:Int),(false,[qN]))] (by intro c b;simp at b;subst b;exact ⟨qN,rfl,aId⟩) (Nat.le_of_ble_eq_true (by kernel_rfl));rw [show aV ([((0:Int),((false,[qN]):Lt))].map Prod.snd)=cQ by kernel_rfl] at a;exact a⟩⟩
theorem aTz:kH cQ oP 0 0 [] true 0:=
 Or.inr ⟨by kernel_rfl,by kernel_rfl,Or.inr ⟨0,0,⟨by decide,by decide,rfl,rfl,by decide⟩,aBz aId 0 1 [] (by simp) (Nat.le_of_ble_eq_true (by kernel_rfl))⟩⟩
theorem aU0 {b:List (aK×Value)} (e:b.map Prod.fst=[lD,oQ,jP,pP,pQ]):∀k (d:k < b.length),aFz [cP,kP,oP] b k b[k].1:=by
 have g:b.length=5:=by have:=congrArg List.length e;simpa using this
 have c:∀k,aF b k=([lD,oQ,jP,pP,pQ].map aK.c).getD k []:=fun k=>by
  rw [yL,←e,List.map_map];rfl
 have f:∀k (d:k < b.length),some b[k].1=[lD,oQ,jP,pP,pQ][k]?:=fun k d=>by
  rw [←e,List.getElem?_map,List.getElem?_eq_getElem d];rfl
 intro k d;have a:=f k d;match k,d with
 | 0,_=>
  obtain a:b[0].1=lD:=by simpa using a
  rw [a];exact ⟨by kernel_rfl,by kernel_rfl,Or.inl ⟨rfl,rfl,rfl,rfl,rfl⟩⟩
 | 1,_=>
  obtain a:b[1].1=oQ:=by simpa using a
  rw [a];exact ⟨by kernel_rfl,by kernel_rfl,Or.inl ⟨rfl,rfl,rfl,rfl,rfl⟩⟩
 | 2,_=>
  obtain a:b[2].1=jP:=by simpa using a
  rw [a];exact ⟨by kernel_rfl,by kernel_rfl,Or.inl ⟨rfl,rfl,rfl,rfl,rfl⟩⟩
 | 3,_=>
  obtain a:b[3].1=pP:=by simpa using a
  rw [a];refine ⟨by kernel_rfl,by kernel_rfl,Or.inr ⟨rfl,by decide,by decide,?_,?_,?_⟩⟩
  ·rw [c];kernel_rfl
  ·rw [c];kernel_rfl
  ·rw [c,c];exact aTy
 | 4,_=>
  obtain a:b[4].1=pQ:=by simpa using a
  rw [a];refine ⟨by kernel_rfl,by kernel_rfl,Or.inr ⟨rfl,by decide,by decide,?_,?_,?_⟩⟩
  ·rw [c];kernel_rfl
  ·rw [c];kernel_rfl
  ·rw [c,c];exact aTz
 | k+5,d=>omega
theorem aU1 (g:World):Calls Tryz.prog 9 #[.string aAy,.int .i64 100] g fun c m=>∃d b l a,c=.returned (.tuple #[.agg #[.int .i64 1,.slice (some ⟨d,0,none⟩) (4+1) b,.slice none 0 0,.int .i64 (l:Nat),.bool false],.int .i64 0])∧a.map Prod.fst=[lD,oQ,jP,pP,pQ]∧a.length≤b∧iV g.heap.size m (.slice (some ⟨d,0,none⟩) a.length b) a∧aB g m:=by
 refine (aFy _ 100 (fun _=>yO) g (by decide) (fun x p i=>?_)).mono ?_
 ·obtain ⟨rfl,_,_⟩:=aAz i;refine ⟨fun A n=>?_,by simp,fun w o _ _ y G f=>?_⟩
  ·simp at n;rcases n with rfl | rfl | rfl <;> kernel_rfl
  ·obtain rfl:w=100:=by omega
   exact aXm f
 ·rintro c m ⟨x,p,D,v,s,i⟩;obtain ⟨rfl,rfl,rfl⟩:=aAz v;rcases i with ⟨j,_⟩ | ⟨_,j,_⟩ | ⟨_,_,_,H,J,I,l,z,a,F,rfl,e,r⟩
  ·exact absurd rfl j
  ·exact absurd ⟨by decide,by decide⟩ j
  ·obtain ⟨⟨rfl,f,rfl⟩,_⟩:=r;have o:a.length=4+1:=by have:=congrArg List.length f;simpa using this
   obtain ⟨d,b,_,_,rfl,_⟩:=e.st.cell (k:=0) (by omega);have t:a.length≤b:=by
    obtain ⟨_,⟨c,_⟩ | ⟨E,B,C,c,_,_,u,_⟩⟩:=e.st.row
    ·cases c
    ·simp at c u;omega
   rcases e.kp with ⟨q,_⟩ | ⟨_,rfl⟩
   ·cases q
   ·exact ⟨d,b,l,a,by rw [←o];rfl,f,t,e.st,s⟩
theorem aU2 (i:World):Calls Tryz.prog 9 #[.string aEf,.int .i64 100] i fun j n=>∃b w c f t g a,j=.returned (.tuple #[.agg #[.int .i64 2,.slice b w c,.slice f t g,.int .i64 (a:Nat),.bool false],.int .i64 0])∧aB i n:=by
 refine (aFy _ 100 (fun _=>aB0) i (by decide) (fun v o d=>?_)).mono ?_
 ·obtain ⟨rfl,_,_⟩:=aKr d;refine ⟨fun A m=>?_,by simp,fun u C _ _ x E q=>?_⟩
  ·simp at m;rcases m with rfl | rfl <;> kernel_rfl
  ·obtain rfl:u=100:=by omega
   exact aXn q
 ·rintro j n ⟨v,o,B,s,l,d⟩;obtain ⟨rfl,rfl,rfl⟩:=aKr s;rcases d with ⟨e,_⟩ | ⟨_,e,_⟩ | ⟨_,_,_,F,H,G,a,z,y,D,rfl,k,p⟩
  ·exact absurd rfl e
  ·exact absurd ⟨by decide,by decide⟩ e
  ·obtain ⟨⟨rfl,rfl⟩,_⟩:=p;obtain ⟨b,c,rfl⟩:=aZ k.st.row;rcases k.kp with ⟨_,r⟩ | ⟨_,rfl⟩
   ·obtain ⟨f,g,rfl⟩:=aZ r;exact ⟨b,_,c,f,_,g,a,rfl,l⟩
   ·exact ⟨b,_,c,none,0,0,a,rfl,l⟩
set_option maxHeartbeats 4000000 in
theorem aU3 (c:World) (z:kQ c):Calls Tryz.prog 6 #[] c fun m b5=>m=.returned (.bool true)∧aB c b5:=by
 have u:=aA (aU1 c);have v:=aA (fun (b6:World)=>aU2 b6);have a3:=aA z;clear z;go_enter Tryz.func6,Tryz.ntmps6;go_upto_region 2 with (first
  | (go_at_call 9;refine (aD u).mono ?_;rintro m b ⟨i,g,O,f,rfl,B,D,F,q⟩;have p:=aA F;have l:=aA B;have Y:=aA q;have a7:=q.size;clear F B q)
  | go_in)
 obtain ⟨d,H,r,t⟩ : ∃d,b.alloc (.cells #[.int .i64 1,.slice (some ⟨i,0,none⟩) 5 g,.slice none 0 0,.int .i64 (O:Nat),.bool false] 30)=d∧aB b d∧d.heap[b.heap.size]?=some (.cells #[.int .i64 1,.slice (some ⟨i,0,none⟩) 5 g,.slice none 0 0,.int .i64 (O:Nat),.bool false] 30 (0,0)):=⟨_,rfl,(Below.refl _ b).alloc (Nat.le_refl _) _,World.alloc_heap_new b _⟩;rw [H];have T:d.cell? ⟨b.heap.size,0,none⟩=some (.int .i64 1):=by simp [World.cell?,t]
 have U:d.cell? ⟨b.heap.size,1,none⟩=some (.slice (some ⟨i,0,none⟩) 5 g):=by simp [World.cell?,t]
 have Z:=aA (Y.o.trans (r.mono a7));have w:=aA r;clear H t r u;go_upto_region 3 with (first
  | (go_at_call 9;refine (aD v _).mono ?_;rintro m e ⟨Q,S,R,L,N,M,P,rfl,j⟩;have V:=aC j T;have W:=aC j U;have a0:=aA (bE Z.o j);have x:=aA (w.o.trans (j.mono w.o.size));clear j)
  | go_in)
 obtain ⟨a,I,k,J⟩ : ∃a,e.alloc (.cells #[.int .i64 2,.slice Q S R,.slice L N M,.int .i64 (P:Nat),.bool false] 30)=a∧aB e a∧a.heap[e.heap.size]?=some (.cells #[.int .i64 2,.slice Q S R,.slice L N M,.int .i64 (P:Nat),.bool false] 30 (0,0)):=⟨_,rfl,(Below.refl _ e).alloc (Nat.le_refl _) _,World.alloc_heap_new e _⟩;rw [I];have b7:=aC k V;have c6:=aC k W;have b8:a.cell? ⟨e.heap.size,0,none⟩=some (.int .i64 2):=by simp [World.cell?,J]
 have s:aB c a:=bE a0.o k;have n:aB b a:=x.o.trans (k.mono x.o.size);have E:f.length=4+1:=by have:=congrArg List.length l.o;simpa using this
 have A:f[4].1=pQ:=by have:=congrArg (fun a8=>a8[4]?) l.o;simp only [List.getElem?_map] at this;rw [List.getElem?_eq_getElem (by omega)] at this;simpa using this
 have G:iV c.heap.size a (.slice (some ⟨i,0,none⟩) f.length g) f:=⟨bJ p.o.row n (Nat.le_refl _),fun a9 a5=>by
  obtain ⟨a4,b1,b2,b3,b4⟩:=p.o.cl a9 a5;exact ⟨a4,b1,bJ b2 n (Nat.le_refl _),fun b0 a6=>bJ (b3 b0 a6) n (Nat.le_refl _),b4⟩⟩
 have X:=aA (aTx aAy [cP,kP,oP] c.heap.size i g 4 f a (by decide) (fun c2 b9 c1 y=>⟨(aAz y).1,(aAz y).2.2⟩) (by intro c0 C;simp at C;rcases C with rfl | rfl | rfl <;> kernel_rfl) E G (a3.o.below s (Nat.le_refl _)) (aU0 l.o) (by rw [A];rfl) (by omega) D);have a1:=aA s;clear I J k s n G A E D v T U V W p l;go_wp2_with (first
  | (go_at_call 13;refine (aD X).mono ?_;rintro m c5 ⟨rfl,o⟩;have c3:=aC o b7;have c4:=aC o b8;have a2:=aA (bE a1.o o);clear o)
  | go_in)
 go_ret;exact ⟨rfl,a2.o⟩
def aU4 (d:Nd→Prop) (g:Nat) (e:List (List Lt)) (a i:Nat) (f:Bool):Prop:=(a=1∨a=2∨a=3)∧(a=2→∃c,∀b∈e,jH d c b)∧(a=1→¬∃c,∀b∈e,jH d c b)∧(a=3→i=g∨f=true)
def vO (f:Nat) (g:Option Addr) (j i:Nat) (b:Option Addr) (d c e:Nat) (a:Bool):Array Value:=#[.int .i64 f,.slice g j i,.slice b d c,.int .i64 e,.bool a]
theorem aU5 (d:List (List Rl)) (w:d.length≤40) (v:∀q∈d,q.length≤4) (e:Nat) (r:1≤e) (s:e≤100) (m:World) :
  Calls Tryz.prog 9 #[.string (gL d),.int .i64 e] m fun n o=>aB m o∧∃i B D C a c b g f,n=.returned (.tuple #[.agg (vO i B D C a c b g f),.int .i64 0])∧aU4 DR e (d.map qK) i g f:=by
 refine (aTu d w v e r s m).mono ?_;rintro n o ⟨u,i,F,A,g,f,p,E,rfl,j,l,x⟩;obtain ⟨y,z,rfl⟩:=aZ j.st.row;obtain ⟨a,c,b,rfl⟩ : ∃a c b,A=.slice a c b:=by
  rcases j.kp with ⟨_,k⟩ | ⟨_,k⟩
  ·obtain ⟨a,b,rfl⟩:=aZ k;exact ⟨_,_,_,rfl⟩
  ·exact ⟨_,_,_,k⟩
 refine ⟨u,i,y,p.length,z,a,c,b,g,f,rfl,?_,l.1,l.2.1,fun t=>?_⟩
 ·rcases x with ⟨h,_⟩ | h | h
  ·exact Or.inl h
  ·exact Or.inr (Or.inl h)
  ·exact Or.inr (Or.inr h)
 ·rcases l.2.2 t with h | h
  ·left;rw [j.us,aH (by omega)];exact h
  ·exact Or.inr h
theorem aIe {b:World} {a:Nat} {e:Nat} {k:Option Addr} {m l:Nat} {g:Option Addr} {j i d:Nat} {c:Bool} (f:b.heap[a]?=some (.cells (vO e k m l g j i d c) 30 (0,0))):b.cell? ⟨a,0,none⟩=some (.int .i64 e)∧b.cell? ⟨a,3,none⟩=some (.int .i64 d)∧b.cell? ⟨a,4,none⟩=some (.bool c):=by refine ⟨?_,?_,?_⟩ <;> simp [World.cell?,f,vO]
theorem aU6 (b:List Kr) (a:Nat):(∀c∈(b.take a).map jC,c.2.2.length≤4)∧((b.take a).map jC).length≤a:=by refine ⟨fun c d=>?_,by rw [List.length_map,List.length_take];omega⟩;obtain ⟨e,_,rfl⟩:=List.mem_map.1 d;show (e.2.2.take 4).length≤4;rw [List.length_take];omega
set_option maxHeartbeats 4000000 in
theorem aU7 (T:Option Addr) (c5:Nat) (u:List Kr) (f:Int) (e7:nG f) (s:World) (d1:wK s T u) (d0:kQ s) :
  Calls Tryz.prog 3 #[.slice T u.length c5,.int .i64 f] s fun j k3=>j=.returned (.bool true)∧aB s k3:=by
 have a9:=aA (aU3 s d0);have b2:=aA (fun (c:World) (h:aB s c)=>aXd T c5 u 8 (by omega) c (d1.below h));obtain ⟨W,D⟩:=aU6 u 8;have I:=aA (fun (a8:Nat) (i8:1≤a8) (l0:a8≤8) (c:World)=>aE6 f a8 e7 i8 (by omega) c);have A:=aA (fun (c:World) (d:List Kr) (c3:Option Addr) (i7:Nat) (h:wJ c c3 (d.map fun a=>(nN a,a.2.2))) (j2:d.length≤8) (V:∀a∈d,a.2.2.length≤4)=>aXb c3 i7 (d.map fun a=>(nN a,a.2.2)) c h (by simpa using (show d.length≤40 by omega)) (fun l g=>by obtain ⟨a,i,rfl⟩:=List.mem_map.1 g;exact V a i));have J:=aA (fun (c:World) (d:List Kr) (j2:d.length≤8) (V:∀a∈d,a.2.2.length≤4)=>aU5 (d.map fun a=>a.2.2) (by simpa using (show d.length≤40 by omega)) (fun l g=>by obtain ⟨a,i,rfl⟩:=List.mem_map.1 g;exact V a i) 25 (by omega) (by omega) c);obtain ⟨j6,hK,i9,j0,j1⟩:=info_parts aKg;simp only [List.map_map,Function.comp_def,List.length_map] at A;generalize (u.take 8).map jC=Y at *;clear d1 d0 e7;go_enter Tryz.func3,Tryz.ntmps3;go_upto_region 2 with (first
  | (go_at_call 6;refine (aD a9).mono ?_;rintro j k4 ⟨rfl,d2⟩;have b3:=aA d2;clear d2)
  | go_in)
 go_upto_region 3 with (first
  | (go_at_call 7;refine (aD b2 k4 b3.o).mono ?_;rintro j t ⟨m2,rfl,e0,d3⟩;have B:=aA e0;have h5:=aA (bE b3.o d3);clear e0 d3)
  | go_in)
 obtain ⟨k5,k6,rfl,e3,d7⟩:=B.o.cell;have c1:=aA e3;have b6:=aA d7;clear e3 d7 a9 b2;go_wp2;go_loopw [7,8] (fun j7 a5 wr=>∃b:Nat,a5=.int .i64 b∧b≤Y.length∧uK t.heap.size wr j7 (kF Y (dO f Y.length) b)∧aB t wr) (fun _ a5 _=>Y.length - (intOf a5).toNat);case atStart=>exact ⟨0,rfl,by omega,⟨World.ownsRow_nil _ _ _ _,fun l g=>by simp [kF] at g⟩,Below.refl _ _⟩
 case round=>
  obtain ⟨b,rfl,l1,r,o⟩:=hrel;by_cases l4:b < Y.length
  ·have l5:(b:Int) < (Y.length:Int):=by omega
   have w:0 < Y.length:=by omega
   have a1:=aD4 (Y:=Y) (p:=dO f Y.length) w b;have C:=aA (aIa (Y:=Y) (p:=dO f Y.length) (k:=b) w);have j4:=zW f w;have h4:=aA (aD I Y.length w D);obtain ⟨e,a3⟩ : ∃e,dO f Y.length=e:=⟨_,rfl⟩;have c0:=aA a3;rw [a3] at j4 C r a1;have a4:(b+e) % Y.length < Y.length:=Nat.mod_lt _ w;obtain ⟨k9,rfl,p⟩:=b6.o _ a4;have E:=B.o.raw _ (List.getElem_mem a4);have c2:aM (Int.tmod ((b:Int)+(e:Int)) (Y.length:Int)=(((b+e) % Y.length:Nat):Int)):=aA (by
    rw [show (b:Int)+(e:Int)=((b+e:Nat):Int) by omega,Int.tmod_eq_emod_of_nonneg (by omega)];rfl)
   obtain ⟨a,f4⟩ : ∃a,Y[(b+e) % Y.length]=a:=⟨_,rfl⟩;rw [f4] at C p E;generalize (b+e) % Y.length=q at p c2 a4;clear f4 a3 I;obtain ⟨m,n,z⟩:=a;have c4:=aC o p;unfold nN at c4;simp only at c4;have j5:=E.below o;have d6:=o.size;have O:=aA o;have i3:=aA r;have k8:=aA E;have k7:=aA a1;have l2:(kF Y e b).length≤8:=by omega
   obtain ⟨a6,a7,rfl⟩:=aZ r.row;have l6:=c2.o;have i4:aM (∀l∈kF Y e b++[(m,n,z)],lQ t l.1 l.2.2):=aA (by
    rw [←C.o];exact fun l g=>B.o.raw l (aIb g))
   have i2:aM (nN (m,n,z)=.slice m z.length n):=aA rfl;generalize kF Y e b=M at *;generalize z.length=xn at *;clear o r p E j5 a1;have b8:=aA (bJ i3.o.row ((Below.refl _ wr).alloc (Nat.le_refl _) (.cells #[.slice m xn n] 25)) (Nat.le_refl _));have j3:∀g2∈[Value.slice m xn n],g2.oneCell'=true:=by intro g2 e8;simp at e8;subst e8;rfl
   have b5:=aA ((Below.refl _ wr).alloc (Nat.le_refl _) (.cells #[.slice m xn n] 25));go_wp2_with (first
    | (go_at_call 8;refine (aD h4 _).mono ?_;rintro j c ⟨⟨l9,rfl,e2,l3⟩,f1⟩;rw [f1];clear f1 c;rw [c0.o] at e2;subst e2)
    | (at_builtin;refine wpList_append_own _ rfl (.tmp 37) (.tmp 39) 22 rfl t.heap.size 25 j6 (.slice none 0 0) 1 24 Tryz.underlying22 hK i9 j0 j1 rfl (by decide) _ _ _ rfl b8.o ⟨wr.heap.size,0,none⟩ 1 1 [.slice m xn n] rfl rfl (sG wr _ _ _ rfl) j3 (by unfold maxLen;omega) (by omega) (by simp;omega) ?_;intro k2 k e1 d9 _;have b9:=aA e1;have b7:=aA d9;clear e1 d9)
    | go_in)
   have d8:(wr.alloc (.cells #[.slice m xn n] 25)).grownBy k (Value.slice a6 M.length a7).ownBlock:=b7.o;have v:aB t k:=Below.grown (O.o.trans (b5.o.mono d6)) d8 (Nat.le_trans d6 b5.o.size) (fun l7 j=>aKh b8.o j);have i1:aM (uK t.heap.size k k2 (M++[(m,n,z)])):=aA ⟨by have:=b9.o;rw [←i2.o] at this;simpa using this,fun l g=>(i4.o l g).below v⟩;clear d8 b9 b7;go_roundw;case rel=>exact ⟨b+1,by go_num,by omega,by rw [c0.o,C.o];exact i1.o,v⟩
   case measure=>simp [intOf];omega
  ·obtain rfl:b=Y.length:=by omega
   obtain ⟨a6,a7,rfl,e4,_⟩:=r.cell;have c9:(kF Y (dO f Y.length) Y.length).length≤8:=by
    rcases Nat.eq_zero_or_pos Y.length with h | h
    ·rw [h];simp [kF]
    ·rw [aD4 h];exact D
   have c8:∀a∈kF Y (dO f Y.length) Y.length,a.2.2.length≤4:=fun a i=>W a (aIb i)
   have P:=aA (aTw (Y:=Y) f);generalize kF Y (dO f Y.length) Y.length=M at *;have b0:=aA (aD A wr Y k5 k6 (c1.o.below o) D W);have L:=aA (fun c=>aD J c Y D W);have b1:=aA (fun (c:World) (g:aB wr c)=>aD A c M a6 a7 (e4.below g) c9 c8);have N:=aA (fun c=>aD J c M c9 c8);have O:=aA (bE h5.o o);clear o r e4 A J I c1 b6 B;unfold vO at L N;go_upto_region 10 with (first
    | (go_at_call 10;refine (aD b0).mono ?_;rintro j m3 ⟨rfl,d4⟩;have h6:=aA d4;clear d4)
    | (go_at_call 9;refine (aD L _).mono ?_;rintro j x ⟨d5,F,g6,h0,g8,f5,g0,f7,g3,c6,rfl,e5⟩;have Q:=aA e5;have h7:=aA (bE h6.o d5);clear d5 e5)
    | go_in)
   obtain ⟨k,e9,v,f2⟩ : ∃k,x.alloc (.cells #[.int .i64 F,.slice g6 h0 g8,.slice f5 g0 f7,.int .i64 g3,.bool c6] 30)=k∧aB x k∧k.heap[x.heap.size]?=some (.cells (vO F g6 h0 g8 f5 g0 f7 g3 c6) 30 (0,0)):=⟨_,rfl,(Below.refl _ x).alloc (Nat.le_refl _) _,World.alloc_heap_new x _⟩;rw [e9];obtain ⟨g5,_,_⟩:=aIe f2;have b4:=aA (bE h7.o v);clear e9 v f2 b0 L;go_upto_region 11 with (first
    | (go_at_call 10;refine (aD b1 k b4.o).mono ?_;rintro j m4 ⟨rfl,X⟩;have h2:=aC X g5;have h8:=aA (bE b4.o X);clear X g5)
    | (go_at_call 9;refine (aD N _).mono ?_;rintro j y ⟨Z,G,g7,h1,g9,f6,g1,f8,g4,c7,rfl,e6⟩;have h3:=aC Z h2;have R:=aA e6;have h9:=aA (bE h8.o Z);clear Z e6 h2)
    | go_in)
   obtain ⟨H,f0,a0,f3⟩ : ∃H,y.alloc (.cells #[.int .i64 G,.slice g7 h1 g9,.slice f6 g1 f8,.int .i64 g4,.bool c7] 30)=H∧aB y H∧H.heap[y.heap.size]?=some (.cells (vO G g7 h1 g9 f6 g1 f8 g4 c7) 30 (0,0)):=⟨_,rfl,(Below.refl _ y).alloc (Nat.le_refl _) _,World.alloc_heap_new y _⟩;rw [f0];obtain ⟨m1,_,_⟩:=aIe f3;have m0:=aC a0 h3;have i0:=aA (bE O.o (bE h9.o a0));clear f0 a0 f3 b1 N h3;have a2:¬(F=2∧G=1)∧¬(F=1∧G=2):=by
    obtain ⟨_,j9,j8,_⟩:=Q.o;obtain ⟨_,k1,k0,_⟩:=R.o;have f9:∀{d S:List Kr},(∀a,a∈S→a∈d)→∀U,U∈(S.map fun a=>a.2.2).map qK→U∈(d.map fun a=>a.2.2).map qK:=by intro d S h U p;simp only [List.mem_map] at p ⊢;obtain ⟨l8,⟨a,i,rfl⟩,rfl⟩:=p;exact ⟨_,⟨a,h a i,rfl⟩,rfl⟩
    exact ⟨fun h=>k0 h.2 (aIc (f9 fun a i=>(P.o a).1 i) (j9 h.1)),fun h=>j8 h.1 (aIc (f9 fun a i=>(P.o a).2 i) (k1 h.2))⟩
   have i5:=Q.o.1;have i6:=R.o.1;clear Q R P;rcases i5 with rfl | rfl | rfl <;> rcases i6 with rfl | rfl | rfl;all_goals first
    | exact absurd ⟨rfl,rfl⟩ a2.1
    | exact absurd ⟨rfl,rfl⟩ a2.2
    | skip
   all_goals
    clear a2;go_wp2;go_ret;exact ⟨rfl,i0.o⟩
end Go.Proofs.YtmelidkanelpbaaGreatDoor
namespace Go.Proofs.YtmelidkanelpbaaGreatDoor
open Go.ChangeShapes Go.WideShapes Go.ChangeAt Go.RowKit Go.Lib Go.Shelf
set_option maxRecDepth 100000
theorem own:ownKnob Tryz.prog.godebug=none:=by kernel_rfl
theorem aIf:laidOutB Tryz.prog=true:=by kernel_rfl
theorem aU8 {a:World} (d:laidMetH Tryz.prog Rows.turnedRow.laid a):kQ a:=by
 have b:laidMet Tryz.prog Rows.turnedRow.laid a:=d;refine utf8Tabs_of_readsT (U8Types.of196 aL4) ⟨by kernel_rfl,by kernel_rfl,by kernel_rfl,by kernel_rfl,by kernel_rfl,by kernel_rfl,by kernel_rfl⟩ ?_ ?_
 ·rw [←Pinned.utf8First_eq];exact Lib.laidMet.reads b (by simp [Rows.turnedRow,Rows.laid_unicode_utf8_first])
 ·have c:(Rows.laid_unicode_utf8_acceptRanges:DataW Unit)=acceptData:=by kernel_rfl
  rw [←c];exact Lib.laidMet.reads b (by simp [Rows.turnedRow])
theorem contract (j:Type) (f:TypeId×Value→j) (a:World) (L:Nat) (d:Array Value) (p A:List (DataW j)) (M:List MemPlace)
  (u:∀(H:Nat) t i,Tryz.f3.params[H]?=some t→d[H]?=some i→Value.okWide Tryz.prog a .any L t i)
  (F:DataW.Whole f Tryz.prog Tryz.f3.params.toList Rows.turnedSpec.vars false a d.toList p A M)
  (a7:(DataW.weightsEach Tryz.prog (Tryz.f3.params.toList++Rows.turnedSpec.plain.varTypes Tryz.prog) (p++A)).all (·≤reachBytes)=true)
  (R:laidMetH Tryz.prog Rows.turnedRow.laid a) :
  Calls Tryz.prog 3 d a fun z b=>∃i,z=.returned i∧Rows.turnedSpec.post f Tryz.prog Tryz.f3 false true false false a d i b:=by
 have r:=F;obtain ⟨a0,a8,E,S,rfl,_,_⟩:=F;have D:DataW.TrodAll f Tryz.prog a 0 (fun _=>true) true Tryz.f3.params.toList d.toList p a0:=E;rw [Tryz.params3] at D u;obtain ⟨a1,a2,n,o,w,x,rfl,rfl,rfl,B,C⟩:=trodAll_two D;obtain ⟨rfl,rfl⟩:=trodVars_none S;obtain ⟨k,I,m,rfl⟩:=okWide_slice Tryz.underlying22 (u 0 22 a1 rfl rfl);obtain ⟨v,rfl⟩:=okWide_int Tryz.underlying3 (u 1 3 a2 rfl rfl);have P:=B;have Q:=C;obtain ⟨a5,X⟩:=B;obtain ⟨a6,Y⟩:=C;clear E;simp only [List.append_nil] at r;have G:∀c∈w++x,c.block < a.heap.size:=fun c g=>by simpa using r.lt c g
 have T:∀(b:World),aB a b→DataW.Trod f Tryz.prog b 0 (fun l=>decide (l < a.heap.size)) true 22 (.slice k I m) n w:=
  fun b s=>Below.trod aIf (by kernel_rfl) (of_decide_eq_true (by kernel_rfl)) P s (fun c g=>G c (by simp [g]))
 have U:∀(b:World),aB a b→DataW.Trod f Tryz.prog b 0 (fun l=>decide (l < a.heap.size)) true 3 (.int .i64 v) o x:=
  fun b s=>Below.trod aIf (by kernel_rfl) (of_decide_eq_true (by kernel_rfl)) Q s (fun c g=>G c (by simp [g]))
 obtain ⟨J,y,N,V,Z⟩:=aXp X;obtain ⟨rfl,rfl,rfl⟩ : k=J∧I=y.length∧m=N:=by simpa [Value.cells] using V
 obtain ⟨a4,e,_,a3⟩:=DataW.trod_int Tryz.underlying3 Y;obtain rfl:v=a4:=by simpa [Value.cells] using e
 refine (aU7 k m y v (aAk a3) a Z (aU8 R)).mono fun z b ⟨W,q⟩=>?_
 subst W;have e:Rows.turnedSpec.fn j ([n,o]++[]) = {results:=[.lit (.bool true)],args:=[n,o]}:=rfl;refine ⟨_,rfl,_,_,_,[],w++x,[],r,?_,?_,by rw [e];rfl,q.frame _,fun O=>by cases O⟩
 ·rw [e];exact trodAll_mk1 (shut_bool Tryz.underlying4 _)
 ·rw [e];exact trodAll_mk2 (T _ q) (U _ q)
noncomputable def aAe (b:Os):World:=
 let w0:=World.holding Tryz.prog b ⟨#[],#[],[]⟩;let put (h:Array Obj) (g:Nat) (cs:Array Value):Array Obj:=h.modify g fun
  | .cells _ t frozen=>.cells cs t frozen
  | o=>o
 let h1:=put w0.heap 1 (Lib.firstTab.map fun c=>Value.int .u8 c).toArray;let h2:=put h1 2 ((List.range 16).flatMap fun a=>[Value.int .u8 (Lib.accLo a),Value.int .u8 (Lib.accHi a)]).toArray;{w0 with heap:=h2}
theorem aU9 (b:Os) (a:Array Value):laidMet Tryz.prog Rows.turnedRow.laid ((aAe b).forCall (fun _ _=>0) ⟨#[],a,[]⟩).memory:=
 (LaidIn.of_run (l := [("unicode/utf8.acceptRanges", Rows.laid_unicode_utf8_acceptRanges), ("unicode/utf8.first", Rows.laid_unicode_utf8_first)]) [2, 1] 8 (by kernel_rfl) (by kernel_rfl) (by kernel_rfl) (by kernel_rfl)).met
theorem aUa (a:Os) {e:Type} (b:TypeId×Value→e) :
  (OpenSpec.ofChange Rows.turnedSpec).preRow b Tryz.prog Tryz.f3 Rows.turnedRow.domain false Rows.turnedRow.laid ((aAe a).forCall (fun _ _=>0) ⟨#[],#[.slice none 0 0,.int .i64 0],[]⟩).memory #[.slice none 0 0,.int .i64 0]:=by
 have g:(DataW.whole b Tryz.prog ((aAe a).forCall (fun _ _=>0) ⟨#[],#[.slice none 0 0,.int .i64 0],[]⟩).memory Tryz.f3.params.toList Rows.turnedSpec.vars false #[Value.slice none 0 0,Value.int .i64 0].toList 8).map (fun d=>(d.1,d.2.1))=some ([.nil,.lit (.int .i64 0)],[]):=by kernel_rfl
 obtain ⟨⟨k,l,m⟩,i,c⟩:=Option.map_eq_some_iff.1 g;simp only [Prod.mk.injEq] at c;obtain ⟨rfl,rfl⟩:=c;exact OpenSpec.preRow_of_cond 8 i (by kernel_rfl) (fun j f=>by cases f) (by kernel_rfl) (aU9 a _)
theorem lifted (a:Os) (o:a.Started) (b:Type) (enc:TypeId×Value→b) (c:Stop.Interp) :
  ReturnsInHanded {} Tryz.checked a 3 .any ((OpenSpec.ofChange Rows.turnedSpec).preRow enc Tryz.prog Tryz.f3 Rows.turnedRow.domain false Rows.turnedRow.laid) (((OpenSpec.ofChange Rows.turnedSpec).at c).post enc Tryz.prog Tryz.f3 false true false false):=by
 refine returnsInHanded_of_row (C:=Tryz.checked) (s:=OpenSpec.ofChange Rows.turnedSpec) own o (by kernel_rfl) Tryz.func3
  (witness_row_atRef (enc:=enc) (C:=Tryz.checked) false (aAe a) #[.slice none 0 0,.int .i64 0] rfl (by kernel_rfl) (by kernel_rfl) (by kernel_rfl) (aUa a enc)) ?_
 intro d f e i j g m l _ _ n k _ _;exact contract b enc d f e i j g m l n k
theorem said:Rows.TurnedSaid:=
 OpenClaim.holds_of_cond 3 Tryz.f3 rfl rfl rfl rfl rfl rfl rfl ⟨rfl,rfl,rfl,rfl,rfl⟩ rfl rfl rfl rfl rfl (by kernel_rfl) Tryz.func3 (by kernel_rfl)
  (of_decide_eq_true (by kernel_rfl)) (by unfold Func.isWrapper;first | (rw [aI (by decide +kernel)];kernel_rfl) | (rw [aH (by decide +kernel)];exact ⟨rfl,rfl⟩))
  (fun d e b c _ a=>by rw [OpenClaim.pre_eq_preRow];exact lifted d e b c a)
theorem plain (b : FuncId) (c : Func) (f : Tryz.pinned.checked.prog.funcNamed "moot/mootkeep.Turned" = some b) (g : Tryz.pinned.checked.prog.funcs[b]? = some c) :
  false=Tryz.pinned.checked.prog.looks []∧∀(e:Nat) a,c.params[e]?=some a→Tryz.pinned.checked.prog.wantsStandIn a=false:=by
 obtain rfl : b = 3 := Option.some.inj ((show Tryz.prog.funcNamed "moot/mootkeep.Turned" = some 3 by kernel_rfl).symm.trans f) |>.symm
 obtain rfl:c=Tryz.f3:=(Option.some.inj (Tryz.func3.symm.trans g)).symm;refine ⟨by kernel_rfl,fun e a d=>?_⟩;rw [Tryz.params3] at d;obtain rfl | rfl:a=22∨a=3:=by simpa using Array.mem_of_getElem? d
 ·exact (show Tryz.prog.wantsStandIn 22=false by kernel_rfl)
 ·exact (show Tryz.prog.wantsStandIn 3=false by kernel_rfl)
theorem turned_card:Rows.TurnedCardSaid:=
 Claim7.holds_tied_plain_at .later [] _ _ _ _ said (fun _ a=>by cases a) (by kernel_rfl) (fun _ a=>by cases a) turned_row_tie rfl ⟨rfl,rfl⟩ (by kernel_rfl) rfl plain (by kernel_rfl)
#print axioms turned_card
end Go.Proofs.YtmelidkanelpbaaGreatDoor
