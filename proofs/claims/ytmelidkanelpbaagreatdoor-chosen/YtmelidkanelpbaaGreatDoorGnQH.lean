/- Solve of the text of any raw clauses of four atoms (forty at most, of four literals at most): Sat just if some choice of what is true makes each clause true, else Unsat with steps that are a refutation, never Out; and two known texts are solved, the one refuted, as they are: the tied card. Conditions: none but the row's own (the library's tables stand as the program lays them; each list and text is of at most 2^47 - 4096 bytes). -/
import Derived.Test.YtmelidkanelpbaaGreatDoorXSr9H
import Derived.Test.YtmelidkanelpbaaGreatDoorGnR2H
import Derived.Test.YtmelidkanelpbaaGreatDoorXCvGH
import Derived.Test.YtmelidkanelpbaaGreatDoorRPrimH
import Derived.Test.YtmelidkanelpbaaGreatDoorCards
import Derived.Test.YtmelidkanelpbaaGreatDoorTie
import Derived.ProofKit
import Derived.OpenShut
import Derived.Carry
import Derived.Deep.DeepHandedRow
import Derived.Deep.DeepWitnessRowRef
import Derived.Lib.LaidIn
import Derived.Lib.LaidU8T
import Derived.PinnedBridge
namespace Go.Proofs.YtmelidkanelpbaaGreatDoor
open Go.RowKit Go.Shelf Go.WideMaps
set_option maxRecDepth 100000
theorem aDe:aAn:=fun c d e a b=>by
 rw [yD] at a b ⊢;exact ⟨Nat.le_trans a.1 b.1,bE6 a.2 b.2⟩
theorem aJh (a:List Lt) (b:aS a=true):bC a a=true:=yD.2 ⟨Nat.le_refl _,aOr b⟩
theorem aTz {g:List (aK×Value)} {c:List Nat} (m:c.Pairwise (· < ·)) (i:rF g c):aDo g c:=fun p k=>by
 obtain ⟨b,d,rfl⟩:=List.getElem_of_mem k;refine ⟨fun f e=>i b d f (uK.2 (Or.inl e)),fun q l o f e=>?_⟩;obtain ⟨a,j,rfl⟩:=List.getElem_of_mem l;have n:a≤b:=by
  rcases Nat.lt_or_ge b a with h1 | h1
  ·have:=List.pairwise_iff_getElem.1 m b a d j h1;omega
  ·exact h1
 exact i b d f (uK.2 (Or.inr ⟨c[a],List.mem_take_iff_getElem.2 ⟨a,by omega,rfl⟩,e⟩))
def aAl (a:List (aK×Value)) (d:List Nat):Prop:=(∀b,b < a.length→∃c∈d,bC (aE a c) (aE a b)=true)∧∀b c,b < c→c < a.length→bC (aE a b) (aE a c)=false
theorem aAl.take {a:List (aK×Value)} {f:List Nat} {b:aK} {s:Value} (l:aAl a f) (p:∀k∈f,k < a.length) (n:aS b.c=true) (r:∀k∈f,bC (aE a k) b.c=false):aAl (a++[(b,s)]) (bY a f b.c):=by
 obtain ⟨i,m⟩:=l;refine ⟨fun j o=>?_,fun j k g q=>?_⟩
 ·by_cases c:j < a.length
  ·obtain ⟨k,d,e⟩:=i j c;rw [lD c];cases hb:bC b.c (aE a k) with
   | false=>exact ⟨k,oN.2 (Or.inl ⟨d,hb⟩),by rw [lD (p k d)];exact e⟩
   | true=>exact ⟨a.length,oN.2 (Or.inr rfl),by rw [uL];exact aDe _ _ _ hb e⟩
  ·obtain rfl:j=a.length:=by simp at o;omega
   exact ⟨a.length,oN.2 (Or.inr rfl),by rw [uL];exact aJh _ n⟩
 ·by_cases c:k < a.length
  ·rw [lD c,lD (show j < a.length by omega)];exact m j k g c
  ·obtain rfl:k=a.length:=by simp at q;omega
   rw [uL,lD g];cases hb:bC (aE a j) b.c with
   | false=>rfl
   | true=>
    obtain ⟨k,d,e⟩:=i j g;have:=aDe _ _ _ e hb;rw [r k d] at this;cases this
theorem aU0 {n:List (List Nd)} (d:oO n) {a:List Lt} (l:aS a=true) (c:fQ n a) {v w:Int} {y:List Lt} (s:uQ a v w y true 0):False:=by
 rcases s with ⟨b,_⟩ | ⟨_,⟨_,_,_,b⟩ | ⟨i,f,⟨j,k,_,_,C,t⟩,b⟩⟩
 ·rw [l] at b;cases b
 ·cases b
 ·obtain ⟨A,_⟩:=aDm l c f;have u:=aD7 (σ:=fun B=>(⟨#[]⟩,B)) (qP d c j) (qP d c k) (fun z r=>(d _ (A z r)).1) b;obtain ⟨D,_,o,_⟩:=u;have g:∀e (m:e < a.length),(a.getD e default).2=a[e].2∧nN a[e].2:=fun e m=>by
   rw [List.getD_eq_getElem?_getD,List.getElem?_eq_getElem m];exact ⟨rfl,(d _ (c _ (List.getElem_mem m))).2.1⟩
  rw [(g i j).1,(g f k).1,aAo (g i j).2,aAo (g f k).2] at o;have q:=aJs l fun x p=>(d _ (c x p)).2.1
  have:=(List.getElem_inj q).1 (Prod.ext t o:a[i]=a[f]);omega
def aJi (g:Nd→Prop) (P:List (List Lt)) (f:Nat) (a:List (aK×Value)) (_:List Nat) (_:Bool):Prop:=
 (f=2→∃e,∀b∈P,kJ g e b)∧(f=1→(¬∃e,∀b∈P,kJ g e b)∧∃d,∃i:a.length=d+1,(∀c (i:c < a.length),qK P a c a[c].1)∧a[d].1.c=[]∧d≤100)∧f≠3
theorem aJj {i:List (List Nd)} (o:oO i) {j:List (List Lt)} {a:List (aK×Value)} {n:Nat} {g:aK} (e:lT j a n g) (l:aS g.c=true) (d:∀f,f < n→aS (aE a f)=true∧fQ i (aE a f)):qK j a n g:=by
 refine ⟨l,aDj l,?_⟩;rcases e with e | ⟨b,c,k,m⟩ | ⟨_,_,b,c⟩
 ·exact Or.inl e
 ·exact Or.inr ⟨b,c,k,(d _ c).1,(d _ k).1,m⟩
 ·exact (aU0 o (d _ b).1 (d _ b).2 c).elim
theorem qK.snoc {c:List (List Lt)} {b:List (aK×Value)} {n:Nat} {d:aK} (a:qK c b n d) (p:aK×Value) (l:n≤b.length):qK c (b++[p]) n d:=by
 obtain ⟨e,f,a⟩:=a;refine ⟨e,f,?_⟩;rcases a with a | ⟨g,i,j,k⟩
 ·exact Or.inl a
 ·refine Or.inr ⟨g,i,j,?_⟩;rw [lD (by omega),lD (by omega)];exact k
theorem aU1 {t:Nd→Prop} {w x y z:List Nd} (r:oO [w,x,y,z]) {i:List (List Lt)} (S:∀j∈i,aS j=true) (E:∀j∈i,cX t j) (T:∀j∈i,fQ [w,x,y,z] j) (W:i.length≤40) (A:List (List Nd)) (I:∀j,cX t j→∀P:Int→Nd,(∀a7,eT t (P a7))→∀a3∈j,bD P a3.2∈A) {a4:Nd} (Z:eT t a4) {e:List Cd} {g:Nat} (R:bI (gL i) [] 0 false e g false):cM 100 (aJi t i) e g [] [] false:=by
 have n:∀{e:List Cd} {g:Nat} {b:List (aK×Value)} {k:List Nat} {l:Bool},gY i e g b k l→∀d,d < b.length→aS (aE b d)=true:=fun a d c=>by
  rw [jS c];exact a.ok.t _ (List.getElem_mem c)
 have s:∀{e:List Cd} {g:Nat} {b:List (aK×Value)} {k:List Nat} {l:Bool},gY i e g b k l→∀d,d < b.length→fQ [w,x,y,z] (aE b d):=fun a=>aV5 r (by simp) T a.step (n a)
 refine aUu (P:=i) (J:=aAl) (fun e g b k l N a5 a u G a0=>u.take a.ok.k G a0) (fun j a8=>zJ) aDe aJh (by omega) ?sat ?big ?unsat ?out 100 e g [] [] false (gY.start S W R) ⟨fun a2 u=>by simp at u,fun a2 d _ c=>by simp at c⟩ (by simp);case sat=>exact fun e g b k a _ _ v=>⟨fun _=>a.sat E v (fun m=>by cases m) A I,fun m=>by omega,by omega⟩
 case big=>
  intro e g b k a _ _ v;have V:rF b k:=fun q o O p=>by
   have c:=a.ok.k _ (List.getElem_mem o);rcases uK.1 p with p | ⟨l,F,p⟩
   ·obtain ⟨B,C⟩:=aV3 r (by simp) (n a _ c) (s a _ c) p;exact ⟨B,Or.inl C⟩
   ·have L:=a.ok.k _ (List.mem_of_mem_take F);obtain ⟨B,C⟩:=aV4 r (by simp) (n a _ c) (n a _ L) (s a _ c) (s a _ L) p;exact ⟨B,Or.inl C⟩
  exact cM.big (fun a6 a1 d c=>zJ (a.clause c) (a.ok.l a6 a1)) v (fun q o O p=>(aDb (a.clause (List.getElem_mem o)) (fun l F=>a.clause (List.mem_of_mem_take F)) O p).1) (fun G=>⟨fun _=>a.sat E v (fun _=>aTz a.srt G) A I,fun m=>by omega,by omega⟩) (fun X=>absurd V X)
 case unsat=>
  intro e g b k l N a5 a _ H M D;refine ⟨fun m=>by omega,fun _=>⟨a.unsat E M D Z,b.length,by simp,fun d c=>?_,by simpa using D,H⟩,by omega⟩;have Y:aS N.c=true:=by rw [D];kernel_rfl
  by_cases m:d < b.length
  ·rw [List.getElem_append_left m];refine qK.snoc (aJj r (a.step d m) (a.ok.t _ (List.getElem_mem m)) fun q o=>⟨n a q (by omega),s a q (by omega)⟩) _ (by omega)
  ·obtain rfl:d=b.length:=by simp at c;omega
   simp only [List.getElem_concat_length];exact qK.snoc (aJj r M Y fun q o=>⟨n a q o,s a q o⟩) _ (Nat.le_refl _)
 case out=>
  intro e g b k l a u H _;have:=aVb (n:=b.length) (f:=aE b) (fun Q U=>(r Q U).2.1) (fun d c=>⟨n a d c,by rw [jS c];exact (a.good d c).2.1,s a d c⟩) u.2;omega
theorem aJk (f:ByteArray) (d:List (List Lt)) (j g e b:Nat) (a:List (aK×Value)) (c:World) (B:f.size≤140737488355328) (s:∀t w l,oL f t w l→t=d∧l=0) (m:∀x∈d,aS x=true) (y:a.length=b+1) (o:gS j c (.slice (some ⟨g,0,none⟩) a.length e) a) (p:kN c) (n:∀i (D:i < a.length),qK d a i a[i].1) (r:a[b].1.c=[]) (z:b≤1000) (A:a.length≤e) :
  Calls Tryz.prog 13 #[.string f,.slice (some ⟨g,0,none⟩) (b+1) e] c fun k C=>k=.returned (.bool true)∧aB c C:=by
 have u:=aA (bF5 f d j g e b a c B s m y o p n r z A);clear s m o p n r;go_enter Tryz.func13,Tryz.ntmps13;go_wp2_with (first
  | (go_at_call 17;refine (aD u).mono ?_;rintro k E ⟨rfl,q⟩;have v:=aA q;clear q)
  | go_in)
 go_ret;exact ⟨rfl,v.o⟩
theorem aJl:rI qN:=⟨by kernel_rfl,by kernel_rfl⟩
theorem aU2:jX kX cP 0 0 cQ true 0:=
 Or.inr ⟨by kernel_rfl,by kernel_rfl,Or.inr ⟨0,0,⟨by decide,by decide,rfl,rfl,by decide⟩,by
  have a:=aA1 bCy 0 1 [((0:Int),(false,[qN]))] (by intro c b;simp at b;subst b;exact ⟨qN,rfl,aJl⟩) (Nat.le_of_ble_eq_true (by kernel_rfl));rw [show aV ([((0:Int),((false,[qN]):Lt))].map Prod.snd)=cQ by kernel_rfl] at a;exact a⟩⟩
theorem aU3:jX cQ pD 0 0 [] true 0:=
 Or.inr ⟨by kernel_rfl,by kernel_rfl,Or.inr ⟨0,0,⟨by decide,by decide,rfl,rfl,by decide⟩,aA1 aJl 0 1 [] (by simp) (Nat.le_of_ble_eq_true (by kernel_rfl))⟩⟩
theorem aU4 {b:List (aK×Value)} (e:b.map Prod.fst=[lN,pE,jT,qG,qH]):∀k (d:k < b.length),qK [cP,kX,pD] b k b[k].1:=by
 have g:b.length=5:=by have:=congrArg List.length e;simpa using this
 have c:∀k,aE b k=([lN,pE,jT,qG,qH].map aK.c).getD k []:=fun k=>by
  rw [zM,←e,List.map_map];rfl
 have f:∀k (d:k < b.length),some b[k].1=[lN,pE,jT,qG,qH][k]?:=fun k d=>by
  rw [←e,List.getElem?_map,List.getElem?_eq_getElem d];rfl
 intro k d;have a:=f k d;match k,d with
 | 0,_=>
  obtain a:b[0].1=lN:=by simpa using a
  rw [a];exact ⟨by kernel_rfl,by kernel_rfl,Or.inl ⟨rfl,rfl,rfl,rfl,rfl⟩⟩
 | 1,_=>
  obtain a:b[1].1=pE:=by simpa using a
  rw [a];exact ⟨by kernel_rfl,by kernel_rfl,Or.inl ⟨rfl,rfl,rfl,rfl,rfl⟩⟩
 | 2,_=>
  obtain a:b[2].1=jT:=by simpa using a
  rw [a];exact ⟨by kernel_rfl,by kernel_rfl,Or.inl ⟨rfl,rfl,rfl,rfl,rfl⟩⟩
 | 3,_=>
  obtain a:b[3].1=qG:=by simpa using a
  rw [a];refine ⟨by kernel_rfl,by kernel_rfl,Or.inr ⟨rfl,by decide,by decide,?_,?_,?_⟩⟩
  ·rw [c];kernel_rfl
  ·rw [c];kernel_rfl
  ·rw [c,c];exact aU2
 | 4,_=>
  obtain a:b[4].1=qH:=by simpa using a
  rw [a];refine ⟨by kernel_rfl,by kernel_rfl,Or.inr ⟨rfl,by decide,by decide,?_,?_,?_⟩⟩
  ·rw [c];kernel_rfl
  ·rw [c];kernel_rfl
  ·rw [c,c];exact aU3
 | k+5,d=>omega
theorem aU5 (g:World):Calls Tryz.prog 9 #[.string aBy,.int .i64 100] g fun c m=>∃d b l a,c=.returned (.tuple #[.agg #[.int .i64 1,.slice (some ⟨d,0,none⟩) (4+1) b,.slice none 0 0,.int .i64 (l:Nat),.bool false],.int .i64 0])∧a.map Prod.fst=[lN,pE,jT,qG,qH]∧a.length≤b∧gS g.heap.size m (.slice (some ⟨d,0,none⟩) a.length b) a∧aB g m:=by
 refine (aGn _ 100 (fun _=>zP) g (by decide) (fun x p i=>?_)).mono ?_
 ·obtain ⟨rfl,_,_⟩:=aBz i;refine ⟨fun A n=>?_,by simp,fun w o _ _ y G f=>?_⟩
  ·simp at n;rcases n with rfl | rfl | rfl <;> kernel_rfl
  ·obtain rfl:w=100:=by omega
   exact bD6 f
 ·rintro c m ⟨x,p,D,v,s,i⟩;obtain ⟨rfl,rfl,rfl⟩:=aBz v;rcases i with ⟨j,_⟩ | ⟨_,j,_⟩ | ⟨_,_,_,H,J,I,l,z,a,F,rfl,e,r⟩
  ·exact absurd rfl j
  ·exact absurd ⟨by decide,by decide⟩ j
  ·obtain ⟨⟨rfl,f,rfl⟩,_⟩:=r;have o:a.length=4+1:=by have:=congrArg List.length f;simpa using this
   obtain ⟨d,b,_,_,rfl,_⟩:=e.st.cell (k:=0) (by omega);have t:a.length≤b:=by
    obtain ⟨_,⟨c,_⟩ | ⟨E,B,C,c,_,_,u,_⟩⟩:=e.st.row
    ·cases c
    ·simp at c u;omega
   rcases e.kp with ⟨q,_⟩ | ⟨_,rfl⟩
   ·cases q
   ·exact ⟨d,b,l,a,by rw [←o];rfl,f,t,e.st,s⟩
theorem aU6 (i:World):Calls Tryz.prog 9 #[.string aG5,.int .i64 100] i fun j n=>∃b w c f t g a,j=.returned (.tuple #[.agg #[.int .i64 2,.slice b w c,.slice f t g,.int .i64 (a:Nat),.bool false],.int .i64 0])∧aB i n:=by
 refine (aGn _ 100 (fun _=>aC0) i (by decide) (fun v o d=>?_)).mono ?_
 ·obtain ⟨rfl,_,_⟩:=aO0 d;refine ⟨fun A m=>?_,by simp,fun u C _ _ x E q=>?_⟩
  ·simp at m;rcases m with rfl | rfl <;> kernel_rfl
  ·obtain rfl:u=100:=by omega
   exact bD7 q
 ·rintro j n ⟨v,o,B,s,l,d⟩;obtain ⟨rfl,rfl,rfl⟩:=aO0 s;rcases d with ⟨e,_⟩ | ⟨_,e,_⟩ | ⟨_,_,_,F,H,G,a,z,y,D,rfl,k,p⟩
  ·exact absurd rfl e
  ·exact absurd ⟨by decide,by decide⟩ e
  ·obtain ⟨⟨rfl,rfl⟩,_⟩:=p;obtain ⟨b,c,rfl⟩:=bA k.st.row;rcases k.kp with ⟨_,r⟩ | ⟨_,rfl⟩
   ·obtain ⟨f,g,rfl⟩:=bA r;exact ⟨b,_,c,f,_,g,a,rfl,l⟩
   ·exact ⟨b,_,c,none,0,0,a,rfl,l⟩
def mP:Nd:=(⟨#[112]⟩,0)
def mQ:Nd:=(⟨#[113]⟩,0)
def mR:Nd:=(⟨#[114]⟩,1)
def mA:Nd:=(⟨#[97]⟩,0)
def mB:Nd:=(⟨#[66,32,98]⟩,0)
def D4 (a:Nd):Prop:=a=mP∨a=mQ∨a=mR∨a=mA∨a=mB
theorem vP:aL mP=false∧aY mP=0:=⟨by kernel_rfl,by kernel_rfl⟩
theorem vQ:aL mQ=false∧aY mQ=0:=⟨by kernel_rfl,by kernel_rfl⟩
theorem vR:aL mR=false∧aY mR=1:=⟨by kernel_rfl,by kernel_rfl⟩
theorem vA:aL mA=false∧aY mA=0:=⟨by kernel_rfl,by kernel_rfl⟩
theorem vB:aL mB=false∧aY mB=0:=⟨by kernel_rfl,by kernel_rfl⟩
def cL:Nat→List Nd
 | 0=>[mP]
 | 1=>[mQ]
 | 2=>[mR,mA]
 | _=>[mR,mB]
theorem aU7 {a:Nd} (c:eT D4 a):a=mP∨a=mQ∨a=mA∨a=mB:=by
 obtain ⟨h1 | h1 | h1 | h1 | h1,_,b⟩:=c
 ·exact Or.inl h1
 ·exact Or.inr (Or.inl h1)
 ·rw [h1,vR.2] at b;cases b
 ·exact Or.inr (Or.inr (Or.inl h1))
 ·exact Or.inr (Or.inr (Or.inr h1))
theorem aDf:eT D4 mA:=⟨Or.inr (Or.inr (Or.inr (Or.inl rfl))),vA.1,vA.2⟩
def uM:List (List Nd):=[[mP],[mQ],[mA],[mB],[mR,mP],[mR,mQ],[mR,mA],[mR,mB]]
theorem aU8 (i:List Lt) (m:cX D4 i) (g:Int→Nd) (p:∀q,eT D4 (g q)):∀f∈i,bD g f.2∈uM:=fun f n=>by
 obtain ⟨h,c,e,j,k,a,l⟩:=m f n;have d:∀b∈c,eT D4 (if aL b=true then g b.2 else b):=fun b o=>by
  rcases l b o with h | h
  ·rw [aH h];exact p _
  ·rw [aI (by rw [h.2.1];simp)];exact h
 rw [e];unfold bD;rw [List.map_cons,aI (by rw [j];simp)];rcases k with rfl | rfl | rfl | rfl | rfl
 ·rw [vP.2] at a;match c,a with
  | [],_=>simp [uM]
 ·rw [vQ.2] at a;match c,a with
  | [],_=>simp [uM]
 ·rw [vR.2] at a;match c,a,d with
  | [b],_,d=>
   rw [List.map_cons,List.map_nil];rcases aU7 (d b (by simp)) with e | e | e | e <;> rw [e] <;> simp [uM]
 ·rw [vA.2] at a;match c,a with
  | [],_=>simp [uM]
 ·rw [vB.2] at a;match c,a with
  | [],_=>simp [uM]
theorem aDg:oO [cL 0,cL 1,cL 2,cL 3]:=fun d c=>by
 simp only [List.mem_cons,List.not_mem_nil,or_false] at c;rcases c with rfl | rfl | rfl | rfl
 ·exact ⟨⟨mP,[],rfl,vP.1,vP.2,fun b a=>by simp at a⟩,fun b a=>by simp [cL] at a;subst a;exact vP.1,by simp [cL]⟩
 ·exact ⟨⟨mQ,[],rfl,vQ.1,vQ.2,fun b a=>by simp at a⟩,fun b a=>by simp [cL] at a;subst a;exact vQ.1,by simp [cL]⟩
 ·exact ⟨⟨mR,[mA],rfl,vR.1,vR.2,fun b a=>by simp at a;subst a;exact vA.2⟩,fun b a=>by simp [cL] at a;rcases a with rfl | rfl;exact vR.1;exact vA.1,by simp [cL]⟩
 ·exact ⟨⟨mR,[mB],rfl,vR.1,vR.2,fun b a=>by simp at a;subst a;exact vB.2⟩,fun b a=>by simp [cL] at a;rcases a with rfl | rfl;exact vR.1;exact vB.1,by simp [cL]⟩
theorem aU9 (a:Bool):∀b,aB7 aEm (iD a b)=(a,cL b)
 | 0=>rfl
 | 1=>rfl
 | 2=>rfl
 | _+3=>rfl
theorem aDh:∀n,cL n∈[cL 0,cL 1,cL 2,cL 3]
 | 0=>by simp
 | 1=>by simp
 | 2=>by simp
 | n+3=>by rw [show cL (n+3)=cL 3 from rfl];simp
theorem aUa:∀c,fD D4 (cL c)
 | 0=>⟨mP,[],rfl,vP.1,Or.inl rfl,vP.2,fun b a=>by simp at a⟩
 | 1=>⟨mQ,[],rfl,vQ.1,Or.inr (Or.inl rfl),vQ.2,fun b a=>by simp at a⟩
 | 2=>⟨mR,[mA],rfl,vR.1,Or.inr (Or.inr (Or.inl rfl)),vR.2,fun b a=>by simp at a;subst a;exact Or.inr aDf⟩
 | _+3=>⟨mR,[mB],rfl,vR.1,Or.inr (Or.inr (Or.inl rfl)),vR.2,fun b a=>by simp at a;subst a;exact Or.inr ⟨Or.inr (Or.inr (Or.inr (Or.inr rfl))),vB.1,vB.2⟩⟩
theorem aUb (b:List Rl):nW b=aV (b.map fun a=>(a.1,cL (kQ a.2.1 4))):=by
 unfold nW qW;congr 1
 exact List.map_congr_left fun a _=>aU9 a.1 _
theorem aUc (c:List Rl):∀b∈c.map fun a=>((a.1,cL (kQ a.2.1 4)):Lt),nN b.2:=fun b d=>by
 obtain ⟨a,_,rfl⟩:=List.mem_map.1 d;exact (aDg _ (aDh _)).2.1
theorem aDi (b:List Rl) (d:Lt):d∈nW b↔∃a∈b,d=(a.1,cL (kQ a.2.1 4)):=by
 rw [aUb,←aJo (aUc b)];constructor
 ·intro f;obtain ⟨a,c,e⟩:=List.mem_map.1 ((jW _).2.2 d f);exact ⟨a,c,e.symm⟩
 ·rintro ⟨a,c,rfl⟩;exact aBu (List.mem_map.2 ⟨a,c,rfl⟩)
theorem aUd (a:List Rl):cX D4 (nW a)∧fQ [cL 0,cL 1,cL 2,cL 3] (nW a):=by
 constructor <;> intro c b <;> obtain ⟨d,_,rfl⟩:=(aDi a c).1 b
 ·exact aUa _
 ·exact aDh _
def tB (b:Nat) (a:Rl):Bool:=Nat.testBit b (kQ a.2.1 4) != a.1
def wA (b:Nat) (a:List Rl):Bool:=a.any (tB b)
def rN (a:Nat) (b:List (List Rl)):Bool:=b.all (wA a)
def rO (b:List (List Rl)) (c:Nat):Bool:=(List.range c).any fun a=>rN a b
theorem aJm {v:List Nd→Bool} {i:Nat} (l:∀f,f < 4→v (cL f)=Nat.testBit i f) (a:List Rl):kJ D4 v (nW a)↔wA i a=true:=by
 have j:∀(c:Nat) (d:Int→Nd),bD d (cL c)=cL c:=fun c d=>aAo (aDg _ (aDh c)).2.1 d
 unfold wA;rw [List.any_eq_true];constructor
 ·intro b;obtain ⟨n,m,k⟩:=b (fun _=>mA) (fun _=>aDf);obtain ⟨g,e,rfl⟩:=(aDi a n).1 m;refine ⟨g,e,?_⟩;rw [j,l _ (aB9 _ (by omega))] at k;unfold tB;simpa using k
 ·rintro ⟨g,e,b⟩ d _;refine ⟨_,(aDi a _).2 ⟨g,e,rfl⟩,?_⟩;rw [j,l _ (aB9 _ (by omega))];unfold tB at b;simpa using b
theorem aUe:∀b c d e:Bool,∃a,a < 16∧Nat.testBit a 0=b∧Nat.testBit a 1=c∧Nat.testBit a 2=d∧Nat.testBit a 3=e:=by intro b c d e;refine ⟨b.toNat+2 * c.toNat+4 * d.toNat+8 * e.toNat,?_⟩;revert b c d e;decide
theorem aUf:∀a,a < 4→∀b,b < 4→cL a=cL b→a=b:=by
 have j:mP≠mQ:=by unfold mP mQ;intro c;simp at c
 have i:mA≠mB:=by unfold mA mB;intro c;simp at c
 have g:∀a,a < 4→∀b,b < 4→a < b→cL a≠cL b:=by
  intro a d b e n c;have:(a=0∧b=1)∨(a=2∧b=3)∨(a < 2∧2≤b):=by omega
  rcases this with ⟨rfl,rfl⟩ | ⟨rfl,rfl⟩ | ⟨h1,m⟩
  ·simp only [cL,List.cons.injEq,and_true] at c;exact j c
  ·simp only [cL,List.cons.injEq,and_true,true_and] at c;exact i c
  ·have k:(cL a).length=1:=by
    obtain rfl | rfl:a=0∨a=1:=by omega
    all_goals rfl
   have l:(cL b).length=2:=by
    obtain rfl | rfl:b=2∨b=3:=by omega
    all_goals rfl
   rw [c,l] at k;omega
 intro a d b e f;rcases Nat.lt_trichotomy a b with h1 | h1 | h1
 ·exact absurd f (g a d b e h1)
 ·exact h1
 ·exact absurd f.symm (g b e a d h1)
theorem aUg (d:Nat):∃v:List Nd→Bool,∀a,a < 4→v (cL a)=Nat.testBit d a:=
 ⟨fun g=>(List.range 4).any fun c=>decide (cL c=g) && Nat.testBit d c,fun a e=>by
  rw [Bool.eq_iff_iff,List.any_eq_true];constructor
  ·rintro ⟨c,f,b⟩;rw [Bool.and_eq_true,decide_eq_true_eq] at b;rw [←aUf c (by simpa using f) a e b.1];exact b.2
  ·intro b;exact ⟨a,by simpa using e,by simp [b]⟩⟩
theorem aJn (g:List (List Rl)):rO g 16=true↔∃v,∀f∈g.map nW,kJ D4 v f:=by
 unfold rO rN;simp only [List.any_eq_true,List.all_eq_true,List.mem_range];constructor
 ·rintro ⟨c,_,d⟩;obtain ⟨v,o⟩:=aUg c;refine ⟨v,fun f n=>?_⟩;obtain ⟨a,e,rfl⟩:=List.mem_map.1 n;exact (aJm o a).2 (d a e)
 ·rintro ⟨v,d⟩;obtain ⟨c,m,i,j,k,l⟩:=aUe (v (cL 0)) (v (cL 1)) (v (cL 2)) (v (cL 3));refine ⟨c,m,fun a e=>(aJm (v:=v) (fun b p=>?_) a).1 (d _ (List.mem_map_of_mem e))⟩;obtain rfl | rfl | rfl | rfl:b=0∨b=1∨b=2∨b=3:=by omega
  ·exact i.symm
  ·exact j.symm
  ·exact k.symm
  ·exact l.symm
structure aUh (l:List (List Rl)) (B:Nat) (w':World) (vd:Nat) (xa:Option Addr) (xn xc:Nat):Prop where
 vd12:vd=1∨vd=2
 cls:∀c∈l.map nW,aS c=true
 sat:vd=2→rO l 16=true
 uns:vd=1→rO l 16=false∧∃n T gs,∃hN:T.length=n+1,xa=some ⟨gs,0,none⟩∧xn=n+1∧T.length≤xc∧gS B w' (.slice xa xn xc) T∧(∀k (h:k < T.length),qK (l.map nW) T k T[k].1)∧T[n].1.c=[]∧n≤100
theorem aUi (d:List (List Rl)) (r:d.length≤40) (b:∀c∈d,c.length≤4) (o:World) :
  Calls Tryz.prog 9 #[.string (gO d),.int .i64 100] o fun a t=>aB o t∧∃n A C B f l g s q,a=.returned (.tuple #[.agg #[.int .i64 (n:Nat),.slice A C B,.slice f l g,.int .i64 (s:Nat),.bool q],.int .i64 0])∧aUh d o.heap.size t n A C B:=by
 have a3:=yO d b;refine (aGn (gO d) 100 (fun m=>aJi D4 m) o (by omega) fun m D j=>?_).mono ?_
 ·obtain ⟨a,_⟩:=aEp j r b;have x:=aH3 j;refine ⟨x,by rw [a];simp;omega,fun S v _ _ Z y L=>?_⟩;obtain rfl:S=100:=by omega
  have e:∀c∈m,cX D4 c∧fQ [cL 0,cL 1,cL 2,cL 3] c:=fun c b=>by
   rw [a] at b;obtain ⟨Y,_,rfl⟩:=List.mem_map.1 b;exact aUd Y
  exact aU1 aDg x (fun c b=>(e c b).1) (fun c b=>(e c b).2) (by rw [a];simpa using r) uM aU8 aDf L
 ·rintro a t ⟨m,D,a1,j,M,h⟩;obtain ⟨rfl,rfl⟩:=aEp j r b;rcases h with ⟨h,_⟩ | ⟨_,h,_⟩ | ⟨_,_,_,n,a5,X,s,q,p,a4,rfl,i,Q,R⟩
  ·exact absurd rfl h
  ·omega
  ·obtain ⟨W,z,rfl⟩:=bA i.st.row;obtain ⟨f,l,g,rfl⟩ : ∃f l g,X=.slice f l g:=by
    rcases i.kp with ⟨_,e⟩ | ⟨_,e⟩
    ·obtain ⟨f,g,rfl⟩:=bA e;exact ⟨_,_,_,rfl⟩
    ·exact ⟨_,_,_,e⟩
   obtain ⟨U,T,V⟩:=Q;refine ⟨M,n,W,p.length,z,f,l,g,s,q,rfl,?_,aH3 j,fun I=>(aJn d).2 (U I),fun v=>?_⟩
   ·rcases R with ⟨h,_⟩ | h | h
    ·exact Or.inl h
    ·exact Or.inr h
    ·exact absurd h V
   ·obtain ⟨P,y,w,J,G,H⟩:=T v;refine ⟨?_,y,p,?_⟩
    ·rw [←Bool.not_eq_true];exact fun h=>P ((aJn d).1 h)
    ·obtain ⟨F,E,_,_,u,_⟩:=i.st.cell (k:=0) (by omega);have N:p.length≤z:=by
      obtain ⟨_,⟨a,_⟩ | ⟨a2,E,a0,a,_,_,O,_⟩⟩:=i.st.row
      ·simp at a;omega
      ·simp at a O;omega
     simp at u;exact ⟨F,w,u.1,w,N,i.st,J,G,H⟩
set_option maxHeartbeats 4000000 in
theorem aUj (c:World) (z:kN c):Calls Tryz.prog 6 #[] c fun m b5=>m=.returned (.bool true)∧aB c b5:=by
 have u:=aA (aU5 c);have v:=aA (fun (b6:World)=>aU6 b6);have a3:=aA z;clear z;go_enter Tryz.func6,Tryz.ntmps6;go_upto_region 2 with (first
  | (go_at_call 9;refine (aD u).mono ?_;rintro m b ⟨i,g,O,f,rfl,B,D,F,q⟩;have p:=aA F;have l:=aA B;have Y:=aA q;have a7:=q.size;clear F B q)
  | go_in)
 obtain ⟨d,H,r,t⟩ : ∃d,b.alloc (.cells #[.int .i64 1,.slice (some ⟨i,0,none⟩) 5 g,.slice none 0 0,.int .i64 (O:Nat),.bool false] 30)=d∧aB b d∧d.heap[b.heap.size]?=some (.cells #[.int .i64 1,.slice (some ⟨i,0,none⟩) 5 g,.slice none 0 0,.int .i64 (O:Nat),.bool false] 30 (0,0)):=⟨_,rfl,(Below.refl _ b).alloc (Nat.le_refl _) _,World.alloc_heap_new b _⟩;rw [H];have T:d.cell? ⟨b.heap.size,0,none⟩=some (.int .i64 1):=by simp [World.cell?,t]
 have U:d.cell? ⟨b.heap.size,1,none⟩=some (.slice (some ⟨i,0,none⟩) 5 g):=by simp [World.cell?,t]
 have Z:=aA (Y.o.trans (r.mono a7));have w:=aA r;clear H t r u;go_upto_region 3 with (first
  | (go_at_call 9;refine (aD v _).mono ?_;rintro m e ⟨Q,S,R,L,N,M,P,rfl,j⟩;have V:=aC j T;have W:=aC j U;have a0:=aA (bK Z.o j);have x:=aA (w.o.trans (j.mono w.o.size));clear j)
  | go_in)
 obtain ⟨a,I,k,J⟩ : ∃a,e.alloc (.cells #[.int .i64 2,.slice Q S R,.slice L N M,.int .i64 (P:Nat),.bool false] 30)=a∧aB e a∧a.heap[e.heap.size]?=some (.cells #[.int .i64 2,.slice Q S R,.slice L N M,.int .i64 (P:Nat),.bool false] 30 (0,0)):=⟨_,rfl,(Below.refl _ e).alloc (Nat.le_refl _) _,World.alloc_heap_new e _⟩;rw [I];have b7:=aC k V;have c6:=aC k W;have b8:a.cell? ⟨e.heap.size,0,none⟩=some (.int .i64 2):=by simp [World.cell?,J]
 have s:aB c a:=bK a0.o k;have n:aB b a:=x.o.trans (k.mono x.o.size);have E:f.length=4+1:=by have:=congrArg List.length l.o;simpa using this
 have A:f[4].1=qH:=by have:=congrArg (fun a8=>a8[4]?) l.o;simp only [List.getElem?_map] at this;rw [List.getElem?_eq_getElem (by omega)] at this;simpa using this
 have G:gS c.heap.size a (.slice (some ⟨i,0,none⟩) f.length g) f:=⟨bG p.o.row n (Nat.le_refl _),fun a9 a5=>by
  obtain ⟨a4,b1,b2,b3,b4⟩:=p.o.cl a9 a5;exact ⟨a4,b1,bG b2 n (Nat.le_refl _),fun b0 a6=>bG (b3 b0 a6) n (Nat.le_refl _),b4⟩⟩
 have X:=aA (aJk aBy [cP,kX,pD] c.heap.size i g 4 f a (by decide) (fun c2 b9 c1 y=>⟨(aBz y).1,(aBz y).2.2⟩) (by intro c0 C;simp at C;rcases C with rfl | rfl | rfl <;> kernel_rfl) E G (a3.o.below s (Nat.le_refl _)) (aU4 l.o) (by rw [A];rfl) (by omega) D);have a1:=aA s;clear I J k s n G A E D v T U V W p l;go_wp2_with (first
  | (go_at_call 13;refine (aD X).mono ?_;rintro m c5 ⟨rfl,o⟩;have c3:=aC o b7;have c4:=aC o b8;have a2:=aA (bK a1.o o);clear o)
  | go_in)
 go_ret;exact ⟨rfl,a2.o⟩
theorem aUk:((List.range 16).all fun a=>(List.range 4).all fun b=>(bits BinOp.and IntKind.i64 ((a:Int) / 2 ^ b) 1 == 1) == Nat.testBit a b)=true:=by kernel_rfl
theorem aUl {a b:Nat} (c:a < 16) (d:b < 4):(bits BinOp.and IntKind.i64 ((a:Int) / 2 ^ b) 1 == 1)=Nat.testBit a b:=by have:=aUk;rw [List.all_eq_true] at this;have:=this a (by simpa using c);rw [List.all_eq_true] at this;exact eq_of_beq (this b (by simpa using d))
theorem aUm {c:Type} (f:c→Bool) (b:List c) (a:Nat) (d:a < b.length):(b.take (a+1)).any f=((b.take a).any f || f b[a]):=by rw [List.take_succ_eq_append_getElem d,List.any_append];simp
theorem aUn (a:List (List Rl)) (b:Nat):rO a (b+1)=(rO a b || rN b a):=by unfold rO;rw [List.range_succ,List.any_append];simp
theorem aUo (b:List Kr) (a:Nat):(∀c∈(b.take a).map jD,c.2.2.length≤4)∧((b.take a).map jD).length≤a:=by refine ⟨fun c d=>?_,by rw [List.length_map,List.length_take];omega⟩;obtain ⟨e,_,rfl⟩:=List.mem_map.1 d;show (e.2.2.take 4).length≤4;rw [List.length_take];omega
set_option maxHeartbeats 8000000 in
theorem aUp (F:Option Addr) (c1:Nat) (s:List Kr) (q:World) (c8:wW q F s) (J:kN q) :
  Calls Tryz.prog 5 #[.slice F s.length c1] q fun o i5=>o=.returned (.bool true)∧aB q i5:=by
 have a6:=aA (aUj q J);have a8:=aA (fun (g:World) (k:aB q g)=>aZe F c1 s 40 (by omega) g (c8.below k));have g2:=aA (fun (g:World) (k:aB q g)=>J.below k (Nat.le_refl _));obtain ⟨y,L⟩:=aUo s 40;have B:=aA (fun (g:World) (n:List Kr) (b9:Option Addr) (g4:Nat) (k:aEq g b9 (n.map fun a=>(oX a,a.2.2))) (Q:n.length≤40) (I:∀a∈n,a.2.2.length≤4)=>aZa b9 g4 (n.map fun a=>(oX a,a.2.2)) g k (by simpa using Q) (fun a1 V=>by obtain ⟨a,w,rfl⟩:=List.mem_map.1 V;exact I a w));have a9:=aA (fun (g:World) (n:List Kr) (Q:n.length≤40) (I:∀a∈n,a.2.2.length≤4)=>aUi (n.map fun a=>a.2.2) (by simpa using Q) (fun a1 V=>by obtain ⟨a,w,rfl⟩:=List.mem_map.1 V;exact I a w) g);simp only [List.map_map,Function.comp_def,List.length_map] at B;generalize (s.take 40).map jD=Y at *;clear c8 J;go_enter Tryz.func5,Tryz.ntmps5;go_upto_region 2 with (first
  | (go_at_call 6;refine (aD a6).mono ?_;rintro o i6 ⟨rfl,c9⟩;have b1:=aA c9;clear c9)
  | go_in)
 go_upto_region 3 with (first
  | (go_at_call 7;refine (aD a8 i6 b1.o).mono ?_;rintro o e9 ⟨k6,rfl,d6,d0⟩;have b3:=aA d6;have f3:=aA (bK b1.o d0);clear d6 d0)
  | go_in)
 obtain ⟨i8,i9,rfl,d9,d5⟩:=b3.o.cell;have a7:=aA (aD B e9 Y i8 i9 d9 L y);have b0:=aA (fun g=>aD a9 g Y L y);have f8:=aA d5;clear d9 d5 a6 a8 B a9;go_upto_region 5 with (first
  | (go_at_call 12;refine (aD a7).mono ?_;rintro o f0 ⟨rfl,d1⟩;have f4:=aA d1;clear d1)
  | (go_at_call 9;refine (aD b0 _).mono ?_;rintro o r ⟨p,a0,a4,a5,x,e3,e5,e4,e8,c0,rfl,e0⟩;have E:=aA e0;have f5:=aA (bK f4.o p);clear p e0)
  | go_in)
 obtain ⟨m,e2,M,W⟩ : ∃m,r.alloc (.cells #[.int .i64 a0,.slice a4 a5 x,.slice e3 e5 e4,.int .i64 e8,.bool c0] 30)=m∧aB r m∧m.heap[r.heap.size]?=some (.cells #[.int .i64 a0,.slice a4 a5 x,.slice e3 e5 e4,.int .i64 e8,.bool c0] 30 (0,0)):=⟨_,rfl,(Below.refl _ r).alloc (Nat.le_refl _) _,World.alloc_heap_new r _⟩;rw [e2];have a2:m.cell? ⟨r.heap.size,0,none⟩=some (.int .i64 a0):=by simp [World.cell?,W]
 have a3:m.cell? ⟨r.heap.size,1,none⟩=some (.slice a4 a5 x):=by simp [World.cell?,W]
 have C:=aA (bK f5.o M);have f6:=aA M;clear e2 M W a7 b0;go_wp2;have g0:aM (∀c (k:c < Y.length),(Y.map fun a=>a.2.2).take (c+1)=(Y.map fun a=>a.2.2).take c++[Y[c].2.2]):=aA fun c k=>by rw [List.take_succ_eq_append_getElem (by simpa using k),List.getElem_map]
 have g1:aM ((Y.map fun a=>a.2.2).take Y.length=Y.map fun a=>a.2.2):=aA (by rw [←List.length_map (f:=fun a:Kr=>a.2.2),List.take_length]);have d2:=C.o.size;go_loopw [8,9] (fun G H wr=>∃b:Nat,G=.bool (rO (Y.map fun a=>a.2.2) b)∧H=.int .i64 b∧b≤16∧aB m wr) (fun _ H _=>16 - (intOf H).toNat);case atStart=>exact ⟨0,rfl,rfl,by omega,Below.refl _ _⟩
 case round=>
  obtain ⟨b,rfl,rfl,j6,d⟩:=hrel;by_cases h2:b < 16
  ·have k1:(b:Int) < 16:=by omega
   have f2:=aA d;clear d;have b5:=aA (aUn (Y.map fun a=>a.2.2) b);generalize rO (Y.map fun a=>a.2.2) b=an at *;go_wp2;go_loopw [10,11] (fun G X wr=>∃c:Nat,G=.bool (rN b ((Y.map fun a=>a.2.2).take c))∧X=.int .i64 c∧c≤Y.length∧aB m wr) (fun _ X _=>Y.length - (intOf X).toNat);case atStart=>exact ⟨0,rfl,rfl,by omega,f2.o⟩
   case round=>
    obtain ⟨c,rfl,rfl,j7,d⟩:=hrel;by_cases z:c < Y.length
    ·have j9:(c:Int) < (Y.length:Int):=by omega
     obtain ⟨j4,rfl,t⟩:=f8.o c z;have R:=b3.o.raw _ (List.getElem_mem z);have h0:=y _ (List.getElem_mem z);have D:aM (rN b ((Y.map fun a=>a.2.2).take (c+1))=(rN b ((Y.map fun a=>a.2.2).take c) && wA b Y[c].2.2)):=aA (by rw [g0.o c z];unfold rN;rw [List.all_append];simp);generalize rN b ((Y.map fun a=>a.2.2).take c)=al at *;generalize Y[c]=a at *;obtain ⟨k4,k5,e⟩:=a;unfold oX at t;simp only at t R h0 D;have b7:=aA R;have f7:=aA d;clear d R;go_wp2;go_loopw [12,13] (fun h5 Z wr=>∃i:Nat,h5=.bool ((e.take i).any (tB b))∧Z=.int .i64 i∧i≤e.length∧aB m wr) (fun _ Z _=>e.length - (intOf Z).toNat);case atStart=>exact ⟨0,by simp,rfl,by omega,f7.o⟩
     case round=>
      obtain ⟨i,rfl,rfl,j8,d⟩:=hrel;have l:aB e9 wr:=C.o.trans (d.mono d2);have j2:=aC l t;by_cases P:i < e.length
      ·have k0:(i:Int) < (e.length:Int):=by omega
       obtain ⟨j1,k2,rfl,c2,c3,g5,g6⟩:=b7.o.cell i P;obtain ⟨e7,i3,i4⟩:=b7.o.rng i P;have g7:=aC l c2;have g8:=aC l c3;have b4:=aA (aUm (tB b) e i P);have A:=aA (fun (g:World)=>aLt e[i].2.1 4 e7 (by omega) (by omega) g);generalize (e.take i).any (tB b)=on at *;generalize e[i]=a1 at *;obtain ⟨l1,k8,k9,l0⟩:=a1;simp only at g7 g8 A;have j:=aA d;clear d c2 c3 g5 g6 e7 i3 i4;cases on
       ·go_wp2_with (first
         | (go_at_call 8;refine (aD A _).mono ?_;rintro o g ⟨⟨i2,rfl,u,d7⟩,v⟩;rw [v];clear v g;have b6:=aA u;clear u)
         | go_in)
        go_roundw;case rel=>exact ⟨i+1,(by rw [b4.o,Bool.false_or];unfold tB;rw [←b6.o,←aUl h2 d7];rfl),by go_num,by omega,j.o⟩
        case measure=>simp [intOf];omega
       ·go_wp2_with (first
         | (go_at_call 8;refine (aD A _).mono ?_;rintro o g ⟨⟨i2,rfl,u,d7⟩,v⟩;rw [v];clear v g;have b6:=aA u;clear u)
         | go_in)
        go_roundw;case rel=>exact ⟨i+1,by rw [b4.o];rfl,by go_num,by omega,j.o⟩
        case measure=>simp [intOf];omega
      ·obtain rfl:i=e.length:=by omega
       have f9:aM ((e.take e.length).any (tB b)=wA b e):=aA (by rw [List.take_length];rfl);rw [f9.o];generalize wA b e=on at *;have j:=aA d;clear d l;cases al
       ·go_wp2;go_roundw;case rel=>exact ⟨c+1,by rw [D.o];rfl,by go_num,by omega,j.o⟩
        case measure=>simp [intOf];omega
       ·go_wp2;go_roundw;case rel=>exact ⟨c+1,by rw [D.o];rfl,by go_num,by omega,j.o⟩
        case measure=>simp [intOf];omega
    ·obtain rfl:c=Y.length:=by omega
     rw [g1.o];generalize rN b (Y.map fun a=>a.2.2)=al at *;have j:=aA d;clear d;cases an
     ·go_wp2;go_roundw;case rel=>exact ⟨b+1,by rw [b5.o];rfl,by go_num,by omega,j.o⟩
      case measure=>simp [intOf];omega
     ·go_wp2;go_roundw;case rel=>exact ⟨b+1,by rw [b5.o];rfl,by go_num,by omega,j.o⟩
      case measure=>simp [intOf];omega
  ·obtain rfl:b=16:=by omega
   have i7:=aC d a2;have l2:=aC d a3;have p:aB r wr:=bK f6.o d;have l:aB q wr:=bK f3.o (C.o.trans (d.mono d2));have b2:=aA l;obtain ⟨g9,O,S,U⟩:=E.o;rcases g9 with rfl | rfl
   ·obtain ⟨d8,e6,b8,c4,c6,rfl,rfl,d4,T,c7,c5,j5⟩:=U rfl;have e1:gS f0.heap.size wr (.slice (some ⟨c4,0,none⟩) (e6+1) x) b8:=⟨bG T.row p (Nat.le_refl _),fun h6 h3=>by
     obtain ⟨g3,h8,h9,i0,i1⟩:=T.cl h6 h3;exact ⟨g3,h8,bG h9 p (Nat.le_refl _),fun h7 h4=>bG (i0 h7 h4) p (Nat.le_refl _),i1⟩⟩
    have h1:(Y.map fun a=>a.2.2).length≤40:=by simpa using L
    have d3:∀e∈Y.map fun a=>a.2.2,e.length≤4:=fun e t=>by
     obtain ⟨a,w,rfl⟩:=List.mem_map.1 t;exact y a w
    have f1:=aA (aJk (gO (Y.map fun a=>a.2.2)) ((Y.map fun a=>a.2.2).map nW) f0.heap.size c4 x e6 b8 wr (by have:=yO _ d3;omega) (fun k3 j0 j3 k=>aEp k h1 d3) O c6 (by rw [c6];exact e1) (g2.o wr l) c7 c5 (by omega) d4);rw [d8];clear d p l T e1 c7 c5 d4 U S O E a2 a3 d8;go_wp2_with (first
     | (go_at_call 13;refine (aD f1).mono ?_;rintro o k7 ⟨rfl,N⟩;have l3:=aC N i7;have j:=aA (bK b2.o N);clear N)
     | go_in)
    go_ret;exact ⟨rfl,j.o⟩
   ·rw [S rfl];clear d p l U S O E a2 a3;go_wp2;go_ret;exact ⟨rfl,b2.o⟩
end Go.Proofs.YtmelidkanelpbaaGreatDoor
namespace Go.Proofs.YtmelidkanelpbaaGreatDoor
open Go.ChangeShapes Go.WideShapes Go.ChangeAt Go.RowKit Go.Lib Go.Shelf
set_option maxRecDepth 100000
theorem own:ownKnob Tryz.prog.godebug=none:=by kernel_rfl
theorem aUq:laidOutB Tryz.prog=true:=by kernel_rfl
theorem aUr {a:World} (d:laidMetH Tryz.prog Rows.chosenRow.laid a):kN a:=by
 have b:laidMet Tryz.prog Rows.chosenRow.laid a:=d;refine utf8Tabs_of_readsT (U8Types.of196 aLx) ⟨by kernel_rfl,by kernel_rfl,by kernel_rfl,by kernel_rfl,by kernel_rfl,by kernel_rfl,by kernel_rfl⟩ ?_ ?_
 ·rw [←Pinned.utf8First_eq];exact Lib.laidMet.reads b (by simp [Rows.chosenRow,Rows.laid_unicode_utf8_first])
 ·have c:(Rows.laid_unicode_utf8_acceptRanges:DataW Unit)=acceptData:=by kernel_rfl
  rw [←c];exact Lib.laidMet.reads b (by simp [Rows.chosenRow])
theorem contract (i:Type) (f:TypeId×Value→i) (a:World) (E:Nat) (c:Array Value) (m s:List (DataW i)) (F:List MemPlace)
  (z:∀(A:Nat) t d,Tryz.f5.params[A]?=some t→c[A]?=some d→Value.okWide Tryz.prog a .any E t d)
  (y:DataW.Whole f Tryz.prog Tryz.f5.params.toList Rows.chosenSpec.vars false a c.toList m s F)
  (V:(DataW.weightsEach Tryz.prog (Tryz.f5.params.toList++Rows.chosenSpec.plain.varTypes Tryz.prog) (m++s)).all (·≤reachBytes)=true)
  (J:laidMetH Tryz.prog Rows.chosenRow.laid a) :
  Calls Tryz.prog 5 c a fun r b=>∃d,r=.returned d∧Rows.chosenSpec.post f Tryz.prog Tryz.f5 false true false false a c d b:=by
 have o:=y;obtain ⟨g,W,w,L,rfl,_,_⟩:=y;have v:DataW.TrodAll f Tryz.prog a 0 (fun _=>true) true Tryz.f5.params.toList c.toList m g:=w;rw [Tryz.params5] at v z;obtain ⟨T,l,rfl,rfl,u⟩:=trodAll_one v;obtain ⟨rfl,rfl⟩:=trodVars_none L;obtain ⟨j,B,k,rfl⟩:=okWide_slice Tryz.underlying22 (z 0 22 T rfl rfl);have I:=u;obtain ⟨U,P⟩:=u;clear w;simp only [List.append_nil] at o;have R:∀e∈g,e.block < a.heap.size:=fun e p=>by simpa using o.lt e p
 have M:∀(b:World),aB a b→DataW.Trod f Tryz.prog b 0 (fun C=>decide (C < a.heap.size)) true 22 (.slice j B k) l g:=
  fun b S=>Below.trod aUq (by kernel_rfl) (of_decide_eq_true (by kernel_rfl)) I S (fun e p=>R e (by simp [p]))
 obtain ⟨D,q,G,N,Q⟩:=aZg P;obtain ⟨rfl,rfl,rfl⟩ : j=D∧B=q.length∧k=G:=by simpa [Value.cells] using N
 refine (aUp j k q a Q (aUr J)).mono fun r b ⟨O,x⟩=>?_
 subst O;have n:Rows.chosenSpec.fn i ([l]++[]) = {results:=[.lit (.bool true)],args:=[l]}:=rfl;refine ⟨_,rfl,_,_,_,[],g,[],o,?_,?_,by rw [n];rfl,x.frame _,fun H=>by cases H⟩
 ·rw [n];exact trodAll_mk1 (shut_bool Tryz.underlying4 _)
 ·rw [n];exact trodAll_mk1 (M _ x)
noncomputable def aAm (b:Os):World:=
 let w0:=World.holding Tryz.prog b ⟨#[],#[],[]⟩;let put (h:Array Obj) (g:Nat) (cs:Array Value):Array Obj:=h.modify g fun
  | .cells _ t frozen=>.cells cs t frozen
  | o=>o
 let h1:=put w0.heap 1 (Lib.firstTab.map fun c=>Value.int .u8 c).toArray;let h2:=put h1 2 ((List.range 16).flatMap fun a=>[Value.int .u8 (Lib.accLo a),Value.int .u8 (Lib.accHi a)]).toArray;{w0 with heap:=h2}
theorem aUs (b:Os) (a:Array Value):laidMet Tryz.prog Rows.chosenRow.laid ((aAm b).forCall (fun _ _=>0) ⟨#[],a,[]⟩).memory:=
 (LaidIn.of_run (l := [("unicode/utf8.acceptRanges", Rows.laid_unicode_utf8_acceptRanges), ("unicode/utf8.first", Rows.laid_unicode_utf8_first)]) [2, 1] 8 (by kernel_rfl) (by kernel_rfl) (by kernel_rfl) (by kernel_rfl)).met
theorem aUt (a:Os) {e:Type} (b:TypeId×Value→e) :
  (OpenSpec.ofChange Rows.chosenSpec).preRow b Tryz.prog Tryz.f5 Rows.chosenRow.domain false Rows.chosenRow.laid ((aAm a).forCall (fun _ _=>0) ⟨#[],#[.slice none 0 0],[]⟩).memory #[.slice none 0 0]:=by
 have g:(DataW.whole b Tryz.prog ((aAm a).forCall (fun _ _=>0) ⟨#[],#[.slice none 0 0],[]⟩).memory Tryz.f5.params.toList Rows.chosenSpec.vars false #[Value.slice none 0 0].toList 8).map (fun d=>(d.1,d.2.1))=some ([.nil],[]):=by kernel_rfl
 obtain ⟨⟨k,l,m⟩,i,c⟩:=Option.map_eq_some_iff.1 g;simp only [Prod.mk.injEq] at c;obtain ⟨rfl,rfl⟩:=c;exact OpenSpec.preRow_of_cond 8 i (by kernel_rfl) (fun j f=>by cases f) (by kernel_rfl) (aUs a _)
theorem lifted (a:Os) (o:a.Started) (b:Type) (enc:TypeId×Value→b) (c:Stop.Interp) :
  ReturnsInHanded {} Tryz.checked a 5 .any ((OpenSpec.ofChange Rows.chosenSpec).preRow enc Tryz.prog Tryz.f5 Rows.chosenRow.domain false Rows.chosenRow.laid) (((OpenSpec.ofChange Rows.chosenSpec).at c).post enc Tryz.prog Tryz.f5 false true false false):=by
 refine returnsInHanded_of_row (C:=Tryz.checked) (s:=OpenSpec.ofChange Rows.chosenSpec) own o (by kernel_rfl) Tryz.func5
  (witness_row_atRef (enc:=enc) (C:=Tryz.checked) false (aAm a) #[.slice none 0 0] rfl (by kernel_rfl) (by kernel_rfl) (by kernel_rfl) (aUt a enc)) ?_
 intro d f e i j g m l _ _ n k _ _;exact contract b enc d f e i j g m l n k
theorem said:Rows.ChosenSaid:=
 OpenClaim.holds_of_cond 5 Tryz.f5 rfl rfl rfl rfl rfl rfl rfl ⟨rfl,rfl,rfl,rfl,rfl⟩ rfl rfl rfl rfl rfl (by kernel_rfl) Tryz.func5 (by kernel_rfl)
  (of_decide_eq_true (by kernel_rfl)) (by unfold Func.isWrapper;first | (rw [aH (by decide +kernel)];kernel_rfl) | (rw [aI (by decide +kernel)];exact ⟨rfl,rfl⟩))
  (fun d e b c _ a=>by rw [OpenClaim.pre_eq_preRow];exact lifted d e b c a)
theorem plain (b : FuncId) (c : Func) (f : Tryz.pinned.checked.prog.funcNamed "moot/mootkeep.Chosen" = some b) (g : Tryz.pinned.checked.prog.funcs[b]? = some c) :
  false=Tryz.pinned.checked.prog.looks []∧∀(e:Nat) a,c.params[e]?=some a→Tryz.pinned.checked.prog.wantsStandIn a=false:=by
 obtain rfl : b = 5 := Option.some.inj ((show Tryz.prog.funcNamed "moot/mootkeep.Chosen" = some 5 by kernel_rfl).symm.trans f) |>.symm
 obtain rfl:c=Tryz.f5:=(Option.some.inj (Tryz.func5.symm.trans g)).symm;refine ⟨by kernel_rfl,fun e a d=>?_⟩;rw [Tryz.params5] at d;obtain rfl:a=22:=by simpa using Array.mem_of_getElem? d
 exact (show Tryz.prog.wantsStandIn 22=false by kernel_rfl)
theorem chosen_card:Rows.ChosenCardSaid:=
 Claim7.holds_tied_plain_at .later [] _ _ _ _ said (fun _ a=>by cases a) (by kernel_rfl) (fun _ a=>by cases a) chosen_row_tie rfl ⟨rfl,rfl⟩ (by kernel_rfl) rfl plain (by kernel_rfl)
#print axioms chosen_card
end Go.Proofs.YtmelidkanelpbaaGreatDoor
