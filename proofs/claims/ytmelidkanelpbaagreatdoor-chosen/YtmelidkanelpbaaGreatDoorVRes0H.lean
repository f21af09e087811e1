import Derived.Test.YtmelidkanelpbaaGreatDoorUWrH
namespace Go.Proofs.YtmelidkanelpbaaGreatDoor
set_option maxRecDepth 100000
open Go.RowKit Go.Shelf Go.WideMaps
theorem aNd{q z B:Nat}{c d:Int}{a b:List Nd}{m:World}(e:lK q z B (aN c a++aN d b) m)(N:aQ a 1=true)(O:aQ b 1=true)(L:∀D∈aN c a++aN d b,D.2.1.size<=140737488355328)(a6:(aN c a++aN d b).length<=1000000):Calls Tryz.prog 104 #[.pointer (some ⟨z,0,none⟩),.int .i64 ((0:Nat):Int),.int .i64 a.length] m λo A=>∃v:Bool,o=.returned (.bool v)/\Below q m A/\pZ none m A/\
   (v=true->∃b3,iE q z B b3 (aN c a++aN d b) 0 a.length [] [] A)/\(v=false->∀y:List (Int×Lt),(∀f∈y,aQ f.2.2 1=true)->¬xA ((aN c a++aN d b)++aW y) 0 a.length):=by
 obtain ⟨G,Q,R,S,g⟩:=e.tm;have M:(aN c a++aN d b).map Prod.snd=a++b:=by rw [List.map_append,aBm,aBm]
 have k:((aN c a++aN d b).map Prod.snd).length=(aN c a++aN d b).length:=by simp
 have i:(aN c a++aN d b).length=a.length+b.length:=by simp
 have c3:0<a.length:=by
  cases a with
  |nil=>simp [aQ] at N
  |cons=>simp
 have c4:0<b.length:=by
  cases b with
  |nil=>simp [aQ] at O
  |cons=>simp
 have a5:=g.toIn (by rw [mZ];simp) (by simp) (by rw [k];exact a6) (λC a7=>by obtain ⟨D,b1,rfl⟩:=List.mem_map.1 a7;exact L D b1);refine (bBn q z G Q R S _ ((aN c a++aN d b).map Prod.snd) _ (bJ (aN c a++aN d b)) _ e.whole (aFe _) (bAv _) (bAu _) _ 0 a.length m a5 (by rw [k,i];omega) (by rw [k,i];omega)).mono ?_;rintro o A ⟨v,rfl,f⟩;have J:∀{F:Value} {C:Nat} {T:List Value},m.ownsRow q 3 1 F C T->∀(l:Nat) (r:Array Value) (n:TypeId) (s:Nat×Nat),m.heap[l]?=some (.cells r n s)->n≠3->F.ownBlock≠some l:=by
  intro F C T a8 l r n s j a1 o;obtain ⟨_,⟨rfl,_⟩|⟨c1,b9,c0,rfl,_,a4,_⟩⟩:=a8
  ·simp [Value.ownBlock] at o
  ·simp [Value.ownBlock] at o;subst o;rw [a4] at j;simp at j;exact a1 j.2.1.symm
 refine ⟨v,rfl,f.low,λl r n s j I _ _=>f.keep l (Array.getElem?_eq_some_iff.1 j).1 (J g.rl l r n s j I) (J g.rs l r n s j I),λx=>?_,λx y b0 b2=>?_⟩
 ·obtain ⟨U,V,w,Y,E,b4,b5,b6,P,b7,b8⟩:=f.st x;have a0:(λt u=>w t=w u)=cZ (aN c a++aN d b) 0 a.length:=by
   funext t u
   exact propext (P t u)
  have H:=(f.yes.1 x).2;have Z:kK (aG ((aN c a++aN d b).map Prod.snd)) (cZ (aN c a++aN d b) 0 a.length):=Cl.isDown _ _;have a2:=cE.same Z H (Cl.base (Or.inr ⟨rfl,rfl⟩));have a3:∀p,p<(aN c a++aN d b).length->cE (aG ((aN c a++aN d b).map Prod.snd)) (λt u=>w t=w u) p:=by
   intro p a9;rw [a0];rw [i] at a9;by_cases c2:p<a.length
   ·refine aMg (λ_=>Cl.refl _) e.whole (i:=0) (by rw [k,i];omega) H p (Nat.zero_le _) ?_;rw [M,List.drop_zero,yF a 1 b N];omega
   ·refine aMg (λ_=>Cl.refl _) e.whole (i:=a.length) (by rw [k,i];omega) a2 p (by omega) ?_;have:=yF b 1 [] O;rw [List.append_nil] at this;rw [M,List.drop_left,this];omega
  refine ⟨G.ownBlock,⟨⟨G,Q,R,S,U,w,Y,V,rfl,E.toRaw g.ne g.nl g.ns,⟨e.whole,by rw [E.lf,k],by rw [E.ls,k],b4,b5,b6,P,b7,b8,by rw [i];omega,by rw [i];omega⟩,a3,aP.nil⟩,by simp,e.first.at (f.keep B e.first.lt (qZ g.rl e.first) (qZ g.rs e.first)),Nat.le_trans e.big f.size,e.ne,e.mlow,L⟩⟩
 ·obtain ⟨W,X⟩:=bCf y b0 e.whole b2;have:=f.yes.2 ⟨W,X 0 (by rw [i];omega)⟩;rw [x] at this;cases this
