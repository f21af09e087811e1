import Derived.Test.YthjhkgohninpcaaGreatDoorUWrM
import Derived.Deep.RegionHeld
open Array renaming setIfInBounds_comm→zx,replicate→zq
open Bool renaming and_eq_true→zw,not_eq_true'→zt
namespace Go.Proofs.YthjhkgohninpcaaGreatDoor
open Region renaming ready→zz,binds→zy,noSelect_spec→zv,free_spec→zs,noSelect→zr
open Go.RowKit Go.Shelf Go.WideMaps
set_option maxRecDepth 100000
variable{a:Act}{fuel i:Nat}{oi:Oper}{v:Value}{w:World}
theorem aL9{r B D:Nat}{d e:Int}{b c:List Nd}(f:lQ r B D (aQ d b++aQ e c) w)(O:bA b 1=true)(P:bA c 1=true)(M:∀F∈aQ d b++aQ e c,F.2.1.size<=140737488355328)(a7:(aQ d b++aQ e c).length<=1000000):Calls Tryz.prog 58 #[.pointer (some ⟨B,0,none⟩),.int .i64 ((0:Nat):Int),.int .i64 b.length] w λp C=>∃x:Bool,p=.returned (.bool x)/\Below r w C/\qN none w C/\
   (x=true->∃b4,iX r B D b4 (aQ d b++aQ e c) 0 b.length [] [] C)/\(x=false->∀A:List (Int×Lt),(∀g∈A,bA g.2.2 1=true)->¬qP ((aQ d b++aQ e c)++aK A) 0 b.length):=by
 obtain ⟨H,R,S,T,j⟩:=f.tm;have N:(aQ d b++aQ e c).map Prod.snd=b++c:=by rw [List.map_append,sQ,sQ]
 have m:((aQ d b++aQ e c).map Prod.snd).length=(aQ d b++aQ e c).length:=by simp
 have k:(aQ d b++aQ e c).length=b.length+c.length:=by simp
 have c4:0<b.length:=by
  cases b with
  |nil=>simp [bA] at O
  |cons=>simp
 have c5:0<c.length:=by
  cases c with
  |nil=>simp [bA] at P
  |cons=>simp
 have a6:=j.toIn (by rw [mS];simp) (by simp) (by rw [m];exact a7) (λE a8=>by obtain ⟨F,b2,rfl⟩:=List.mem_map.1 a8;exact M F b2);refine (aYa r B H R S T _ ((aQ d b++aQ e c).map Prod.snd) _ (bH (aQ d b++aQ e c)) _ f.whole (aEz _) (aXa _) (aX9 _) _ 0 b.length w a6 (by rw [m,k];omega) (by rw [m,k];omega)).mono ?_;rintro p C ⟨x,rfl,g⟩;have L:∀{v:Value} {E:Nat} {U:List Value},w.ownsRow r 3 1 v E U->∀(n:Nat) (s:Array Value) (o:TypeId) (t:Nat×Nat),w.heap[n]?=some (.cells s o t)->o≠3->v.ownBlock≠some n:=by
  intro v E U a9 n s o t l a2 p;obtain ⟨_,⟨rfl,_⟩|⟨c2,c0,c1,rfl,_,a5,_⟩⟩:=a9
  ·simp [Value.ownBlock] at p
  ·simp [Value.ownBlock] at p;subst p;rw [a5] at l;simp at l;exact a2 l.2.1.symm
 refine ⟨x,rfl,g.low,λn s o t l J _ _=>g.keep n (Array.getElem?_eq_some_iff.1 l).1 (L j.rl n s o t l J) (L j.rs n s o t l J),λz=>?_,λz A b1 b3=>?_⟩
 ·obtain ⟨V,W,y,Z,G,b5,b6,b7,Q,b8,b9⟩:=g.st z;have a1:(λi u=>y i=y u)=bU (aQ d b++aQ e c) 0 b.length:=by
   funext i u
   exact propext (Q i u)
  have I:=(g.yes.1 z).2;have a0:fH (aF ((aQ d b++aQ e c).map Prod.snd)) (bU (aQ d b++aQ e c) 0 b.length):=Cl.isDown _ _;have a3:=bK.same a0 I (Cl.base (Or.inr ⟨rfl,rfl⟩));have a4:∀q,q<(aQ d b++aQ e c).length->bK (aF ((aQ d b++aQ e c).map Prod.snd)) (λi u=>y i=y u) q:=by
   intro q b0;rw [a1];rw [k] at b0;by_cases c3:q<b.length
   ·refine aKf (λ_=>Cl.refl _) f.whole (i:=0) (by rw [m,k];omega) I q (Nat.zero_le _) ?_;rw [N,List.drop_zero,aAu b 1 c O];omega
   ·refine aKf (λ_=>Cl.refl _) f.whole (i:=b.length) (by rw [m,k];omega) a3 q (by omega) ?_;have:=aAu c 1 [] P;rw [List.append_nil] at this;rw [N,List.drop_left,this];omega
  refine ⟨H.ownBlock,⟨⟨H,R,S,T,V,y,Z,W,rfl,G.toRaw j.ne j.nl j.ns,⟨f.whole,by rw [G.lf,m],by rw [G.ls,m],b5,b6,b7,Q,b8,b9,by rw [k];omega,by rw [k];omega⟩,a4,aO.nil⟩,by simp,f.first.at (g.keep D f.first.lt (rC j.rl f.first) (rC j.rs f.first)),Nat.le_trans f.big g.size,f.ne,f.mlow,M⟩⟩
 ·obtain ⟨X,Y⟩:=aYz A b1 f.whole b3;have:=g.yes.2 ⟨X,Y 0 (by rw [k];omega)⟩;rw [z] at this;cases this
section
variable {P:Program}{ops:Array Oper}{Q:Exit->Act->World->Prop}{md:Region.Mode}{k:Nat}{C D:World->Prop}
def kP(k:Nat)(C D:World->Prop)(b:Array Bool)(w:World):Prop:=(b.getD k true=false->C w)/\D w
def mI(P:Program)(md:Region.Mode)(ops:Array Oper)(Q:Exit->Act->World->Prop)(k:Nat)(C D:World->Prop):Nat->Array Bool->Act->World->Prop
 |0,listed,a,w=>zz md ops listed=[]/\Q .normal a w
 |fuel+1,listed,a,w=>
  (zz md ops listed=[]->Q .normal a w)/\
  ∀i∈zz md ops listed,wpOp P ops Q i (λc b=>kP k C D (listed.setIfInBounds i true) b/\mI P md ops Q k C D fuel (listed.setIfInBounds i true) c b) a w
theorem aLa:∀(fuel:Nat) (b:Array Bool) (a:Act) (w:World),mI P md ops Q k C D fuel b a w->wpAny P md ops Q fuel b a w
 |0,_,_,_,h=>h
 |fuel+1,_,_,_,h=>⟨h.1,λi e=>wpOp_mono (λc f d=>aLa fuel _ c f d.2) (h.2 i e)⟩
theorem kP.set{b:Array Bool}(i:Nat)(e:kP k C D b w):kP k C D (b.setIfInBounds i true) w:=by
 refine ⟨λc=>e.1 ?_,e.2⟩;by_cases d:i=k
 ·subst d;rcases Nat.lt_or_ge i b.size with h'|h'
  ·simp [h'] at c
  ·simp [h'] at c
 ·rwa [getD_set_ne true d] at c
theorem kP.unset{b:Array Bool}(d:i≠k)(c:kP k C D (b.setIfInBounds i true) w):kP k C D b w:=
 ⟨λe=>c.1 (by rwa [getD_set_ne true d]),c.2⟩
def vJ(md:Region.Mode)(ops:Array Oper)(k i:Nat):Bool:=match ops[k]? with
 |none=>false
 |some o=>o.after.any λb=>zy md b && b.on==i
theorem aZ2(c:vJ md ops k i=true):∃d b,ops[k]?=some d/\b∈d.after/\zy md b=true/\b.on=i:=by
 unfold vJ at c;split at c
 ·cases c
 ·rename_i d j;simp only [Array.any_eq_true',zw,beq_iff_eq] at c;obtain ⟨b,f,e,g⟩:=c;exact ⟨d,b,j,f,e,g⟩
theorem aLb{t:World->Prop}(G:ops[i]?=some oi)(a3:i≠k)(T:∀(b:Nat) (H:Oper) r q,ops[b]?=some H->H.op≠.select r q)
  (Y:∀I a w,Q (.panic I) (a.put oi.dst v) w->Q (.panic I) a w) (Z:(∀w,D w->t w)\/((∀w,C w->D w->t w)/\vJ md ops k i=true)):∀(fuel:Nat) (c:Array Bool) (a:Act) (w:World),
   (∀b m,ops[b]?=some m->b≠i->c.getD b true=false->(∀d∈m.after,zy md d=true->d.on≠i)->oi.apart ops m=true)->
   i∈zz md ops c->YieldsIf P ops t oi v a->kP k C D c w->(vJ md ops k i=true->c.getD k true=false)->
   mI P md ops Q k C D fuel (c.setIfInBounds i true) (a.put oi.dst v) w->mI P md ops Q k C D (fuel+1) c a w:=by
 have M:∀(A:Array Bool) (w:World),kP k C D A w->(vJ md ops k i=true->A.getD k true=false)->t w:=λA w e y=>by
  rcases Z with g|⟨g,h'⟩
  ·exact g w e.2
  ·exact g w (e.1 (y h')) e.2
 intro fuel;induction fuel with
 |zero=>
  intro c a w _ l z e o p;refine ⟨λg=>(by rw [g] at l;cases l),λb u=>?_⟩;by_cases f:b=i
  ·subst f;exact z.wpOp G (M _ _ e o) ⟨e.set _,p⟩
  ·have:=ready_mono u f;rw [p.1] at this;cases this
 |succ fuel ih=>
  intro c a w N l z e o p;refine ⟨λg=>(by rw [g] at l;cases l),λb u=>?_⟩;by_cases f:b=i
  ·subst f;exact z.wpOp G (M _ _ e o) ⟨e.set _,p⟩
  ·have j:=p.2 b (ready_mono u f);obtain ⟨O,m,x,a0⟩:=mem_ready.1 u;have R:∀d∈m.after,zy md d=true->d.on≠i:=λd F E a1=>by
    have j:=a0 d F E;have J:=(mem_ready.1 l).1;rw [a1] at j;rcases Nat.lt_or_ge i c.size with h'|h'
    ·simp [h'] at J j;rw [J] at j;cases j
    ·simp [Array.getElem?_eq_none h'] at j
   have X:=wpOp_putIf x (N b m x f O R) (λr q=>T i oi r q G) (λr q=>T b m r q x) Y z j;have a2:∀k s,ops[k]?=some s->k≠i->(c.setIfInBounds b true).getD k true=false->
     (∀d∈s.after,zy md d=true->d.on≠i)->oi.apart ops s=true:=λk s o a5 U a6=>by
    refine N k s o a5 ?_ a6;by_cases n:b=k
    ·subst n;exact O
    ·rw [getD_set_ne true n] at U;exact U
   have a4:vJ md ops k i=true->(c.setIfInBounds b true).getD k true=false:=λy=>by
    obtain ⟨H,d,S,F,E,a7⟩:=aZ2 y;have n:b≠k:=λn=>by
     subst n;rw [x] at S;cases S;exact R d F E a7
    rw [getD_set_ne true n];exact o y
   refine wpOp_mono (λW V B=>?_) X;have L:kP k C D (c.setIfInBounds b true) V:=by have:=B.2.1;rw [zx _ _ (Ne.symm f)] at this;exact this.unset a3
   refine ⟨L,ih (c.setIfInBounds b true) W V a2 (ready_mono l (Ne.symm f)) B.1 L a4 ?_⟩;rw [zx _ _ f];exact B.2.2
theorem aF8{d:Option Tmp}{b:Array Bool}(g:ops[i]?=some oi)(o:oi.dst=d)(c:(vJ md ops k i && (i != k) && !(b.getD k true))=true)
  (r:zr ops=true) (p:Region.free md ops b i=true) (q:(zz md ops b).contains i=true)
  (n:∀e a w,Q (.panic e) (a.put d v) w->Q (.panic e) a w) (s:YieldsIf P ops (λw=>C w/\D w) oi v a) (f:kP k C D b w)
  (j:kP k C D (b.setIfInBounds i true) w->mI P md ops Q k C D fuel (b.setIfInBounds i true) (a.put d v) w):mI P md ops Q k C D (fuel+1) b a w:=by
 subst o;simp only [zw,bne_iff_ne,ne_eq,zt] at c;exact aLb g c.1.2 (zv r) n (Or.inr ⟨λw l m=>⟨l,m⟩,c.1.1⟩) fuel b a w (zs g p) (by simpa using q) s f (λ_=>c.2) (j (f.set _))
theorem sV{d:Option Tmp}{b:Array Bool}(j:ops[i]?=some oi)(m:oi.dst=d)(e:((i != k) && !(b.getD k true))=true)
  (p:zr ops=true) (n:Region.free md ops b i=true) (o:(zz md ops b).contains i=true)
  (l:∀f a w,Q (.panic f) (a.put d v) w->Q (.panic f) a w) (q:YieldsIf P ops D oi v a) (g:kP k C D b w)
  (c:kP k C D (b.setIfInBounds i true) w->mI P md ops Q k C D fuel (b.setIfInBounds i true) (a.put d v) w):mI P md ops Q k C D (fuel+1) b a w:=by
 subst m;simp only [zw,bne_iff_ne,ne_eq,zt] at e;exact aLb j e.1 (zv p) l (Or.inl (λ_ c=>c)) fuel b a w (zs j n) (by simpa using o) q g (λ_=>e.2) (c (g.set _))
def mU(P:Program)(md:Region.Mode)(ops:Array Oper)(Q:Exit->Act->World->Prop)(k:Nat)(C D:World->Prop)(fuel:Nat)(b:Array Bool)(a:Act)(w:World)(rs:List Nat):Prop:=
 ∀i∈rs,wpOp P ops Q i (λd c=>kP k C D (b.setIfInBounds i true) c/\mI P md ops Q k C D fuel (b.setIfInBounds i true) d c) a w
theorem mU.nil{c:Array Bool}:mU P md ops Q k C D fuel c a w []:=λ_ b=>by cases b
theorem mU.cons{fuel:Nat}{c:Array Bool}{a:Act}{w:World}{i:Nat}{o:Oper}{rs:List Nat}(g:ops[i]?=some o)
  (d:∀b:Act->World->Prop,Shut (∀a w,kP k C D (c.setIfInBounds i true) w->mI P md ops Q k C D fuel (c.setIfInBounds i true) a w->b a w)->if Region.wanted o (yielded ops a.tmps)=true then Oper.wp P o a w b Q else b (a.put o.dst undef) w)
  (l:mU P md ops Q k C D fuel c a w rs):mU P md ops Q k C D fuel c a w (i::rs):=λj hj=>by
 rcases List.mem_cons.1 hj with rfl|hj
 ·exact wpOp_step g (λb hK=>d b (λa w e f=>hK a w ⟨e,f⟩))
 ·exact l j hj
theorem aF9{rs:List Nat}{b:Array Bool}(c:zz md ops b=rs)(f:rs≠[])
 (d:mU P md ops Q k C D fuel b a w rs):mI P md ops Q k C D (fuel+1) b a w:=⟨λe=>absurd (c▸e) f,c▸d⟩
theorem gO(i:Nat){fuel:Nat}{b:Array Bool}{a:Act}{w:World}{c:Oper}(g:zz md ops b=[i])(f:ops[i]?=some c)
 (e:∀d:Act->World->Prop,Shut (∀a w,kP k C D (b.setIfInBounds i true) w->mI P md ops Q k C D fuel (b.setIfInBounds i true) a w->d a w)->if Region.wanted c (yielded ops a.tmps)=true then Oper.wp P c a w d Q else d (a.put c.dst undef) w):mI P md ops Q k C D (fuel+1) b a w:=aF9 g (by simp) (mU.cons f e mU.nil)
theorem aFa{d:Array Bool}(c:zz md ops d=[])(b:Q .normal a w):∀fuel,mI P md ops Q k C D fuel d a w
 |0=>⟨c,b⟩
 |_+1=>⟨λ_=>b,by rw [c];simp⟩
theorem aZ3{f:Nat}(k:Nat)(C D:World->Prop)(e:P.follows .mixedOrders=true)(c:C w.drew)(d:D w.drew)
  (b:kP k C D (zq ops.size false) w.drew->mI P .any ops Q k C D ops.size (zq ops.size false) a w.drew):(Code.region f ops true).wp P Q a w:=
 wp_region_any e (aLa _ _ _ _ (b ⟨λ_=>c,d⟩))
end
