import Derived.Shelf.Strings.BuilderK
import Derived.Shelf.Strings.BuilderRune
import Derived.Shelf.Strings.Search3
import Derived.Shelf.Utf8.RuneCount
import Derived.Shelf.Unicode.ValidAny
import Derived.Shelf.Strconv.Itoa3
import Derived.Test.YtmelidkanelpbaaGreatDoorProg
import Derived.Deep.RegionHeld
open Array renaming setIfInBounds_comm→zx,replicate→zb
open Bool renaming and_eq_true→zt,not_eq_true'→zj
namespace Go.Proofs.YtmelidkanelpbaaGreatDoor
open Region renaming ready→zz,binds→zy,noSelect_spec→zp,free_spec→zg,noSelect→zc
open _root_.Go.Proofs.Tryz renaming underlying3→zw,underlying4→zv,underlying9→zu,zeroValue3→zs,zeroValue4→zr,zeroValue9→zq,underlying172→zo,sizeOf3→zn,sizeOf4→zm,sizeOf9→zl,zeroValue172→zk,underlying5→zi,underlying0→zh,isAgg3→zf,isAgg4→ze,isAgg9→zd,prog→za
set_option maxRecDepth 100000
variable{a:Act}{fuel i:Nat}{oi:Oper}{v:Value}{w:World}
section
open Go.Shelf Go.Proofs
def yS:Go.Shelf.Ren:=⟨fun|143=>150|144=>147|195=>148|196=>146|217=>140|219=>151|224=>125|225=>126|259=>149|266=>145|267=>152|314=>153|n=>n,fun|0=>0|3=>3|4=>4|5=>5|9=>9|12=>12|46=>172|51=>197|53=>196|119=>192|138=>194|139=>195|146=>198|n=>n,fun|1=>0|3=>1|4=>2|n=>n⟩
theorem aZt:Lays.n144 za yS:={
 mixed:=by kernel_rfl
 f143:=Tryz.func150.trans (congrArg some (by kernel_rfl))
 f144:=Tryz.func147.trans (congrArg some (by kernel_rfl))
 f217:=Tryz.func140.trans (congrArg some (by kernel_rfl))
 f219:=Tryz.func151.trans (congrArg some (by kernel_rfl))
 f224:=Tryz.func125.trans (congrArg some (by kernel_rfl))
 f225:=Tryz.func126.trans (congrArg some (by kernel_rfl))
 f266:=Tryz.func145.trans (congrArg some (by kernel_rfl))
 f267:=Tryz.func152.trans (congrArg some (by kernel_rfl))
 f314:=Tryz.func153.trans (congrArg some (by kernel_rfl))
 t3:=zw
 a3:=zf
 z3:=zn
 v3:=zs
 t4:=zv
 a4:=ze
 z4:=zm
 v4:=zr
 t5:=zi
 a5:=Tryz.isAgg5
 z5:=Tryz.sizeOf5
 v5:=Tryz.zeroValue5
 t9:=zu
 a9:=zd
 z9:=zl
 v9:=zq
 t46:=zo
 a46:=Tryz.isAgg172
 z46:=Tryz.sizeOf172
 v46:=zk
 t51:=Tryz.underlying197
 a51:=Tryz.isAgg197
 z51:=Tryz.sizeOf197
 v51:=Tryz.zeroValue197
 t146:=Tryz.underlying198
 a146:=Tryz.isAgg198
 z146:=Tryz.sizeOf198
 v146:=Tryz.zeroValue198
 g1:=by kernel_rfl}
theorem aZu:Lays.n195 za yS:={
 mixed:=by kernel_rfl
 f195:=Tryz.func148.trans (congrArg some (by kernel_rfl))
 t0:=zh
 a0:=Tryz.isAgg0
 z0:=Tryz.sizeOf0
 v0:=Tryz.zeroValue0
 t3:=zw
 a3:=zf
 z3:=zn
 v3:=zs
 t4:=zv
 a4:=ze
 z4:=zm
 v4:=zr
 t9:=zu
 a9:=zd
 z9:=zl
 v9:=zq}
theorem aLx:Lays.n196 za yS:={
 mixed:=by kernel_rfl
 f196:=Tryz.func146.trans (congrArg some (by kernel_rfl))
 f259:=Tryz.func149.trans (congrArg some (by kernel_rfl))
 t0:=zh
 a0:=Tryz.isAgg0
 z0:=Tryz.sizeOf0
 v0:=Tryz.zeroValue0
 t3:=zw
 a3:=zf
 z3:=zn
 v3:=zs
 t4:=zv
 a4:=ze
 z4:=zm
 v4:=zr
 t5:=zi
 a5:=Tryz.isAgg5
 z5:=Tryz.sizeOf5
 v5:=Tryz.zeroValue5
 t9:=zu
 a9:=zd
 z9:=zl
 v9:=zq
 t12:=Tryz.underlying12
 a12:=Tryz.isAgg12
 z12:=Tryz.sizeOf12
 v12:=Tryz.zeroValue12
 t46:=zo
 a46:=Tryz.isAgg172
 z46:=Tryz.sizeOf172
 v46:=zk
 t53:=Tryz.underlying196
 a53:=Tryz.isAgg196
 z53:=Tryz.sizeOf196
 v53:=Tryz.zeroValue196
 t119:=Tryz.underlying192
 a119:=Tryz.isAgg192
 z119:=Tryz.sizeOf192
 t138:=Tryz.underlying194
 a138:=Tryz.isAgg194
 z138:=Tryz.sizeOf194
 v138:=Tryz.zeroValue194
 t139:=Tryz.underlying195
 a139:=Tryz.isAgg195
 z139:=Tryz.sizeOf195
 v139:=Tryz.zeroValue195
 g3:=by kernel_rfl
 g4:=by kernel_rfl}
end
section
open Go
section
variable {P:Program}{ops:Array Oper}{Q:Exit->Act->World->Prop}{md:Region.Mode}{k:Nat}{C D:World->Prop}
def kD(k:Nat)(C D:World->Prop)(b:Array Bool)(w:World):Prop:=(b.getD k true=false->C w)/\D w
def lZ(P:Program)(md:Region.Mode)(ops:Array Oper)(Q:Exit->Act->World->Prop)(k:Nat)(C D:World->Prop):Nat->Array Bool->Act->World->Prop
 |0,listed,a,w=>zz md ops listed=[]/\Q .normal a w
 |fuel+1,listed,a,w=>
  (zz md ops listed=[]->Q .normal a w)/\
  ∀i∈zz md ops listed,wpOp P ops Q i (λc b=>kD k C D (listed.setIfInBounds i true) b/\lZ P md ops Q k C D fuel (listed.setIfInBounds i true) c b) a w
theorem aLy:∀(fuel:Nat) (b:Array Bool) (a:Act) (w:World),lZ P md ops Q k C D fuel b a w->wpAny P md ops Q fuel b a w
 |0,_,_,_,h=>h
 |fuel+1,_,_,_,h=>⟨h.1,λi e=>wpOp_mono (λc f d=>aLy fuel _ c f d.2) (h.2 i e)⟩
theorem kD.set{b:Array Bool}(i:Nat)(e:kD k C D b w):kD k C D (b.setIfInBounds i true) w:=by
 refine ⟨λc=>e.1 ?_,e.2⟩;by_cases d:i=k
 ·subst d;rcases Nat.lt_or_ge i b.size with h'|h'
  ·simp [h'] at c
  ·simp [h'] at c
 ·rwa [getD_set_ne true d] at c
theorem kD.unset{b:Array Bool}(d:i≠k)(c:kD k C D (b.setIfInBounds i true) w):kD k C D b w:=
 ⟨λe=>c.1 (by rwa [getD_set_ne true d]),c.2⟩
def vD(md:Region.Mode)(ops:Array Oper)(k i:Nat):Bool:=match ops[k]? with
 |none=>false
 |some o=>o.after.any λb=>zy md b && b.on==i
theorem aZv(c:vD md ops k i=true):∃d b,ops[k]?=some d/\b∈d.after/\zy md b=true/\b.on=i:=by
 unfold vD at c;split at c
 ·cases c
 ·rename_i d j;simp only [Array.any_eq_true',zt,beq_iff_eq] at c;obtain ⟨b,f,e,g⟩:=c;exact ⟨d,b,j,f,e,g⟩
theorem aLz{t:World->Prop}(G:ops[i]?=some oi)(a3:i≠k)(T:∀(b:Nat) (H:Oper) r q,ops[b]?=some H->H.op≠.select r q)
  (Y:∀I a w,Q (.panic I) (a.put oi.dst v) w->Q (.panic I) a w) (Z:(∀w,D w->t w)\/((∀w,C w->D w->t w)/\vD md ops k i=true)):∀(fuel:Nat) (c:Array Bool) (a:Act) (w:World),
   (∀b m,ops[b]?=some m->b≠i->c.getD b true=false->(∀d∈m.after,zy md d=true->d.on≠i)->oi.apart ops m=true)->
   i∈zz md ops c->YieldsIf P ops t oi v a->kD k C D c w->(vD md ops k i=true->c.getD k true=false)->
   lZ P md ops Q k C D fuel (c.setIfInBounds i true) (a.put oi.dst v) w->lZ P md ops Q k C D (fuel+1) c a w:=by
 have M:∀(A:Array Bool) (w:World),kD k C D A w->(vD md ops k i=true->A.getD k true=false)->t w:=λA w e y=>by
  rcases Z with g|⟨g,h'⟩
  ·exact g w e.2
  ·exact g w (e.1 (y h')) e.2
 intro fuel;induction fuel with
 |zero=>
  intro c a w _ l z e o p;refine ⟨λg=>(by rw [g] at l;cases l),λb u=>?_⟩;by_cases f:b=i
  ·subst f;exact z.wpOp G (M _ _ e o) ⟨e.set _,p⟩
  ·have:=ready_mono u f;rw [p.1] at this;cases this
 |succ fuel ih=>
  intro c a w N l z e o p;refine ⟨λg=>(by rw [g] at l;cases l),λb u=>?_⟩;by_cases f:b=i
  ·subst f;exact z.wpOp G (M _ _ e o) ⟨e.set _,p⟩
  ·have j:=p.2 b (ready_mono u f);obtain ⟨O,m,x,a0⟩:=mem_ready.1 u;have R:∀d∈m.after,zy md d=true->d.on≠i:=λd F E a1=>by
    have j:=a0 d F E;have J:=(mem_ready.1 l).1;rw [a1] at j;rcases Nat.lt_or_ge i c.size with h'|h'
    ·simp [h'] at J j;rw [J] at j;cases j
    ·simp [Array.getElem?_eq_none h'] at j
   have X:=wpOp_putIf x (N b m x f O R) (λr q=>T i oi r q G) (λr q=>T b m r q x) Y z j;have a2:∀k s,ops[k]?=some s->k≠i->(c.setIfInBounds b true).getD k true=false->
     (∀d∈s.after,zy md d=true->d.on≠i)->oi.apart ops s=true:=λk s o a5 U a6=>by
    refine N k s o a5 ?_ a6;by_cases n:b=k
    ·subst n;exact O
    ·rw [getD_set_ne true n] at U;exact U
   have a4:vD md ops k i=true->(c.setIfInBounds b true).getD k true=false:=λy=>by
    obtain ⟨H,d,S,F,E,a7⟩:=aZv y;have n:b≠k:=λn=>by
     subst n;rw [x] at S;cases S;exact R d F E a7
    rw [getD_set_ne true n];exact o y
   refine wpOp_mono (λW V B=>?_) X;have L:kD k C D (c.setIfInBounds b true) V:=by have:=B.2.1;rw [zx _ _ (Ne.symm f)] at this;exact this.unset a3
   refine ⟨L,ih (c.setIfInBounds b true) W V a2 (ready_mono l (Ne.symm f)) B.1 L a4 ?_⟩;rw [zx _ _ f];exact B.2.2
theorem aEy{d:Option Tmp}{b:Array Bool}(g:ops[i]?=some oi)(o:oi.dst=d)(c:(vD md ops k i && (i != k) && !(b.getD k true))=true)
  (r:zc ops=true) (p:Region.free md ops b i=true) (q:(zz md ops b).contains i=true)
  (n:∀e a w,Q (.panic e) (a.put d v) w->Q (.panic e) a w) (s:YieldsIf P ops (λw=>C w/\D w) oi v a) (f:kD k C D b w)
  (j:kD k C D (b.setIfInBounds i true) w->lZ P md ops Q k C D fuel (b.setIfInBounds i true) (a.put d v) w):lZ P md ops Q k C D (fuel+1) b a w:=by
 subst o;simp only [zt,bne_iff_ne,ne_eq,zj] at c;exact aLz g c.1.2 (zp r) n (Or.inr ⟨λw l m=>⟨l,m⟩,c.1.1⟩) fuel b a w (zg g p) (by simpa using q) s f (λ_=>c.2) (j (f.set _))
theorem rY{d:Option Tmp}{b:Array Bool}(j:ops[i]?=some oi)(m:oi.dst=d)(e:((i != k) && !(b.getD k true))=true)
  (p:zc ops=true) (n:Region.free md ops b i=true) (o:(zz md ops b).contains i=true)
  (l:∀f a w,Q (.panic f) (a.put d v) w->Q (.panic f) a w) (q:YieldsIf P ops D oi v a) (g:kD k C D b w)
  (c:kD k C D (b.setIfInBounds i true) w->lZ P md ops Q k C D fuel (b.setIfInBounds i true) (a.put d v) w):lZ P md ops Q k C D (fuel+1) b a w:=by
 subst m;simp only [zt,bne_iff_ne,ne_eq,zj] at e;exact aLz j e.1 (zp p) l (Or.inl (λ_ c=>c)) fuel b a w (zg j n) (by simpa using o) q g (λ_=>e.2) (c (g.set _))
def mW(P:Program)(md:Region.Mode)(ops:Array Oper)(Q:Exit->Act->World->Prop)(k:Nat)(C D:World->Prop)(fuel:Nat)(b:Array Bool)(a:Act)(w:World)(rs:List Nat):Prop:=
 ∀i∈rs,wpOp P ops Q i (λd c=>kD k C D (b.setIfInBounds i true) c/\lZ P md ops Q k C D fuel (b.setIfInBounds i true) d c) a w
theorem mW.nil{c:Array Bool}:mW P md ops Q k C D fuel c a w []:=λ_ b=>by cases b
theorem mW.cons{fuel:Nat}{c:Array Bool}{a:Act}{w:World}{i:Nat}{o:Oper}{rs:List Nat}(g:ops[i]?=some o)
  (d:∀b:Act->World->Prop,Shut (∀a w,kD k C D (c.setIfInBounds i true) w->lZ P md ops Q k C D fuel (c.setIfInBounds i true) a w->b a w)->if Region.wanted o (yielded ops a.tmps)=true then Oper.wp P o a w b Q else b (a.put o.dst undef) w)
  (l:mW P md ops Q k C D fuel c a w rs):mW P md ops Q k C D fuel c a w (i::rs):=λj hj=>by
 rcases List.mem_cons.1 hj with rfl|hj
 ·exact wpOp_step g (λb hK=>d b (λa w e f=>hK a w ⟨e,f⟩))
 ·exact l j hj
theorem aEz{rs:List Nat}{b:Array Bool}(c:zz md ops b=rs)(f:rs≠[])
 (d:mW P md ops Q k C D fuel b a w rs):lZ P md ops Q k C D (fuel+1) b a w:=⟨λe=>absurd (c▸e) f,c▸d⟩
theorem fX(i:Nat){fuel:Nat}{b:Array Bool}{a:Act}{w:World}{c:Oper}(g:zz md ops b=[i])(f:ops[i]?=some c)
 (e:∀d:Act->World->Prop,Shut (∀a w,kD k C D (b.setIfInBounds i true) w->lZ P md ops Q k C D fuel (b.setIfInBounds i true) a w->d a w)->if Region.wanted c (yielded ops a.tmps)=true then Oper.wp P c a w d Q else d (a.put c.dst undef) w):lZ P md ops Q k C D (fuel+1) b a w:=aEz g (by simp) (mW.cons f e mW.nil)
theorem aF0{d:Array Bool}(c:zz md ops d=[])(b:Q .normal a w):∀fuel,lZ P md ops Q k C D fuel d a w
 |0=>⟨c,b⟩
 |_+1=>⟨λ_=>b,by rw [c];simp⟩
theorem aZw{f:Nat}(k:Nat)(C D:World->Prop)(e:P.follows .mixedOrders=true)(c:C w.drew)(d:D w.drew)
  (b:kD k C D (zb ops.size false) w.drew->lZ P .any ops Q k C D ops.size (zb ops.size false) a w.drew):(Code.region f ops true).wp P Q a w:=
 wp_region_any e (aLy _ _ _ _ (b ⟨λ_=>c,d⟩))
end
end
