import Derived.Test.YtbpiopdphigodaaGreatDoorXSr4P
import Derived.Test.YtbpiopdphigodaaGreatDoorXSr5P
import Derived.Test.YtbpiopdphigodaaGreatDoorPClauseP
open Array renaming getElem?_eq_some_iff→zz
open List renaming mem_cons_of_mem→zy,nodup_cons→zx,mem_append→zu,length_take→zs
open Nat renaming le_refl→zw,le_trans→zv
open Or renaming inl→zq,inr→zp
namespace Go.Proofs.YtbpiopdphigodaaGreatDoor
open Go.RowKit Go.Shelf Go.WideMaps
set_option maxHeartbeats 8000000
set_option maxRecDepth 100000
variable{b:Bool}{L:List Cd}{ks:List Nat}{B n:Nat}{v vk vs:Value}{w:World}
def xJ(a:Cd)(f c b d e:Nat):Prop:=a.r=f/\a.a=c/\a.b=b/\a.i=d/\a.j=e
def sF(c:List (aK×Value))(ks:List Nat):Prop:=∀n (d:n<ks.length),∀a∈fG c ks[n] (ks.take (n+1)),a.2=0/\(cZ a.1.c=true\/jK a.1.c=true)
inductive dK(lim:Nat)(Q:Nat->List (aK×Value)->List Nat->Bool->Prop):List Cd->Nat->List (aK×Value)->List Nat->Bool->Prop
 |sat {L:List Cd} {n:Nat} {T:List (aK×Value)} {ks:List Nat} (hcv:∀x∈L,∀k∈ks,lM (aP T k) x.c) (h:kF (λc=>ks.any λk=>cH (aP T k) c) L.length L=none) (hq:Q 2 T ks false):dK lim Q L n T ks false
 |big {L:List Cd} {n:Nat} {T:List (aK×Value)} {ks:List Nat} (hcv:∀x∈L,∀k∈ks,lM (aP T k) x.c) (h:kF (λc=>ks.any λk=>cH (aP T k) c) L.length L=none) (hF:∀n (h:n<ks.length),∀y∈fG T ks[n] (ks.take (n+1)),oB y.1.c) (hq2:sF T ks->Q 2 T ks true) (hq3:¬sF T ks->Q 3 T ks true):dK lim Q L n T ks true
 |unsat {L L':List Cd} {n:Nat} {T:List (aK×Value)} {ks:List Nat} {b:Bool} {x:Cd} (s:aK) (hs:xJ x s.r s.a s.b s.i s.j/\x.c=s.c) (hcv:∀x∈L,∀k∈ks,lM (aP T k) x.c) (h:kF (λc=>ks.any λk=>cH (aP T k) c) L.length L=some (x,L')) (hc:s.c=[]) (hq:Q 1 (T++[(s,.slice x.ad x.ln x.cp)]) ks b):dK lim Q L n T ks b
 |out {L L':List Cd} {n:Nat} {T:List (aK×Value)} {ks:List Nat} {b:Bool} {x:Cd} (hcv:∀x∈L,∀k∈ks,lM (aP T k) x.c) (h:kF (λc=>ks.any λk=>cH (aP T k) c) L.length L=some (x,L')) (hc:x.c≠[]) (hl:T.length=lim) (hq:Q 3 T ks b):dK lim Q L n T ks b
 |take {L L':List Cd} {n:Nat} {T:List (aK×Value)} {ks:List Nat} {b:Bool} {x:Cd} (s:aK) (hs:xJ x s.r s.a s.b s.i s.j/\x.c=s.c) (hcv:∀x∈L,∀k∈ks,lM (aP T k) x.c) (h:kF (λc=>ks.any λk=>cH (aP T k) c) L.length L=some (x,L')) (hc:s.c≠[]) (hl:T.length≠lim) (hdv:∀k∈ks,lM s.c (aP T k))
  (hF:∀y∈fG (T++[(s,.slice x.ad x.ln x.cp)]) T.length (dI T ks s.c),oB y.1.c/\(y.2=0->cZ y.1.c=true->bK y.1.c=true))
  (hLF:L'.length+(fG (T++[(s,.slice x.ad x.ln x.cp)]) T.length (dI T ks s.c)).length<=1000000) (hnF:n+(fG (T++[(s,.slice x.ad x.ln x.cp)]) T.length (dI T ks s.c)).length<=1000000)
  (next:∀L2 n2 b2,bX (fG (T++[(s,.slice x.ad x.ln x.cp)]) T.length (dI T ks s.c)) L' n b L2 n2 b2->dK lim Q L2 n2 (T++[(s,.slice x.ad x.ln x.cp)]) (dI T ks s.c) b2):dK lim Q L n T ks b
theorem bX.mem:∀(e:List (aK×Int)) {L i:List Cd} {n k:Nat} {b j:Bool},bX e L n b i k j->∀d∈i,d∈L\/∃x∈e,x.2=0/\cZ x.1.c=true/\d.c=x.1.c
 |[],L,i,n,k,b,j,c,d,hy=>by
  obtain ⟨rfl,rfl,rfl⟩:=c;exact zq hy
 |x::e,L,i,n,k,b,j,c,d,hy=>by
  unfold bX at c;split at c
  ·rcases bX.mem e c d hy with a|⟨g,a,f⟩
   ·exact zq a
   ·exact zp ⟨g,zy _ a,f⟩
  ·rename_i l;have o:x.2=0:=Classical.byContradiction λm=>l (zq m)
   have p:cZ x.1.c=true:=by
    cases hf:cZ x.1.c
    ·exact absurd (zp hf) l
    ·rfl
   split at c
   ·rcases bX.mem e c d hy with a|⟨g,a,f⟩
    ·exact zq a
    ·exact zp ⟨g,zy _ a,f⟩
   ·obtain ⟨q,r,c⟩:=c;rcases bX.mem e c d hy with a|⟨g,a,f⟩
    ·rcases zu.1 (aDz _ _ _ _ a) with h3|h3
     ·exact zq h3
     ·simp at h3;subst h3;exact zp ⟨x,by simp,o,p,rfl⟩
    ·exact zp ⟨g,zy _ a,f⟩
theorem aE3{g:List Lt->Bool}:∀(f:Nat) {L c:List Cd} {a:Cd},kF g f L=some (a,c)->a∈L/\(∀d∈c,d∈L)/\g a.c=false
 |0,L,c,a,h=>by cases h
 |f+1,[],c,a,h=>by cases h
 |f+1,z::r,c,a,h=>by
  unfold kF at h;simp only at h;split at h
  ·obtain ⟨i,j,k⟩:=aE3 f h;exact ⟨xI i,λd e=>xI (j d e),k⟩
  ·rename_i l;cases h;exact ⟨by simp,λd e=>xI e,by simpa using l⟩
theorem aZk{d:List (aK×Value)}{e:List Lt}(f:∀a∈ks,a<d.length)(g:aK×Value):∀a∈dI d ks e,a<(d++[g]).length:=λa c=>by
 simp [dI] at c;simp;rcases c with ⟨c,_⟩|rfl
 ·have:=f a c;omega
 ·omega
theorem aZl(a:List (aK×Value))(ks:List Nat)(c:List Lt):(dI a ks c).length<=ks.length+1:=by have:=List.length_filter_le (λd=>!cH c (aP a d)) ks;simp [dI];exact this
structure aA6(L:List Cd)(n:Nat)(T:List (aK×Value))(ks:List Nat):Prop where
 l:∀x∈L,bK x.c=true
 t:∀p∈T,bK p.1.c=true
 k:∀k∈ks,k<T.length
 kl:ks.length<=T.length
 ll:L.length<=1000000
 nn:n<=1000000
theorem aA6.take{e j:List Cd}{l:Nat}{d:List (aK×Value)}{m:Bool}{i:Cd}{o:List Lt->Bool}{f:Nat}(a:aA6 L n d ks)(c:aK)(v:Value)(A:i.c=c.c)(z:kF o f L=some (i,e)){F:List (aK×Int)}(x:∀y∈F,oB y.1.c/\(y.2=0->cZ y.1.c=true->bK y.1.c=true))(E:e.length+F.length<=1000000)(H:n+F.length<=1000000)(k:bX F e n b j l m):aA6 j l (d++[(c,v)]) (dI d ks c.c):=by
 obtain ⟨q,r,_⟩:=aE3 _ z;have G:=k.len;refine ⟨λy C=>?_,λp hp=>?_,aZk a.k _,?_,by omega,by omega⟩
 ·rcases k.mem _ y C with g|⟨D,g,s,t,u⟩
  ·exact a.l y (r y g)
  ·rw [u];exact (x D g).2 s t
 ·rcases zu.1 hp with hp|hp
  ·exact a.t p hp
  ·simp at hp;subst hp;show bK c.c=true;rw [<-A];exact a.l i q
 ·have:=aZl d ks c.c;have:=a.kl;simp;omega
section
set_option linter.unusedSimpArgs false
attribute [local go_sem] Oper.semAt_some
theorem bN.rowsW{g:Option Addr}{i:Nat}{e:List Lt}(j:bN B w (.slice g n i) e)(z:oB e):∃a:List (Lt×Value),a.map Prod.fst=e/\n=a.length/\a.length<=i/\(∀d (j:d<a.length),∃f,g=some ⟨f,0,none⟩/\w.cell? ⟨f,d*2,none⟩=some (.bool a[d].1.1)/\w.cell? ⟨f,d*2+1,none⟩=some a[d].2)/\∀l∈a,kI w l.2 l.1.2:=by
 obtain ⟨q,o,p,C,_⟩:=j;obtain ⟨D,s,c,x⟩:=sJ p;simp at c;obtain ⟨rfl,rfl,rfl⟩:=c;refine ⟨q,o,rfl,?_,x,λm k=>?_⟩
 ·obtain ⟨_,⟨c,F⟩|⟨G,s,E,c,_,_,I,_⟩⟩:=p
  ·omega
  ·simp at c;omega
 ·obtain ⟨H,u⟩:=z.nodes m.1 (by rw [<-o];simp;exact ⟨_,k⟩);obtain ⟨r,t,c,A⟩:=tR (C m k) (by omega) (λd y=>by have:=u d y;omega);exact ⟨r,t,c,A⟩
theorem aZm(B:Nat)(c:Option Addr)(d:Nat)(a:List Lt)(w:World)(i:bN B w (.slice c a.length d) a)(e:oB a):Calls Tryz.prog 70 #[.slice c a.length d] w λg p=>g=.returned (.bool (jK a))/\aB w p:=by
 obtain ⟨f,j,k,l,m,o⟩:=i.rowsW e;have:=aBr c d f w (by have:=e.len;omega) l m o;rw [<-k,j] at this;exact this
theorem aE4{o:Fence}{n:Nat}{f:Program}{i:Func}{m:Array Value}{g:Ending->World->Prop}{N:Nat}{I:World->Prop}(k:OwnFrom N (λ(_:Unit) W=>I W))(l:∀w,I w->∃v,(results i m).run f w=.ok v w/\g (.returned v) w):∀(a:List Nat) (w:World),I w->(∀D∈a,N<=D/\w.heap[D]?=some (.deferred (some [])))->a.Nodup->LeavesInM o n f i m g (a.map λD=>{target:=.collected D,args:=#[]}) .returning w
 |[],w,h,_,_=>by
  obtain ⟨v,d,c⟩:=l w h;exact ⟨v,d,c⟩
 |D::a,w,h,hd,hn=>by
  obtain ⟨d,c⟩:=hd D (by simp);refine ⟨by simp,.inl ⟨D,_,rfl,run_takeDeferred c,?_⟩⟩;refine aE4 k l a _ (k.putObj (s:=()) _ h d c rfl) (λe j=>?_) (zx.1 hn).2;have t:e≠D:=λp=>(zx.1 hn).1 (by rw [<-p];exact j)
  obtain ⟨q,r⟩:=hd e (by simp [j]);exact ⟨q,(World.putObj_heap_other t).trans r⟩
structure oD(B sb hp:Nat)(v vs vk:Value)(L:List Cd)(n:Nat)(T:List (aK×Value))(ks:List Nat)(w W:World)(b:Bool):Prop where
 sr:bI B W sb hp v vs vk L n T ks true
 box:Boxed W w.heap.size 4 (.bool b)
 bel:aB w W
theorem oD.kept{g f:Nat}{d:List (aK×Value)}{W e:World}(a:oD B g f v vs vk L n d ks w W b)(c:aB W e):oD B g f v vs vk L n d ks w e b:=
 ⟨a.sr.below c,(bR (S:=[]) c).boxed a.box (by simp),a.bel.trans (c.mono a.bel.size)⟩
theorem oD.own{β:Type}{p l:Nat}{g:List (aK×Value)}{N:Nat}(k:w.heap.size<=N):OwnFrom N (λ(_:β) W=>oD B p l v vs vk L n g ks w W b):=λ_ i j q a d f=>by
 have e:cK [] i j:=cK.grown d (λo c=>(f o c).2);exact ⟨a.sr.kps e,e.boxed a.box (by simp),a.bel.grown d a.bel.size (λm c=>zv k (f m c).1)⟩
theorem oD.set{o m:Nat}{i:List (aK×Value)}{a:World}(e:oD B o m v vs vk L n i ks w a b)(d:Bool):(Boxed (a.setCell ⟨w.heap.size,0,none⟩ (.bool d)) w.heap.size 4 (.bool d)/\aB w (a.setCell ⟨w.heap.size,0,none⟩ (.bool d)))/\∀c:Nat,a.heap[c]?=some (Obj.deferred (some []))->(a.setCell ⟨w.heap.size,0,none⟩ (.bool d)).heap[c]?=some (Obj.deferred (some [])):=by
 have l:=(zz.1 e.box).1;refine ⟨⟨?_,e.bel.grown (cJ a ⟨w.heap.size,0,none⟩ _) e.bel.size (λj f=>by cases f;exact zw _)⟩,λc g=>?_⟩
 ·show (a.heap.modify w.heap.size _)[w.heap.size]?=_;rw [Array.getElem?_eq_getElem (by rw [Array.size_modify];exact l),Array.getElem_modify_self,(zz.1 e.box).2];rfl
 ·exact ((cJ a ⟨w.heap.size,0,none⟩ (.bool d)).block c (zz.1 g).1 (λf=>by
   have k:c=w.heap.size:=Option.some.inj f;have:=e.box;unfold Boxed at this;rw [<-k,g] at this;cases this)).trans g
theorem aZn(B d X:Nat)(v vs vk:Value)(L:List Cd)(n:Nat)(f:List (aK×Value))(ks:List Nat)(w:World)(h:bI B w d X v vs vk L n f ks true)(m2:B<=w.heap.size)(g3:∀b6∈f,bK b6.1.c=true)(i0:∀i∈ks,i<f.length)(o3:ks.length<=1000)(g2:∀n (h:n<ks.length),∀k∈fG f ks[n] (ks.take (n+1)),oB k.1.c):Calls Tryz.prog 44 #[.pointer (some ⟨d,0,none⟩)] w λe D=>∃b,e=.returned (.bool b)/\(b=true↔sF f ks)/\aB w D:=by
 obtain ⟨O,P,rfl⟩:=aY h.st.row;obtain ⟨b5,q,rfl⟩:=h.kp.shape;obtain ⟨b8,n2,d6,k2⟩ : ∃b8,w.alloc (.cells #[.bool false] 4)=b8/\aB w b8/\Boxed b8 w.heap.size 4 (.bool false):=⟨_,rfl,(Below.refl _ w).alloc (zw _) _,World.alloc_heap_new w _⟩;have d4:oD B d X v (.slice O f.length P) (.slice b5 ks.length q) L n f ks w b8 false:=⟨h.below d6,k2,d6⟩;obtain ⟨_,_,_,c1,l4⟩:=d4.sr.cells;have f3:=aA d4;have l2:=aA g3;have f5:=aA i0;have k9:=aA g2;clear h d4 k2 d6 g3 i0 g2;refine (callsIn_wide (n:=8)).1 ?_;refine callsIn_of_wp_marks Tryz.func44 rfl trivial ?_;simp only [Tryz.ntmps44,List.size_toArray,List.length_cons,List.length_nil,Nat.reduceAdd,Nat.reduceSub,Array.replicate_succ,Array.replicate_zero,List.push_toArray,List.append_toArray,List.nil_append,List.cons_append];refine wpIn_wide.2 ?_;go_wp2;clear n2;refine (wpIn_wide (n:=8)).1 ?_;refine wpIn_loop (λU D=>∃(a:Nat) (y:List Nat) (j5 k1 i3 i4 i5 i6 i7 i8 i9 j0 j1 j2 j3 j4 j6 j7 j8 j9 k0 e5:Value),U = {tmps:=#[.pointer (some ⟨d,0,none⟩),undef,.pointer (some ⟨w.heap.size,0,none⟩),j5,k1,undef,undef,.pointer (some ⟨d,0,none⟩),.pointer (some ⟨d,0,none⟩),.pointer (some ⟨d,4,none⟩),.bool true,.bool false,.pointer (some ⟨d,0,none⟩),.pointer (some ⟨d,0,none⟩),.pointer (some ⟨d,3,none⟩),.slice b5 ks.length q,.int .i64 ks.length,.int .i64 a,i3,i4,i5,i6,i7,i8,i9,j0,j1,j2,j3,j4,j6,j7,j8,j9,k0,undef,undef,undef,undef,undef,undef,undef,undef,undef,undef,undef,undef,undef,undef,undef,undef,e5],defers:=y.map λc=>{target:=.collected c,args:=#[]}}/\a<=ks.length/\(∀C (h:C<ks.length),C<a->∀k∈fG f ks[C] (ks.take (C+1)),k.2=0/\(cZ k.1.c=true\/jK k.1.c=true))/\oD B d X v (.slice O f.length P) (.slice b5 ks.length q) L n f ks w D false/\(∀c∈y,w.heap.size<=c/\D.heap[c]?=some (.deferred (some [])))/\y.Nodup)
  (λU _=>ks.length-(intOf (U.tmps.getD 17 undef)).toNat) ?start ?round
 case start=>exact ⟨0,[],_,_,_,_,_,_,_,_,_,_,_,_,_,_,_,_,_,_,_,_,rfl,Nat.zero_le _,λC h n6=>by omega,f3.o,λc hD=>by simp at hD,by simp⟩
 case round=>
  clear f3 c1 l4;rintro _ D ⟨a,y,j5,k1,i3,i4,i5,i6,i7,i8,i9,j0,j1,j2,j3,j4,j6,j7,j8,j9,k0,e5,rfl,o6,c3,hI,c6,e1⟩;by_cases b3:a<ks.length
  ·have m6:(a:Int)<(ks.length:Int):=by omega
   obtain ⟨i,c5⟩ : ∃i,ks[a]=i:=⟨_,rfl⟩;have m5:i<f.length:=f5.o i (by rw [<-c5];exact List.getElem_mem b3);obtain ⟨j,rfl,o2,n7,h5⟩ : ∃j,b5=some ⟨j,0,none⟩/\D.cell? ⟨j,a,none⟩=some (.int .i64 i)/\a+1<=q/\dQ B D (.slice (some ⟨j,0,none⟩) (a+1) q) (ks.take (a+1)):=by
    have b2:=hI.sr.kp;obtain ⟨j,e⟩ : ∃j,b5=some ⟨j,0,none⟩:=by
     obtain ⟨_,⟨_,e⟩|⟨j,l5,l6,e,_⟩⟩:=b2
     ·omega
     ·simp at e;exact ⟨j,e.1⟩
    rw [e] at b2;have o:=b2;obtain ⟨_,⟨_,g0⟩|⟨n5,l5,l6,g0,_,_,o1,_⟩⟩:=o
    ·omega
    ·refine ⟨j,e,?_,by simp at g0;omega,?_⟩
     ·rw [b2.cellAt a (by simpa using b3)];simp [b3,c5]
     ·have:=aGg b2 (m:=a+1) (by omega);unfold dQ;rw [zs,Nat.min_eq_left (by omega),List.map_take];exact this
   obtain ⟨_,_,f9,c1,_⟩:=hI.sr.cells;have d1:=aA hI;have c0:=aA c6;have k5:=aA c3;clear hI c6 c3;have e6:=aA (λ(b9:World) (e3:∃V,b9=D.drewN V)=>(aK3 B O (some ⟨j,0,none⟩) f.length (a+1) P q f i (ks.take (a+1)) b9 (by obtain ⟨V,rfl⟩:=e3;exact d1.o.sr.st.kept (S:=[]) (bR (aQ ⟨V,rfl⟩)) (by simp) (by simp) (by simp)) (by obtain ⟨V,rfl⟩:=e3;exact bF h5 (aQ ⟨V,rfl⟩) (zw _))).mono (R':=λe l=>∃H E G,e=.returned (.func (.func 100) #[] #[.pointer (some ⟨H,0,none⟩),.pointer (some ⟨E,0,none⟩),.pointer (some ⟨G,0,none⟩)])/\pV B l H E G (.slice O f.length P) (.slice (some ⟨j,0,none⟩) (a+1) q) f i (ks.take (a+1))/\aB D l) (λe l Z=>by
    obtain ⟨V,rfl⟩:=e3;obtain ⟨H,E,G,o,p,a8⟩:=Z;exact ⟨H,E,G,o,p,(aQ ⟨V,rfl⟩).trans a8⟩))
   have n1:(a:Int)+1<=(q:Int):=by omega
   have n0:(0:Int)<=(a:Int)+1:=by omega
   have o7:(a:Int)<=1000:=by omega
   have i1:IntKind.i64.wrap ((a:Int)+1)=(a:Int)+1:=by rw [IntKind.wrap_i64];omega
   clear h5;refine wpIn_wide.2 ?_;go_upto_region 6 with (fail);refine rV ?_;go_region_held3 (λb9=>b9.cell? ⟨d,2,none⟩=some (.slice O f.length P)/\b9.cell? ⟨d,3,none⟩=some (.slice (some ⟨j,0,none⟩) ks.length q)) (go_keep)
    (first
     |(refine zF (by rfl) 74 _ _ (by rfl) (enters_of Tryz.func74 (by kernel_rfl) rfl) _ (by rfl) (aC e6 _ ⟨1,rfl⟩) ?_;rintro e l ⟨H,E,G,rfl,h3,c2⟩;refine ⟨_,rfl,?_⟩;have l7:=aD c2 f9;have l8:=aD c2 c1;have f1:=aA h3;have e8:=aA c2;clear h3 c2))
   refine pP ?_;go_wp2_with fail;have h4:=f1.o;have d5:=d1.o.kept e8.o;have a1:∀c∈y,l.heap[c]?=some (.deferred (some [])):=λc hD=>(e8.o.block c (zz.1 (c0.o c hD).2).1).trans (c0.o c hD).2
   have b4:w.heap.size<=l.heap.size:=d5.bel.size;have g4:∀b6∈f,jS b6.1.c:=λb6 X=>kL (l2.o b6 X)
   have h9:∀b∈ks.take (a+1),b<f.length:=λb t=>f5.o b (List.mem_of_mem_take t)
   have h8:(ks.take (a+1)).length<=1000000:=by rw [zs];omega
   clear f1 d1 e6 f9 c1 l7 l8;have h7:∀a2 a3,rO Fence.wide (8-1) Tryz.prog 100 #[.pointer (some ⟨H,0,none⟩),.pointer (some ⟨E,0,none⟩),.pointer (some ⟨G,0,none⟩)] (qU B) bO (fG f i (ks.take (a+1))) ((l.alloc a2).alloc a3):=by intro a2 a3;have g7:aB l ((l.alloc a2).alloc a3):=((Below.refl l.heap.size l).alloc (zw _) a2).alloc (by simp) a3;have c4:=h4.kept (bR (S:=bO) g7);have g1:B<=((l.alloc a2).alloc a3).heap.size:=zv (zv m2 b4) g7.size;generalize (l.alloc a2).alloc a3=wy at c4 g1 ⊢;exact aKa (8-1) H E G B _ _ _ i _ (by omega) g4 m5 h9 h8 wy g1 c4
   refine (wpIn_wide (n:=8)).1 ?_;refine vU (F:=Fence.wide) (n:=8) (w:=l) rfl (by omega) (gf:=100) (lb:=#[.pointer (some ⟨H,0,none⟩),.pointer (some ⟨E,0,none⟩),.pointer (some ⟨G,0,none⟩)]) rfl trivial (enters_of Tryz.func100 (by kernel_rfl) rfl)
    (Enc:=qU B) (S:=bO) (L:=fG f i (ks.take (a+1)))
    ?hseq
    (λm l3 M h=>by obtain ⟨z,A,rfl,_⟩:=h;rfl)
    (λs M=>(∀k∈(fG f i (ks.take (a+1))).take s,k.2=0/\(cZ k.1.c=true\/jK k.1.c=true))/\oD B d X v (.slice O f.length P) (.slice (some ⟨j,0,none⟩) ks.length q) L n f ks w M false/\∀c∈y,M.heap[c]?=some (.deferred (some [])))
    (λd2 _ M=>d2=.ret/\¬sF f ks/\(Boxed M w.heap.size 4 (.bool false)/\aB w M)/\∀c∈y,M.heap[c]?=some (.deferred (some []))) ?hI ?hIx ⟨by simp,d5,a1⟩
    (λm U T=>∃a6 z A,U = {tmps:=#[.pointer (some ⟨d,0,none⟩),undef,.pointer (some ⟨w.heap.size,0,none⟩),.int .i64 a,.int .i64 i,.pointer (some ⟨a6,0,none⟩),.int .i64 m.2,.pointer (some ⟨d,0,none⟩),.pointer (some ⟨d,0,none⟩),.pointer (some ⟨d,4,none⟩),.bool true,.bool false,.pointer (some ⟨d,0,none⟩),.pointer (some ⟨d,0,none⟩),.pointer (some ⟨d,3,none⟩),.slice (some ⟨j,0,none⟩) ks.length q,.int .i64 ks.length,.int .i64 a,.bool true,.int .i64 a,.pointer (some ⟨j,a,none⟩),.int .i64 i,.pointer (some ⟨d,0,none⟩),.pointer (some ⟨d,0,none⟩),.pointer (some ⟨d,2,none⟩),.slice O f.length P,.int .i64 i,.pointer (some ⟨d,0,none⟩),.pointer (some ⟨d,0,none⟩),.pointer (some ⟨d,3,none⟩),.slice (some ⟨j,0,none⟩) ks.length q,.int .i64 a,.int .i64 ((a:Int)+1),.slice (some ⟨j,0,none⟩) (a+1) q,.func (.func 100) #[] #[.pointer (some ⟨H,0,none⟩),.pointer (some ⟨E,0,none⟩),.pointer (some ⟨G,0,none⟩)],.agg #[.int .i64 m.1.r,.int .i64 m.1.a,.int .i64 m.1.b,.int .i64 m.1.i,.int .i64 m.1.j,.slice z m.1.c.length A],.int .i64 m.2,undef,undef,undef,undef,undef,undef,undef,undef,undef,undef,undef,undef,undef,undef,e5],defers:=[]}/\qX B T a6 m.1 z A) ?hAx ?assign ?body ?done ?stop
   case hseq=>exact h7
   case hI=>
    rintro s a4 a5 c8 ⟨o,p,a8⟩ u x;exact ⟨o,oD.own (β:=Unit) b4 () a4 a5 c8 p u x,zU a1 u x a8⟩
   case hIx=>
    rintro d2 s a4 a5 c8 ⟨o,p,⟨a8,W⟩,d3⟩ u x;exact ⟨o,p,⟨(cK.grown (S:=[]) u (λb7 e=>(x b7 e).2)).boxed a8 (by simp),W.grown u W.size (λs e=>zv b4 (x s e).1)⟩,zU a1 u x d3⟩
   case hAx=>
    intro m U;refine sC ?_;rintro _ a4 a5 ⟨a6,z,A,o,p⟩ i;exact ⟨a6,z,A,o,p.kept i⟩
   case assign=>
    rintro e4 s m l3 r K c7 ⟨a9,Y,R⟩ ⟨z,A,rfl,g8⟩ hK;have d0:=aA g8;have l0:=aA a9;have l1:=aA Y;have f4:=aA R;clear g8 a9 Y R;gi_wp2
    have b0:aB r (r.alloc (.cells #[.int .i64 m.1.r,.int .i64 m.1.a,.int .i64 m.1.b,.int .i64 m.1.i,.int .i64 m.1.j,.slice z m.1.c.length A] 77)):=(Below.refl _ r).alloc (zw _) _;exact hK _ _ (Mv.of_below (S:=[]) (B:=0) b0).keepsFrom (bR b0) ⟨l0.o,l1.o.kept b0,λc hD=>(b0.block c (zz.1 (f4.o c hD)).1).trans (f4.o c hD)⟩ ⟨r.heap.size,z,A,rfl,World.alloc_heap_new r _,d0.o.below b0⟩
   case stop=>
    rintro d2 s f8 ⟨rfl,m9,m4,m7⟩ hK;gi_wp2
    refine aE4 (N:=w.heap.size) (I:=λT=>Boxed T w.heap.size 4 (.bool false)/\aB w T) ?_ ?_ (l.heap.size::y) f8 m4 (λc hD=>?_) (zx.2 ⟨λh=>?_,e1⟩)
    ·rintro _ a4 a5 c8 ⟨o,p⟩ u x;exact ⟨(cK.grown (S:=[]) u (λb7 e=>(x b7 e).2)).boxed o (by simp),p.grown u p.size (λs e=>(x s e).1)⟩
    ·rintro M ⟨o,p⟩;have d8:=o.cell;exact ⟨.bool false,by simp [results,Tryz.results44,go_sem,d8],false,rfl,⟨λh=>Bool.noConfusion h,λh=>absurd h m9⟩,p⟩
    ·rcases List.mem_cons.1 hD with rfl|hD
     ·exact ⟨b4,hK⟩
     ·exact ⟨(c0.o c hD).1,m7 c hD⟩
    ·have:=(zz.1 (a1 _ h)).1;omega
   case done=>
    rintro f8 ⟨h0,h1,h2⟩ hK;have g9:(a:Int)+1=((a+1:Nat):Int):=rfl;have k4:=aA g9;have k6:=aA h0;have k7:=aA h1;have k8:=aA h2;clear g9 i1 h0 h1 h2 n1 n0;gi_wp2
    go_wp2;refine ⟨⟨a+1,l.heap.size::y,.int .i64 a,.int .i64 i,.bool true,.int .i64 a,.pointer (some ⟨j,a,none⟩),.int .i64 i,.pointer (some ⟨d,0,none⟩),.pointer (some ⟨d,0,none⟩),.pointer (some ⟨d,2,none⟩),.slice O f.length P,.int .i64 i,.pointer (some ⟨d,0,none⟩),.pointer (some ⟨d,0,none⟩),.pointer (some ⟨d,3,none⟩),.slice (some ⟨j,0,none⟩) ks.length q,.int .i64 a,.int .i64 ((a:Int)+1),.slice (some ⟨j,0,none⟩) (a+1) q,.func (.func 100) #[] #[.pointer (some ⟨H,0,none⟩),.pointer (some ⟨E,0,none⟩),.pointer (some ⟨G,0,none⟩)],.int .i64 ((a:Int)+1),?_,by omega,?_,k7.o,λc hD=>?_,zx.2 ⟨λh=>?_,e1⟩⟩,?_⟩
    ·rw [<-k4.o];rfl
    ·intro C a0 o5 k hy;by_cases m8:C<a
     ·exact k5.o C a0 m8 k hy
     ·obtain rfl:C=a:=by omega
      rw [c5] at hy;exact k6.o k (by rw [List.take_length];exact hy)
    ·rcases List.mem_cons.1 hD with rfl|hD
     ·exact ⟨b4,hK⟩
     ·exact ⟨(c0.o c hD).1,k8.o c hD⟩
    ·have:=(zz.1 (a1 _ h)).1;omega
    ·simp [intOf];omega
   case body=>
    rintro e4 s ⟨Q,e⟩ U r o4 c7 ⟨a9,Y,R⟩ ⟨a6,z,A,rfl,b1⟩;have e0:(Q,e)∈fG f ks[a] (ks.take (a+1)):=by rw [c5];exact List.mem_of_getElem? c7
    have e2:=k9.o a b3 _ e0;obtain ⟨_,_,_,_,_,i2⟩:=b1.cells;have h6:∀g,aB r g->(e=0/\(cZ Q.c=true\/jK Q.c=true))->KeepsFrom l.heap.size r g/\cK bO r g/\((∀k∈(fG f i (ks.take (a+1))).take (s+1),k.2=0/\(cZ k.1.c=true\/jK k.1.c=true))/\oD B d X v (.slice O f.length P) (.slice (some ⟨j,0,none⟩) ks.length q) L n f ks w g false/\∀c∈y,g.heap[c]?=some (.deferred (some []))):=by
     intro g t d9;refine ⟨(Mv.of_below (S:=[]) (B:=0) t).keepsFrom,bR t,?_,Y.kept t,λc hD=>(t.block c (zz.1 (R c hD)).1).trans (R c hD)⟩;rw [oZ c7];intro k hy;rcases zu.1 hy with hy|hy
     ·exact a9 k hy
     ·simp at hy;subst hy;exact d9
    have g6:∀g,aB r g->¬(e=0/\(cZ Q.c=true\/jK Q.c=true))->g.cell? ⟨w.heap.size,0,none⟩=some (.bool false)/\g.frozen? ⟨w.heap.size,0,none⟩=false/\KeepsFrom l.heap.size r (g.setCell ⟨w.heap.size,0,none⟩ (.bool false))/\(¬sF f ks/\(Boxed (g.setCell ⟨w.heap.size,0,none⟩ (.bool false)) w.heap.size 4 (.bool false)/\aB w (g.setCell ⟨w.heap.size,0,none⟩ (.bool false)))/\∀c∈y,(g.setCell ⟨w.heap.size,0,none⟩ (.bool false)).heap[c]?=some (.deferred (some []))):=by intro g t d9;have W:=Y.kept t;obtain ⟨d3,m1⟩:=W.set false;have a0:Mv [4] 0 r (g.setCell ⟨w.heap.size,0,none⟩ (.bool false)):=(Mv.of_below t).trans (Mv.of_grown (cJ g ⟨w.heap.size,0,none⟩ _) (λi c4=>by cases c4;exact ⟨Nat.zero_le _,_,_,W.box,by simp⟩));exact ⟨W.box.cell,by simp [World.frozen?,show g.heap[w.heap.size]?=_ from W.box],a0.keepsFrom,λm3=>d9 (m3 a b3 _ e0),d3,λc hD=>m1 c ((t.block c (zz.1 (R c hD)).1).trans (R c hD))⟩
    have e7:=aA (uG z A Q.c r (b1.2.wide e2));have k3:=aA (λg (t:aB r g)=>aZm B z A Q.c g (b1.2.below t) e2);have f2:=aA h6;have f0:=aA g6;clear h6 g6 a9 Y R b1 e2 e0 c7 h4 d5 a1 g4 h9 h8 h7 i1;by_cases Z:e=0
    ·subst Z;gi_wp2
     refine ⟨trivial,(CallsIn.inRound e4 (callsIn_wide.2 (aC e7))).mono ?_⟩;rintro e g ⟨rfl,d7⟩;have n3:=aD d7 i2;have c9:=aA d7;clear d7 i2 e7;cases hfl:cZ Q.c
     ·gi_wp2
      refine ⟨trivial,(CallsIn.inRound e4 (callsIn_wide.2 (aC k3 g c9.o))).mono ?_⟩;rintro e f7 ⟨rfl,g5⟩;have e9:=aA (aZ c9.o g5);clear g5 n3;cases hid:jK Q.c
      ·obtain ⟨l9,m0,a7⟩:=f0.o f7 e9.o (λh=>by rcases h.2 with h|h;rw [hfl] at h;cases h;rw [hid] at h;cases h);have J:=aA a7;clear a7;gi_wp2
       exact ⟨J.o.1,rfl,J.o.2⟩
      ·have J:=aA (f2.o f7 e9.o ⟨by first|exact rfl|trivial,zp hid⟩);gi_wp2
       exact J.o
     ·have J:=aA (f2.o g c9.o ⟨by first|exact rfl|trivial,zq hfl⟩);gi_wp2
      refine ⟨trivial,?_⟩;gi_wp2
      exact J.o
    ·have n8:(e==0)=false:=by simpa using Z
     have n9:(e != 0)=true:=by simpa using Z
     obtain ⟨l9,m0,a7⟩:=f0.o r (Below.refl _ _) (λh=>Z h.1);have J:=aA a7;clear a7;gi_wp2
     refine ⟨trivial,?_⟩;gi_wp2
     all_goals try (rename_i n4 o8;exact absurd n4 (λh=>by unfold undef at h;cases h))
     refine ⟨trivial,?_⟩;gi_wp2
     exact ⟨J.o.1,rfl,J.o.2⟩
  ·have m6:¬(a:Int)<(ks.length:Int):=by omega
   obtain rfl:a=ks.length:=by omega
   have b1:=hI.box.cell;have o0:D.frozen? ⟨w.heap.size,0,none⟩=false:=by simp [World.frozen?,show D.heap[w.heap.size]?=_ from hI.box]
   have f6:=aA (hI.set true);have d0:aI (sF f ks):=aA λC a0 k hy=>c3 C a0 a0 k hy
   clear hI c3;gi_wp2
   go_wp2;refine aE4 (N:=w.heap.size) (I:=λT=>Boxed T w.heap.size 4 (.bool true)/\aB w T) ?_ ?_ y _ f6.o.1 ?_ e1
   ·rintro _ a4 a5 c8 ⟨o,p⟩ u x;exact ⟨(cK.grown (S:=[]) u (λb7 e=>(x b7 e).2)).boxed o (by simp),p.grown u p.size (λs e=>(x s e).1)⟩
   ·rintro M ⟨o,p⟩;have d8:=o.cell;exact ⟨.bool true,by simp [results,Tryz.results44,go_sem,d8],true,rfl,⟨λ_=>d0.o,λ_=>rfl⟩,p⟩
   ·exact λc hD=>⟨(c6 c hD).1,f6.o.2 c (c6 c hD).2⟩
end
