import Derived.Test.YtcldkjcpofjmhaaGreatDoorXSr3M
open Bool renaming noConfusion→zx
open List renaming getElem?_eq_getElem→zw,mem_of_getElem?→zt,getElem_of_mem→zq,getElem_mem→zp
open Nat renaming le_refl→zz
open Prod renaming snd→zy,fst→zu
namespace Go.Proofs.YtcldkjcpofjmhaaGreatDoor
open _root_.Go.Proofs.Tryz renaming prog→zr
open World renaming ownsRow_nil→zv,alloc_heap_new→zs
set_option maxHeartbeats 4000000
set_option maxRecDepth 100000
section
open Go.RowKit Go.WideMaps
theorem wT.none{l:List Pl}{r:Int}(h:wT l r)(hb:∀i h,¬nH l i h):r=-1:=by
 rcases h with ⟨rfl,_⟩ | ⟨i,hi,h,_⟩
 ·rfl
 ·exact absurd h (hb i hi)
theorem aKq{s:ByteArray}{out:List (List Lt)}{at' er:Int}(h:tF s out at' er)(hs:s.size<=3000){st:bB}{cs:List (Nat×List Lt)}(hp:wV s=.ok (st,cs))(hb:∀i h,¬nH st.places i h)(hc:∀i h,¬oE cs i h):out=cs.map (λp=>aR p.2)/\at'=0/\er=0:=by
 rcases h with ⟨h1,_⟩ | ⟨_,h⟩
 ·omega
 ·rw [hp] at h;obtain ⟨r,h1,h2⟩:=h;have:=h1.none hb;subst this;rcases h2 with ⟨h0,_⟩ | ⟨_,h3⟩
  ·omega
  ·rcases h3 with ⟨i,hi,hbad,_⟩ | ⟨_,rfl,rfl,rfl⟩
   ·exact absurd hbad (hc i hi)
   ·exact ⟨rfl,rfl,rfl⟩
def pN:Nd:=(⟨#[112]⟩,0)
theorem aXp:wV ⟨#[112,46,32,126,112,46]⟩=.ok (⟨5,[],[(⟨#[112]⟩,true,0,0),(⟨#[112]⟩,true,0,4)]⟩,[(0,[(false,[pN])]),(3,[(true,[pN])])]):=by kernel_rfl
def cP:List Lt:=[(false,[pN])]
def fA:List Lt:=[(true,[pN])]
theorem aKr{out:List (List Lt)}{at' er:Int}(h:tF ⟨#[112,46,32,126,112,46]⟩ out at' er):out=[cP,fA]/\at'=0/\er=0:=by
 have:=aKq h (by decide) aXp (λi h=>by
  match i,h with
  | 0,_=>simp [nH]
  | 1,_=>
   simp only [nH,wS];rintro (h | ⟨k,hk,h1,h2⟩)
   ·exact absurd h (by simp)
   ·obtain rfl:k=0:=by omega
    simp at h2) (λi h=>by
  match i,h with
  | 0,_=>simp only [oE];exact not_or.2 ⟨by omega,λh=>zx (h.symm.trans (show dL (aR _)=true by kernel_rfl))⟩
  | 1,_=>simp only [oE];exact not_or.2 ⟨by omega,λh=>zx (h.symm.trans (show dL (aR _)=true by kernel_rfl))⟩)
 rw [show [cP,fA]=[(0,[(false,[pN])]),(3,[(true,[pN])])].map (λp:Nat×List Lt=>aR p.2) by kernel_rfl];exact this
def pL:List Nd:=[(⟨#[112]⟩,1),(⟨#[97]⟩,0)]
def pM:List Nd:=[(⟨#[112]⟩,1),(⟨#[]⟩,0)]
theorem aXq:wV ⟨#[112,40,97,41,46,32,126,112,40,88,41,46]⟩=.ok (⟨11,[⟨#[88]⟩],[(⟨#[112]⟩,true,1,0),(⟨#[97]⟩,false,0,2),(⟨#[112]⟩,true,1,7)]⟩,[(0,[(false,pL)]),(6,[(true,pM)])]):=by kernel_rfl
theorem aXr{out:List (List Lt)}{at' er:Int}(h:tF ⟨#[112,40,97,41,46,32,126,112,40,88,41,46]⟩ out at' er):out=[[(false,pL)],[(true,pM)]]/\at'=0/\er=0:=by
 have:=aKq h (by decide) aXq (λi h=>by
  match i,h with
  | 0,_=>simp [nH]
  | 1,_=>
   simp only [nH,wS];rintro (h | ⟨k,hk,h1,h2⟩)
   ·exact absurd h (by simp)
   ·obtain rfl:k=0:=by omega
    simp at h1
  | 2,_=>
   simp only [nH,wS];rintro (h | ⟨k,hk,h1,h2⟩)
   ·exact absurd h (by simp)
   ·match k,hk with
    | 0,_=>simp at h2
    | 1,_=>simp at h1) (λi h=>by
  match i,h with
  | 0,_=>simp only [oE];exact not_or.2 ⟨by omega,λh=>zx (h.symm.trans (show dL (aR _)=true by kernel_rfl))⟩
  | 1,_=>simp only [oE];exact not_or.2 ⟨by omega,λh=>zx (h.symm.trans (show dL (aR _)=true by kernel_rfl))⟩)
 rw [show [[(false,pL)],[(true,pM)]]=[(0,[(false,pL)]),(6,[(true,pM)])].map (λp:Nat×List Lt=>aR p.2) by kernel_rfl];exact this
end
section
open Go.RowKit Go.Shelf Go.WideMaps
theorem aXs{R:Nat->Nat->Prop}(hr:∀i,R i i)(hs:∀i j,R i j->R j i)(ht:∀i j k,R i j->R j k->R i k):∃rep:Nat->Nat,∀p q,rep p=rep q↔R p q:=by
 refine ⟨λp=>Classical.epsilon (R p),λp q=>⟨λh=>?_,λh=>?_⟩⟩
 ·have h1:R p (Classical.epsilon (R p)):=Classical.epsilon_spec ⟨p,hr p⟩;have h2:R q (Classical.epsilon (R q)):=Classical.epsilon_spec ⟨q,hr q⟩;have h:Classical.epsilon (R p)=Classical.epsilon (R q):=h;rw [h] at h1;exact ht _ _ _ h1 (hs _ _ h2)
 ·have:R p=R q:=funext λk=>propext ⟨λhk=>ht _ _ _ (hs _ _ h) hk,λhk=>ht _ _ _ h hk⟩
  show Classical.epsilon (R p)=Classical.epsilon (R q);rw [this]
theorem aKs(M:List Tg)(a b:Nat):∃rep:Nat->Nat,∀p q,rep p=rep q↔dT M a b p q:=
 aXs (λi=>Cl.refl i) (λ_ _ h=>Cl.symm h) (λ_ _ _ h k=>Cl.trans h k)
def xQ(n:Nd):Prop:=aF n=false/\bK n=0
theorem aXt{n:Nd}(hn:xQ n)(o1 o2:Int)(rest:List (Int×Lt))(hr:∀r∈rest,∃m,r.2.2=[m]/\xQ m)(hc:aK (aR (rest.map zy))<=500):gI [(o1,n),(o2,n)] 0 1 rest (aR (rest.map zy)) true 0:=by
 have hall:∀x∈[(o1,n),(o2,n)]++aG rest,xQ x.2:=by
  intro x hx;rcases List.mem_append.1 hx with hx | hx
  ·simp at hx;rcases hx with rfl | rfl <;> exact hn
  ·obtain ⟨r,hr1,hr2⟩:=List.mem_flatMap.1 hx;obtain ⟨m,e,hm⟩:=hr r hr1;rw [e] at hr2;simp at hr2;subst hr2;exact hm
 obtain ⟨M,hM⟩ : ∃M,[(o1,n),(o2,n)]++aG rest=M:=⟨_,rfl⟩;have hch:∀i,(aD (M.map zy)).ch i=[]:=by
  intro i;unfold aD;simp only;cases hi:(M.map zy)[i]? with
  | none=>rfl
  | some m=>
   simp only;have hm:m∈M.map zy:=zt hi;obtain ⟨x,hx,rfl⟩:=List.mem_map.1 hm;rw [<-hM] at hx;rw [(hall x hx).2];rfl
 have hrt:∀i,aY M i=i:=by
  intro i;cases hi:M[i]? with
  | none=>exact pG (List.getElem?_eq_none_iff.1 hi)
  | some x=>exact nP hi (hall x (by rw [hM];exact zt hi)).1
 have hlab:∀i j,dT M 0 1 i j->(aD (M.map zy)).lab i=(aD (M.map zy)).lab j:=by
  intro i j h;induction h with
  | refl=>rfl
  | base h=>
   rcases h with h | ⟨rfl,rfl⟩
   ·rw [hrt,hrt] at h;rw [h]
   ·unfold aD;rw [<-hM];rfl
  | symm _ ih=>exact ih.symm
  | trans _ _ ih1 ih2=>exact ih1.trans ih2
  | down _ _ _ h=>rw [hch] at h;simp at h
 obtain ⟨rep,hrep⟩:=aKs M 0 1;refine Or.inr ⟨⟨λi j h _ _=>?_,λp _=>⟨p,λj _ _ q hq=>?_⟩⟩,rep,rest.map (λr=>r.2.2),?_,?_,Or.inr ⟨?_,?_,rfl,rfl⟩⟩
 ·rw [hM] at h ⊢;exact hlab i j h
 ·rw [hM,hch] at hq;cases hq
 ·rw [hM];exact hrep
 ·rw [hM];have key:∀(rs:List (Int×Lt)) (pre:List Tg),pre++aG rs=M->(∀r∈rs,∃m,r.2.2=[m]/\xQ m)->aN (λp l=>aQ (aD (M.map zy)) (dT M 0 1) rep [p] l) (bJ pre.length rs) (rs.map (λr=>r.2.2)):=by
   intro rs;induction rs with
   | nil=>intro _ _ _;exact aN.nil
   | cons r rs ih=>
    intro pre hp hrr;obtain ⟨m,e,hm⟩:=hrr r (by simp);have hput:aG (r :: rs)=(r.1,m) :: aG rs:=by simp [aG,e]
    rw [hput] at hp;have hat:(M.map zy)[pre.length]?=some m:=by rw [<-hp];simp
    refine aN.cons ?_ ?_
    ·show aQ _ _ _ _ r.2.2;rw [e];have hl:(aD (M.map zy)).lab pre.length=m:=by unfold aD;simp only [hat,Option.getD_some]
     have:=aQ.name (G:=aD (M.map zy)) (R:=dT M 0 1) (rep:=rep) (i:=pre.length) (j:=pre.length) (r:=[]) (l:=[]) (Cl.refl _) (by unfold Gr.named;rw [hl];exact hm.1) (by rw [hch];exact aQ.nil);rwa [hl] at this
    ·have:=ih (pre++[(r.1,m)]) (by rw [<-hp];simp) (λr' h'=>hrr r' (by simp [h']));simpa [e] using this
  exact key rest [(o1,n),(o2,n)] hM hr
 ·have:cK rest (rest.map λr=>r.2.2)=rest.map zy:=by
   unfold cK;clear hall hM hch hrt hlab hrep hr hc;induction rest with
   | nil=>rfl
   | cons r rs ih=>simp at ih ⊢;exact ih
  rw [this];exact hc
 ·have:cK rest (rest.map λr=>r.2.2)=rest.map zy:=by
   unfold cK;clear hall hM hch hrt hlab hrep hr hc;induction rest with
   | nil=>rfl
   | cons r rs ih=>simp at ih ⊢;exact ih
  rw [this]
def iC:List Tg:=aM 0 pL++aM 1 pM
theorem aXu:gI (aM 0 pL++aM 1 pM) 0 2 [] [] true 0:=by
 have c0:(aD (iC.map zy)).ch 0=[1]:=by kernel_rfl
 have c1:(aD (iC.map zy)).ch 1=[]:=by kernel_rfl
 have c2:(aD (iC.map zy)).ch 2=[3]:=by kernel_rfl
 have c3:(aD (iC.map zy)).ch 3=[]:=by kernel_rfl
 have c4:∀i,(aD (iC.map zy)).ch (i+4)=[]:=λi=>rfl
 have hch:∀i k p:Nat,((aD (iC.map zy)).ch i)[k]?=some p->(i=0\/i=2)/\(p=1\/p=3):=by
  intro i k p h;match i with
  | 0=>
   rw [c0] at h;cases k with
   | zero=>simp at h;omega
   | succ k=>simp at h
  | 1=>rw [c1] at h;simp at h
  | 2=>
   rw [c2] at h;cases k with
   | zero=>simp at h;omega
   | succ k=>simp at h
  | 3=>rw [c3] at h;simp at h
  | i+4=>rw [c4] at h;simp at h
 have r0:aY iC 0=0:=by kernel_rfl
 have r1:aY iC 1=1:=by kernel_rfl
 have r2:aY iC 2=2:=by kernel_rfl
 have r3:aY iC 3=3:=by kernel_rfl
 have hrt:∀i,aY iC i=i:=λi=>by
  match i with
  | 0=>exact r0
  | 1=>exact r1
  | 2=>exact r2
  | 3=>exact r3
  | i+4=>rfl
 have hcl:∀i j,dT iC 0 2 i j->i=j\/(i<4/\j<4/\i % 2=j % 2):=by
  intro i j h;induction h with
  | refl=>exact Or.inl rfl
  | base h=>
   rcases h with h | ⟨rfl,rfl⟩
   ·rw [hrt,hrt] at h;exact Or.inl h
   ·exact Or.inr (by omega)
  | symm _ ih=>omega
  | trans _ _ ih1 ih2=>omega
  | down _ _ _ h1 h2=>
   obtain ⟨_,h3⟩:=hch _ _ _ h1;obtain ⟨_,h4⟩:=hch _ _ _ h2;omega
 have n3:¬(aD (iC.map zy)).named 3:=λh=>zx (h.symm.trans (show aF ((aD (iC.map zy)).lab 3)=true by kernel_rfl))
 have l02:(aD (iC.map zy)).lab 0=(aD (iC.map zy)).lab 2:=by kernel_rfl
 have e13:∀i,i=1\/i=3->bF (aD (iC.map zy)) (dT iC 0 2) i:=λi hi=>⟨i,λj hj _ q hq=>by
  obtain ⟨k,hk,e⟩:=zq hq;have:=hch j k q (by rw [zw hk,e]);have:=hcl _ _ hj;omega⟩
 obtain ⟨rep,hrep⟩:=aKs iC 0 2;have hM:aM 0 pL++aM 1 pM++aG []=iC:=by simp [aG,iC]
 refine Or.inr ⟨⟨λi j h hi hj=>?_,λp _=>⟨p,λj _ _ q hq=>?_⟩⟩,rep,[],?_,aN.nil,Or.inr ⟨by simp [cK,aK];decide,rfl,rfl,rfl⟩⟩
 ·rw [hM] at h hi hj ⊢;rcases hcl _ _ h with rfl | h
  ·rfl
  ·have hi4:i=0\/i=1\/i=2\/i=3:=by omega
   have hj4:j=0\/j=1\/j=2\/j=3:=by omega
   rcases hi4 with rfl | rfl | rfl | rfl <;> rcases hj4 with rfl | rfl | rfl | rfl <;> first | rfl | exact l02 | exact l02.symm | exact absurd hj n3 | exact absurd hi n3 | omega
 ·rw [hM] at hq ⊢;obtain ⟨k,hk,e⟩:=zq hq;exact e13 q (hch j k q (by rw [zw hk,e])).2
 ·rw [hM];exact hrep
theorem aXv(B:Nat)(w:World)(hB:B<=w.heap.size) :
  Calls zr 61 #[.func (.func 62) #[] #[]] w λe w'=>e=.returned (.pointer (some ⟨w.heap.size,0,none⟩))/\bX B w' w.heap.size (.slice none 0 0) []/\Below w.heap.size w w':=by
 go_enter Tryz.func61,Tryz.ntmps61;go_wp2;go_ret;exact ⟨rfl,⟨zs w _,zv _ _ _ _,hB⟩,(Below.refl _ w).alloc (zz _) _⟩
theorem aXw(B sb hp:Nat)(v vs vk:Value)(L:List Cd)(n:Nat)(T:List (aL×Value))(ks:List Nat)(w:World)(h:bH B w sb hp v vs vk L n T ks false) :
  Calls zr 65 #[.pointer (some ⟨sb,0,none⟩)] w λe w'=>e=.returned (.bool true)/\Below w.heap.size w w':=by
 obtain ⟨_,_,_,_,c4⟩:=h.cells;have c4a:=λX=>Below.at' ((Below.refl w.heap.size w).alloc (zz _) X) (zz _) c4
 clear h;go_enter Tryz.func65,Tryz.ntmps65;go_wp2;go_returns;exact ⟨rfl,(Below.refl _ w).alloc (zz _) _⟩
theorem aXx(B sb hp:Nat)(v vk:Value)(L:List Cd)(n:Nat)(T:List (aL×Value))(ks:List Nat)(big:Bool)(va:Option Addr)(tn vc:Nat)(w:World)(h:bH B w sb hp v (.slice va tn vc) vk L n T ks big)(hb:1<=tn)(ht:tn<=1000000) :
  Calls zr 39 #[.pointer (some ⟨sb,0,none⟩),.int .i64 1] w λe w'=>e=.returned (.agg #[.int .i64 1,.slice va tn vc,.slice none 0 0,.int .i64 ((tn-1:Nat):Int),.bool big])/\Below w.heap.size w w':=by
 obtain ⟨_,_,c2,_,c4⟩:=h.cells;have c2a:=λX=>Below.at' ((Below.refl w.heap.size w).alloc (zz _) X) (zz _) c2
 have c4a:=λX=>Below.at' ((Below.refl w.heap.size w).alloc (zz _) X) (zz _) c4
 have hww:IntKind.i64.wrap ((tn:Int)-1)=(tn:Int)-1:=by rw [IntKind.wrap_i64];omega
 clear h;go_enter Tryz.func39,Tryz.ntmps39;go_wp2_with fail;go_region_held3 (λw'=>w'.cell? ⟨sb,2,none⟩=some (.slice va tn vc)/\w'.cell? ⟨sb,4,none⟩=some (.bool big)) (go_keep) (fail);all_goals
  go_wp2_with fail;go_returns;refine ⟨by rw [show ((tn-1:Nat):Int)=(tn:Int)-1 by omega],?_⟩;exact (((Below.refl _ w).alloc (zz _) _).alloc (by simp) _).trans (Below.mono (aJ ⟨1,rfl⟩) (by simp;omega))
theorem aXy(B sb hp:Nat)(v:Value)(L:List Cd)(n:Nat)(T:List (aL×Value))(ks:List Nat)(big:Bool)(va ka:Option Addr)(tn vc kn kc:Nat)(w:World)(h:bH B w sb hp v (.slice va tn vc) (.slice ka kn kc) L n T ks big) :
  Calls zr 39 #[.pointer (some ⟨sb,0,none⟩),.int .i64 2] w λe w'=>e=.returned (.agg #[.int .i64 2,.slice va tn vc,.slice ka kn kc,.int .i64 tn,.bool big])/\Below w.heap.size w w':=by
 obtain ⟨_,_,c2,c3,c4⟩:=h.cells;have c2a:=λX=>Below.at' ((Below.refl w.heap.size w).alloc (zz _) X) (zz _) c2
 have c3a:=λX=>Below.at' ((Below.refl w.heap.size w).alloc (zz _) X) (zz _) c3
 have c4a:=λX=>Below.at' ((Below.refl w.heap.size w).alloc (zz _) X) (zz _) c4
 clear h;go_enter Tryz.func39,Tryz.ntmps39;go_wp2_with fail;go_region_held3 (λw'=>w'.cell? ⟨sb,2,none⟩=some (.slice va tn vc)/\w'.cell? ⟨sb,3,none⟩=some (.slice ka kn kc)/\w'.cell? ⟨sb,4,none⟩=some (.bool big)) (go_keep) (fail);all_goals
  go_wp2_with fail;go_returns;refine ⟨rfl,?_⟩;exact (((Below.refl _ w).alloc (zz _) _).alloc (by simp) _).trans (Below.mono (aJ ⟨1,rfl⟩) (by simp;omega))
structure pO(B:Nat)(w:World)(v:Value)(P:List (List Lt×Value)):Prop where
 row:w.ownsRow B 22 1 v P.length (P.map zy)
 cl:∀p∈P,bM B w p.2 p.1
theorem pO.kps{S:List TypeId}{B:Nat}{w w':World}{v:Value}{P:List (List Lt×Value)}(h:pO B w v P)(k:dC S w w')(h1:22∉S)(h2:39∉S)(h3:36∉S):pO B w' v P:=
 ⟨k.row h.row h1,λp hp=>k.clause (h.cl p hp) h2 h3⟩
theorem pO.cell{B:Nat}{w:World}{v:Value}{P:List (List Lt×Value)}(h:pO B w v P){k:Nat}(hk:k<P.length):∃g cap ad cp,v=.slice (some ⟨g,0,none⟩) P.length cap/\P[k].2=.slice ad P[k].1.length cp/\w.cell? ⟨g,k,none⟩=some (.slice ad P[k].1.length cp)/\bM B w (.slice ad P[k].1.length cp) P[k].1:=by
 have hc:=h.cl P[k] (zp hk);obtain ⟨ad,cp,e⟩:=hc.shape;obtain ⟨h1,⟨_,e1⟩ | ⟨g,cap,cur,rfl,hb,hh,hr⟩⟩:=h.row
 ·omega
 ·refine ⟨g,cap,ad,cp,rfl,e,?_,by rw [<-e];exact hc⟩;rw [h.row.cellAt k (by omega),List.getElem?_map,zw hk,<-e];rfl
def lH(P:List (List Lt)):List (aL×Int):=P.mapIdx λa c=>(⟨1,a,0,0,0,c⟩,0)
theorem aXz(P:List (List Lt))(k:Nat)(hk:k<P.length):(lH P).take (k+1)=(lH P).take k++[(⟨1,k,0,0,0,P[k]⟩,0)]:=by rw [List.take_add_one];simp [lH,hk]
def vJ(B:Nat)(w0:World)(sb hp:Nat)(P:List (List Lt))(k:Nat)(W:World):Prop:=
 ∃v' L' n',bH B W sb hp v' (.slice none 0 0) (.slice none 0 0) L' n' [] [] false/\bW ((lH P).take k) [] 0 false L' n' false/\Mv bS B w0 W
def aY0(B:Nat)(w0:World)(P:List (List Lt))(e:Ending)(W:World):Prop:=
 ∃sb hp,e=.returned (.pointer (some ⟨sb,0,none⟩))/\vJ B w0 sb hp P P.length W
theorem aY1(B:Nat)(v:Value)(P:List (List Lt×Value))(w:World)(h:pO B w v P)(hi:∀p∈P,dB p.1=true)(hl:P.length<=1000)(hB:B<=w.heap.size) :
  Calls zr 38 #[v] w λe w'=>aY0 B w (P.map zu) e w':=by
 obtain ⟨va,vc,rfl⟩:=aS h.row;have CN:=aA (aXv B w hB);have HH:=aA h;have HI:=aA hi;clear h hi;go_enter Tryz.func38,Tryz.ntmps38;go_wp2_with (first
  | (go_at_call 61;refine (aB CN).mono ?_;rintro e w1 ⟨rfl,hp1,hb1⟩;have HP1:=aA hp1;have HB1:=aA hb1;clear hp1 hb1)
  | go_in)
 have hb2:Below w1.heap.size w1 (w1.alloc (.cells #[.pointer (some ⟨w.heap.size,0,none⟩),.int .i64 0,.slice none 0 0,.slice none 0 0,.bool false] 119)):=(Below.refl _ w1).alloc (zz _) _;have hS0:bH B (w1.alloc (.cells #[.pointer (some ⟨w.heap.size,0,none⟩),.int .i64 0,.slice none 0 0,.slice none 0 0,.bool false] 119)) w1.heap.size w.heap.size (.slice none 0 0) (.slice none 0 0) (.slice none 0 0) [] 0 [] [] false:=
  ⟨zs w1 _,HP1.out.below hb2,⟨zv _ _ _ _,λp hp=>by simp at hp⟩,zv _ _ _ _,λx hx=>by simp at hx,Nat.le_trans hB HB1.out.size⟩
 have hm0:Mv bS B w (w1.alloc (.cells #[.pointer (some ⟨w.heap.size,0,none⟩),.int .i64 0,.slice none 0 0,.slice none 0 0,.bool false] 119)):=(Mv.of_below HB1.out).trans (Mv.of_below hb2);have H0:Hid (vJ B w w1.heap.size w.heap.size (P.map zu) 0 (w1.alloc (.cells #[.pointer (some ⟨w.heap.size,0,none⟩),.int .i64 0,.slice none 0 0,.slice none 0 0,.bool false] 119))):=aA ⟨_,_,_,hS0,by simp [bW],hm0⟩;clear hS0 hm0 hb2 CN HP1;go_loopw [11] (λi wr=>∃k:Nat,i=.int .i64 k/\k<=P.length/\vJ B w w1.heap.size w.heap.size (P.map zu) k wr) (λi _=>P.length-(intOf i).toNat);case atStart=>exact ⟨0,rfl,Nat.zero_le _,H0.out⟩
 case round=>
  obtain ⟨k,rfl,hk,v',L',n',hS,hTk,hM⟩:=hrel;by_cases hlt:k<P.length
  ·obtain ⟨g,cap,ad,cp,hv,_,hcell,hcm⟩:=(HH.out.kps hM.kps (by decide) (by decide) (by decide)).cell hlt;simp at hv;obtain ⟨rfl,rfl⟩:=hv;have hic:=HI.out _ (zp hlt);have hn:=oY hic;have hfit:dL P[k].1=true:=by
    simp only [dB,Bool.and_eq_true] at hic;exact hic.1.1
   have hll:=bW.len _ hTk;have hkF:((lH (P.map zu)).take k).length<=k:=List.length_take_le _ _;simp at hll;have hki:(k:Int)<(P.length:Int):=by omega
   have hgt:=aXz (P.map zu) k (by simpa using hlt);simp only [List.getElem_map] at hgt;have hBr:B<=wr.heap.size:=Nat.le_trans hB hM.size;have HNX:Hid (∀v2 L2 n2 w2,bH B w2 w1.heap.size w.heap.size v2 (.slice none 0 0) (.slice none 0 0) L2 n2 [] [] false->bW [(⟨1,k,0,0,0,P[k].1⟩,0)] L' n' false L2 n2 false->Mv bS B wr w2->vJ B w w1.heap.size w.heap.size (P.map zu) (k+1) w2):=aA λv2 L2 n2 w2 x1 x2 x3=>⟨v2,L2,n2,x1,by rw [hgt];exact bW.snoc _ hTk x2,hM.trans x3⟩
   cases hid:pJ P[k].1
   ·have CW:=aA (aL0 B w1.heap.size w.heap.size v' _ _ L' n' [] [] false ⟨1,k,0,0,0,P[k].1⟩ ad cp wr hS hcm hn hid (by omega) (by omega) hBr);have HT:Hid (bW [(⟨1,k,0,0,0,P[k].1⟩,0)] L' n' false (eZ L'.length (L'++[iD ⟨1,k,0,0,0,P[k].1⟩ ad cp n']) L'.length) (n'+1) false):=aA (by
     unfold bW;rw [if_neg (by simp [hfit]),if_neg (by simp [hid])];exact ⟨ad,cp,rfl,rfl,rfl⟩)
    unfold oR at CW;simp only at CW;clear hS hcm hn hic hfit hll hkF hgt hM hTk H0;generalize P[k].1.length=cl at *;go_wp2_with (first
     | (go_at_call 63;refine (aB CW).mono ?_;rintro e w5 ⟨⟨u,rfl⟩,v5,hS5,hm5⟩;have G:=aA (HNX.out _ _ _ _ hS5 HT.out hm5);clear hS5 hm5)
     | go_in)
    go_roundw;case rel=>exact ⟨k+1,by go_num,by omega,G.out⟩
    case measure=>simp [intOf];omega
   ·have CW:=aA (aKz B w1.heap.size ⟨1,k,0,0,0,P[k].1⟩ ad cp wr hcm hn hid);have HT:Hid (bW [(⟨1,k,0,0,0,P[k].1⟩,0)] L' n' false L' n' false):=aA (by
     unfold bW;rw [if_neg (by simp [hfit]),if_pos hid];exact ⟨rfl,rfl,rfl⟩)
    have HS:=aA hS;unfold oR at CW;simp only at CW;clear hS hcm hn hic hfit hll hkF hgt hM hTk H0;generalize P[k].1.length=cl at *;go_wp2_with (first
     | (go_at_call 63;refine (aB CW).mono ?_;rintro e w5 ⟨⟨u,rfl⟩,hb5⟩;have G:=aA (HNX.out _ _ _ _ (HS.out.below hb5) HT.out (Mv.of_below hb5));clear hb5)
     | go_in)
    go_roundw;case rel=>exact ⟨k+1,by go_num,by omega,G.out⟩
    case measure=>simp [intOf];omega
  ·obtain rfl:k=P.length:=by omega
   have HF:Hid (vJ B w w1.heap.size w.heap.size (P.map zu) P.length wr):=aA ⟨_,_,_,hS,hTk,hM⟩;clear hS hTk hM;go_wp2;go_ret;exact ⟨_,_,rfl,by simpa using HF.out⟩
end
end Go.Proofs.YtcldkjcpofjmhaaGreatDoor
