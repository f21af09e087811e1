import Derived.Test.YtcldkjcpofjmhaaGreatDoorUWrF
open List renaming zipWith→zy
open Prod renaming snd→zz
namespace Go.Proofs.YtcldkjcpofjmhaaGreatDoor
set_option maxRecDepth 100000
section
open Go.RowKit
def sU(T:Tb)(a b:Nat)(rs:List Nat)(ns:List Bool)(out:List Lt)(yes:Bool)(e:Int):Prop:=
 (¬(dW (aV T) (Cl (aV T) (iO T a b))/\∀i,i<T.length->bD (aV T) (Cl (aV T) (iO T a b)) i)/\out=[]/\yes=false/\e=0)\/
 ((dW (aV T) (Cl (aV T) (iO T a b))/\∀i,i<T.length->bD (aV T) (Cl (aV T) (iO T a b)) i)/\∃(rd:Nat->Nat) (ls:List (List Nd)),(∀p q,rd p=rd q↔Cl (aV T) (iO T a b) p q)/\aM (λr l=>aL (aV T) (Cl (aV T) (iO T a b)) rd [r] l) rs ls/\
  ((500<aK (aR (zy Prod.mk ns ls))/\out=[]/\yes=false/\e=4)\/(aK (aR (zy Prod.mk ns ls))<=500/\out=aR (zy Prod.mk ns ls)/\yes=true/\e=0)))
theorem aKf:∀(rest:List (Int×Lt)) (ls:List (List Nd)),cM rest ls=zy Prod.mk (rest.map λr=>r.2.1) ls
 | [],_=>rfl
 | _ :: _,[]=>rfl
 | r :: rs,l :: ls=>by
  have:=aKf rs ls;simp [cM] at this ⊢;exact this
theorem vX:∀(rest:List (Int×Lt)) (n:Nat),(∀r∈rest,0<r.2.2.length)->∀p∈bN n rest,n<=p/\p<n+(aJ rest).length
 | [],n,_,p,hp=>by simp [bN] at hp
 | r :: rs,n,h,p,hp=>by
  have h0:=h r (by simp);have hl:(aJ (r :: rs)).length=r.2.2.length+(aJ rs).length:=by simp [aJ]
  rw [hl];simp only [bN,List.mem_cons] at hp;rcases hp with rfl | hp
  ·omega
  ·have:=vX rs _ (λx hx=>h x (by simp [hx])) p hp;omega
theorem aXj{M0:List Tg}{rest:List (Int×Lt)}{a b:Nat}{R:List Rw}{g:Nat->Nat}{T:Tb}(h:Rows (M0++aJ rest) R g)(hT:T.map Prod.fst=R)(hok:gS T)(ha:a<(M0++aJ rest).length)(hb:b<(M0++aJ rest).length)(hne:∀r∈rest,0<r.2.2.length)
  {out:List Lt} {yes:Bool} {e:Int} (hm:sU T (g a) (g b) ((bN M0.length rest).map g) (rest.map λr=>r.2.1) out yes e):eY M0 a b rest out yes e:=by
 obtain ⟨M,hM⟩ : ∃M,M0++aJ rest=M:=⟨_,rfl⟩;rw [hM] at h ha hb;have hL:=h.laid hT ha hb;have hTl:T.length=R.length:=by rw [<-hT];simp
 have hfl:∀p,p<M.length->lQ M R g p=g p:=λp hp=>if_pos hp
 have hsame:oT M a b↔(dW (aV T) (Cl (aV T) (iO T (g a) (g b)))/\∀i,i<T.length->bD (aV T) (Cl (aV T) (iO T (g a) (g b))) i):=by
  constructor
  ·rintro ⟨c1,c2⟩;refine ⟨hL.clash.1 c1,λi hi=>?_⟩;obtain ⟨p,hp,rfl⟩:=h.onto i (by omega);rw [<-hfl p hp];exact hL.ends_to (c2 p hp)
  ·rintro ⟨c1,c2⟩;exact ⟨hL.clash.2 c1,λp hp=>hL.ends_from (c2 (g p) (by have:=h.lt hp;omega)) p (hfl p hp)⟩
 unfold eY;rw [hM];rcases hm with ⟨n2,rfl,rfl,rfl⟩ | ⟨n2,rd,ls,d1,d2,d3⟩
 ·exact Or.inl ⟨λhh=>n2 (hsame.1 hh),rfl,rfl,rfl⟩
 ·have n1:=hsame.2 n2;have hrp:∀p q,rd (lQ M R g p)=rd (lQ M R g q)↔bK M a b p q:=λp q=>(d1 _ _).trans ⟨λc=>hL.from c,λc=>hL.to c⟩
  have hpl:=vX rest M0.length hne;have hMl:M.length=M0.length+(aJ rest).length:=by rw [<-hM];simp
  have key:∀(ps:List Nat) (ls:List (List Nd)),(∀p∈ps,p<M.length)->aM (λr l=>aL (aV T) (Cl (aV T) (iO T (g a) (g b))) rd [r] l) (ps.map g) ls->∃ms,aM (λp m=>aL (aC (M.map zz)) (bK M a b) (λp=>rd (lQ M R g p)) [p] m) ps ms/\aM (λm l=>aM (kQ λx y=>∃p,x=(rd (lQ M R g p):Int)/\y=(rd (lQ M R g p):Int)) m l) ms ls:=by
   intro ps;induction ps with
   | nil=>
    intro ls _ hh;cases hh;exact ⟨[],aM.nil,aM.nil⟩
   | cons p ps ih=>
    intro ls hps hh;cases hh with
    | cons x hx=>
     obtain ⟨ms,i1,i2⟩:=ih _ (λq hq=>hps q (by simp [hq])) hx;have hp:=hps p (by simp);obtain ⟨m,hm⟩:=(n1.2 p hp).exp (rep:=λp=>rd (lQ M R g p));obtain ⟨m2,k1,k2⟩:=hL.exp (rd:=rd) hm;simp only [List.map_cons,List.map_nil,hfl p hp] at k1;have e2:=k1.one (Cl.isDown _ _) n2.1 hok.arity (λi j hij=>(d1 i j).2 hij) _ x;subst e2;exact ⟨m :: ms,aM.cons hm i1,aM.cons k2 i2⟩
  obtain ⟨ms,k1,k2⟩:=key (bN M0.length rest) ls (λp hp=>by have:=hpl p hp;omega) d2;have ho:=aDh (hL.pairs hrp d1) (aAb rest k2);rw [aKf rest ls] at ho;rw [<-ho] at d3;exact Or.inr ⟨n1,λp=>rd (lQ M R g p),ms,hrp,k1,d3⟩
theorem xV(L N:List (Int×Lt)):aJ (L++N)=aJ L++aJ N:=by simp [aJ]
theorem uJ(r:Int×Lt)(L:List (Int×Lt)):aJ (r :: L)=aO r.1 r.2.2++aJ L:=by simp [aJ,aO]
theorem aAh:∀(L N:List (Int×Lt)) (n:Nat),bN n (L++N)=bN n L++bN (n+(aJ L).length) N
 | [],N,n=>by simp [bN,aJ]
 | r :: L,N,n=>by
  simp only [List.cons_append,bN];rw [aAh L N,uJ];simp [aO,Nat.add_assoc]
theorem vY:∀(L:List (Int×Lt)) (n:Nat),bN n L=(bN 0 L).map (n + ·)
 | [],n=>rfl
 | r :: L,n=>by
  simp only [bN,List.map_cons,Nat.add_zero,Nat.zero_add];rw [vY L (n+r.2.2.length),vY L r.2.2.length,List.map_map];congr 1
  apply List.map_congr_left;intro z _;simp [Nat.add_assoc]
theorem aKg{L:List (Int×Lt)}(h:∀r∈L,aW r.2.2 1=true):dE ((aJ L).map zz):=by
 induction L with
 | nil=>intro i n hi;simp [aJ] at hi
 | cons r L ih=>
  rw [uJ,List.map_append,tA];exact (qZ (h r (by simp))).append (ih λx hx=>h x (by simp [hx]))
section
variable {C1 C2 D1 D2:List (Int×Lt)}{rc rd:Int×Lt}{R:List Rw}{g:Nat->Nat}
end
end
section
open Go.RowKit Go.Shelf Go.WideMaps
theorem aKh{B tb mp:Nat}{ox oy:Int}{x y:List Nd}{w:World}(h:kI B tb mp (aO ox x++aO oy y) w)(hx:aW x 1=true)(hy:aW y 1=true)(hs:∀t∈aO ox x++aO oy y,t.2.1.size<=140737488355328)(hl:(aO ox x++aO oy y).length<=1000000) :
  Calls Tryz.prog 58 #[.pointer (some ⟨tb,0,none⟩),.int .i64 ((0:Nat):Int),.int .i64 x.length] w λe w'=>∃ok:Bool,e=.returned (.bool ok)/\Below B w w'/\oR none w w'/\
   (ok=true->∃nb,gW B tb mp nb (aO ox x++aO oy y) 0 x.length [] [] w')/\(ok=false->∀rest:List (Int×Lt),(∀r∈rest,aW r.2.2 1=true)->¬oT ((aO ox x++aO oy y)++aJ rest) 0 x.length):=by
 obtain ⟨vn,ve,vl,vs,htm⟩:=h.tm;have hsm:(aO ox x++aO oy y).map zz=x++y:=by rw [List.map_append,tA,tA]
 have hml:((aO ox x++aO oy y).map zz).length=(aO ox x++aO oy y).length:=by simp
 have hxy:(aO ox x++aO oy y).length=x.length+y.length:=by simp
 have hx0:0<x.length:=by
  cases x with
  | nil=>simp [aW] at hx
  | cons=>simp
 have hy0:0<y.length:=by
  cases y with
  | nil=>simp [aW] at hy
  | cons=>simp
 have hin:=htm.toIn (by rw [lB];simp) (by simp) (by rw [hml];exact hl) (λn hn=>by obtain ⟨t,ht,rfl⟩:=List.mem_map.1 hn;exact hs t ht);refine (aWk B tb vn ve vl vs _ ((aO ox x++aO oy y).map zz) _ (aY (aO ox x++aO oy y)) _ h.whole (aAx _) (aLq _) (aLp _) _ 0 x.length w hin (by rw [hml,hxy];omega) (by rw [hml,hxy];omega)).mono ?_;rintro e w' ⟨ok,rfl,r⟩;have hint:∀{v:Value} {n:Nat} {xs:List Value},w.ownsRow B 3 1 v n xs->∀(k:Nat) (cs:Array Value) (T:TypeId) (fr:Nat×Nat),w.heap[k]?=some (.cells cs T fr)->T≠3->v.ownBlock≠some k:=by
  intro v n xs ho k cs T fr hk hT e;obtain ⟨_,⟨rfl,_⟩ | ⟨g,cap,cur,rfl,_,hh,_⟩⟩:=ho
  ·simp [Value.ownBlock] at e
  ·simp [Value.ownBlock] at e;subst e;rw [hh] at hk;simp at hk;exact hT hk.2.1.symm
 refine ⟨ok,rfl,r.low,λk cs T fr hk h1 _ _=>r.keep k (Array.getElem?_eq_some_iff.1 hk).1 (hint htm.rl k cs T fr hk h1) (hint htm.rs k cs T fr hk h1),λhok=>?_,λhok rest hr hy'=>?_⟩
 ·obtain ⟨F',S',rt',d',t1,t2,t3,t4,t5,t6,t7⟩:=r.st hok;have hE:(λi j=>rt' i=rt' j)=bK (aO ox x++aO oy y) 0 x.length:=by
   funext i j
   exact propext (t5 i j)
  have h0:=(r.yes.1 hok).2;have hD:eK (aC ((aO ox x++aO oy y).map zz)) (bK (aO ox x++aO oy y) 0 x.length):=Cl.isDown _ _;have hb:=bD.same hD h0 (Cl.base (Or.inr ⟨rfl,rfl⟩));have hends:∀p,p<(aO ox x++aO oy y).length->bD (aC ((aO ox x++aO oy y).map zz)) (λi j=>rt' i=rt' j) p:=by
   intro p hp;rw [hE];rw [hxy] at hp;by_cases hpx:p<x.length
   ·refine aEe (λ_=>Cl.refl _) h.whole (i:=0) (by rw [hml,hxy];omega) h0 p (Nat.zero_le _) ?_;rw [hsm,List.drop_zero,zI x 1 y hx];omega
   ·refine aEe (λ_=>Cl.refl _) h.whole (i:=x.length) (by rw [hml,hxy];omega) hb p (by omega) ?_;have:=zI y 1 [] hy;rw [List.append_nil] at this;rw [hsm,List.drop_left,this];omega
  refine ⟨vn.ownBlock,⟨⟨vn,ve,vl,vs,F',rt',d',S',rfl,t1.toRaw htm.ne htm.nl htm.ns,⟨h.whole,by rw [t1.lf,hml],by rw [t1.ls,hml],t2,t3,t4,t5,t6,t7,by rw [hxy];omega,by rw [hxy];omega⟩,hends,aM.nil⟩,by simp,h.first.at (r.keep mp h.first.lt (pM htm.rl h.first) (pM htm.rs h.first)),Nat.le_trans h.big r.size,h.ne,h.mlow,hs⟩⟩
 ·obtain ⟨c1,c2⟩:=aX5 rest hr h.whole hy';have:=r.yes.2 ⟨c1,c2 0 (by rw [hxy];omega)⟩;rw [hok] at this;cases this
end
end Go.Proofs.YtcldkjcpofjmhaaGreatDoor
