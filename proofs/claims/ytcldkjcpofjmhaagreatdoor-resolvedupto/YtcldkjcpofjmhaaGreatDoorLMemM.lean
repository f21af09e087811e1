import Derived.Test.YtcldkjcpofjmhaaGreatDoorRefs1M
import Derived.Laws.Tables
import Derived.Deep.DeepAppendWide
import Derived.Test.YtcldkjcpofjmhaaGreatDoorRTermM
import Derived.Deep.AppendLies
import Derived.Deep.RegionLaw
import Derived.Deep.RegionHeld3
open Array renaming getElem?_eq_some_iff→zw
open List renaming getElem?_eq_some_iff→zt,take_succ_eq_append_getElem→zn,getElem_mem→zm,getElem?_append_right→zk,getElem?_append_left→zj,mem_map→zh,take_of_length_le→zg,mem_append→zf,set_append_right→ze,mem_iff_getElem→zc,getElem?_take→zb,mem_filterMap→za,append_assoc→z0
open Nat renaming le_refl→zz,lt_of_lt_of_le→zq,le_trans→zl,mul_le_mul_right→zd
open Or renaming inr→zu,inl→zo
open Prod renaming fst→zv,snd→z4
namespace Go.Proofs.YtcldkjcpofjmhaaGreatDoor
open Region renaming wanted→zi
open _root_.Go.Proofs.Tryz renaming prog→zx,underlying37→zs
open Value renaming ownBlock→zy
open World renaming ownsRow_nil→zr,cell?→zp
set_option maxHeartbeats 2000000
set_option maxRecDepth 100000
section
open Go.RowKit
def aX(w:World)(v v':Value):Prop:=v'.ownBlock=v.ownBlock\/∃g,v'.ownBlock=some g/\w.heap.size<=g
theorem aX.refl(w:World)(v:Value):aX w v v:=zo rfl
theorem aX.trans{w w1:World}{v v1 v2:Value}(h:aX w v v1)(k:aX w1 v1 v2)(hs:w.heap.size<=w1.heap.size):aX w v v2:=by
 rcases k with k | ⟨g,k,hg⟩
 ·rcases h with h | ⟨g,h,hg⟩
  ·exact zo (k.trans h)
  ·exact zu ⟨g,k.trans h,hg⟩
 ·exact zu ⟨g,k,by omega⟩
theorem aFr{w W W':World}{v v1:Value}(h:w.grownBy W v.ownBlock)(hm:aX w v v1)(hg:W.grownBy W' v1.ownBlock):w.grownBy W' v.ownBlock:=
 ⟨hg.os.trans h.os,hg.tape.trans h.tape,hg.output.trans h.output,zl h.size hg.size,λk hk ho=>by
  rw [hg.block k (zq hk h.size) (λe=>by
   rcases hm with hm | ⟨g,hm,hgg⟩
   ·exact ho (e.trans hm)
   ·rw [hm] at e;simp at e;omega),h.block k hk ho]⟩
theorem fM{w w':World}{o:Option Nat}(h:Below w.heap.size w w'):w.grownBy w' o:=⟨h.os,h.tape,h.output,h.size,λk hk _=>h.block k hk⟩
theorem aFs(l:List Nd):∀u∈aH l,u.oneCell'=true:=by intro u hu;simp only [aH,List.mem_flatMap] at hu;obtain ⟨n,_,hu⟩:=hu;simp at hu;rcases hu with rfl | rfl <;> rfl
def fG(w:World)(B:Nat)(v:Value)(l:List Nd):Prop:=w.ownsRow B 36 2 v l.length (aH l)
theorem fG.shape{w:World}{B:Nat}{v:Value}{l:List Nd}(h:fG w B v l):∃a n c,v=.slice a n c:=by obtain ⟨a,c,e⟩:=aS h;exact ⟨a,_,c,e⟩
theorem cG{w w':World}{B:Nat}{e:TypeId}{size:Nat}{v:Value}{n:Nat}{xs:List Value}{o:Option Nat}(h:w.ownsRow B e size v n xs)(hg:w.grownBy w' o)(ho:v.ownBlock=none\/v.ownBlock≠o):w'.ownsRow B e size v n xs:=by
 obtain ⟨h1,⟨rfl,h2⟩ | ⟨g,cap,cur,rfl,hb,hh,hr⟩⟩:=h
 ·exact ⟨h1,zo ⟨rfl,h2⟩⟩
 ·refine ⟨h1,zu ⟨g,cap,cur,rfl,hb,?_,hr⟩⟩;rw [hg.block g (zw.1 hh).1 ?_,hh];rintro rfl;rcases ho with ho | ho
  ·simp [zy] at ho
  ·simp [zy] at ho
theorem pW{w:World}{B:Nat}{e:TypeId}{size:Nat}{v:Value}{n:Nat}{xs:List Value}(h:w.ownsRow B e size v n xs):v.ownBlock≠some w.heap.size:=λe=>by have:=(aT h _ e).2;omega
theorem cD{w:World}{B tb:Nat}{e T:TypeId}{size:Nat}{v:Value}{n:Nat}{xs:List Value}{cs:Array Value}(h:w.ownsRow B e size v n xs)(hb:w.heap[tb]?=some (.cells cs T))(he:e≠T):v.ownBlock≠some tb:=by
 obtain ⟨_,⟨rfl,_⟩ | ⟨g,cap,cur,rfl,_,hg,_⟩⟩:=h
 ·simp [zy]
 ·simp [zy];rintro rfl;rw [hg] at hb;simp at hb;exact he hb.2
theorem dW{w:World}{B tb j:Nat}{e T:TypeId}{size:Nat}{v x:Value}{n:Nat}{xs:List Value}{cs:Array Value}(h:w.ownsRow B e size v n xs)(hb:w.heap[tb]?=some (.cells cs T))(he:e≠T):(w.setCell ⟨tb,j,none⟩ x).ownsRow B e size v n xs:=
 cG h (bQ w ⟨tb,j,none⟩ x) (zu (cD h hb he))
theorem aBh{w:World}{B:Nat}{v:Value}{l:List Nd}(h:w.ownsRow B 36 2 v l.length (aH l)) :
  ∃a cap,v=.slice a l.length cap/\∀k n,l[k]?=some n->∃g,a=some ⟨g,0,none⟩/\w.cell? ⟨g,k*2,none⟩=some (.string n.1)/\w.cell? ⟨g,k*2+1,none⟩=some (.int .i64 n.2):=by
 obtain ⟨h1,⟨rfl,h2⟩ | ⟨g,cap,cur,rfl,hb,hh,hc,hm,hz,ht⟩⟩:=h
 ·refine ⟨none,0,by rw [h2],λk n hk=>?_⟩;have:=(zt.1 hk).1;omega
 ·have ho:w.ownsRow B 36 2 (.slice (some ⟨g,0,none⟩) l.length cap) l.length (aH l):=⟨h1,zu ⟨g,cap,cur,rfl,hb,hh,hc,hm,hz,ht⟩⟩;refine ⟨_,_,rfl,λk n hk=>⟨g,rfl,?_,?_⟩⟩
  ·obtain ⟨hl,rfl⟩:=zt.1 hk;rw [ho.cellAt (k*2) (by omega),(sQ l k hl).1]
  ·obtain ⟨hl,rfl⟩:=zt.1 hk;rw [ho.cellAt (k*2+1) (by omega),(sQ l k hl).2]
theorem jV{w:World}{B:Nat}{e:TypeId}{size:Nat}{v:Value}{n:Nat}{xs:List Value}(h:w.ownsRow B e size v n xs):∃a m c,v=.slice a m c:=by obtain ⟨a,c,e⟩:=aS h;exact ⟨a,_,c,e⟩
theorem sX(w:World)(x y:Value)(t:TypeId):(w.alloc (.cells #[x,y] t)).cell? ⟨w.heap.size,0,none⟩=some x/\(w.alloc (.cells #[x,y] t)).cell? ⟨w.heap.size,1,none⟩=some y:=by
 have h:(w.alloc (.cells #[x,y] t)).heap[w.heap.size]?=some (.cells #[x,y] t):=by show (w.heap.push _)[w.heap.size]?=_;simp
 constructor
 ·unfold zp;rw [h];rfl
 ·unfold zp;rw [h];rfl
theorem wB(w:World)(base:Nat)(t ty e:TypeId)(i:TypeInfo)(z:Value)(size bytes:Nat)(ht:zx.underlying t=some (.slice e))(hi:zx.info? e=some i)(hz:i.zero=some z)
  (hsize:i.size=size) (hby:i.bytes=bytes) (hsz:0<size)
  (v:Value) (n:Nat) (xs:List Value) (hown:w.ownsRow base e size v n xs) (hv:v.ownBlock≠none)
  (a:Addr) (m c:Nat) (news:List Value) (hl:news.length=m*size) (hnews:∀j u,news[j]?=some u->w.cell? (a.add j)=some u) (h1:∀u∈news,u.oneCell'=true)
  (h63:n+m<=maxLen) (hbytes:(n+m)*bytes<=140737488355328) {v':Value} {w':World} (hr:(Builtin.append_ #[t,t] ty #[v,.slice (some a) m c]).run zx w=.ok v' w') :
  v'.ownBlock=v.ownBlock\/v'.ownBlock=some w.heap.size:=by
 subst hsize;subst hby
 have hsmall:n+m<=9223372036854775807:=by simp only [maxLen] at h63;omega
 rcases hown.2 with ⟨rfl,rfl⟩ | ⟨g,cap,cur,rfl,hbg,hg,hnc,hcm,hcs,htake⟩
 ·exact absurd rfl hv
 ·by_cases hroom:n+m<=cap
  ·have hfit:n*i.size+news.length<=cur.size:=by rw [hl,hcs,<-Nat.add_mul];exact zd _ hroom
   have hr':=run_append_room (P:=zx) w t ty e i ht hi g n cap cur hg a m c news hl hnews h1 hroom hfit;rw [hr'] at hr;simp at hr;rw [<-hr.1];exact zo rfl
  ·have holds:∀j u,xs[j]?=some u->w.cell? ((⟨g,0,none⟩ : Addr).add j)=some u:=hown.cells (g:=g) rfl;have hr':=run_append_grow (P:=zx) w t ty e i z ht hi hz ⟨g,0,none⟩ n cap xs hown.1 holds a m c news hl hnews (by omega) (by omega) (growslice_fits (by omega) hbytes);rw [hr'] at hr;simp at hr;rw [<-hr.1];exact zu rfl
theorem sY{ops:Array Oper}{i:Nat}{o:Oper}{a:Act}{w w':World}{v:Value}{K:Act->World->Prop}{Q:Exit->Act->World->Prop}(hi:ops[i]?=some o)(hg:o.guard=none)(hr:(execOp a.eval o).run zx w=.ok (.value v) w')(h:K (a.put o.dst v) w'):wpOp zx ops Q i K a w:=by
 refine wpOp_step hi λK' hK=>?_
 rw [if_pos (by simp [zi,hg])];unfold Oper.wp;rw [hr];exact hK _ _ h
end
section
open Go.RowKit Go.Shelf
def wC(m:Int):Nd:=(⟨#[35]⟩,m)
def MkC(cur:Array Value)(n:Nat)(m:Int):Prop:=∀k,k<n->cur[k*2]?=some (.string ⟨#[35]⟩)/\cur[k*2+1]?=some (.int .i64 m)
def dR(w:World)(v:Value)(m:Int):Prop:=v=.slice none 0 0\/∃g n c cur,v=.slice (some ⟨g,0,none⟩) n c/\w.heap[g]?=some (.cells cur 36)/\MkC cur n m/\n<=5864062014809
abbrev mks(n:Nat)(m:Int):List Nd:=List.replicate n (wC m)
theorem aFt(n:Nat)(m:Int)(k:Nat)(h:k<n):(aH (mks n m))[k*2]?=some (.string ⟨#[35]⟩)/\(aH (mks n m))[k*2+1]?=some (.int .i64 m):=by have:=sQ (mks n m) k (by simpa using h);simpa [wC] using this
theorem dR.of_own{w:World}{B:Nat}{v:Value}{n:Nat}{m:Int}(h:w.ownsRow B 36 2 v n (aH (mks n m)))(hn:n<=5864062014809):dR w v m:=by
 obtain ⟨h1,⟨rfl,h2⟩ | ⟨g,cap,cur,rfl,hb,hh,hc,hm,hz,ht⟩⟩:=h
 ·exact zo rfl
 ·refine zu ⟨g,n,cap,cur,rfl,hh,λk hk=>?_,hn⟩;obtain ⟨a,b⟩:=aFt n m k hk;rw [<-ht] at a b;rw [zb,if_pos (by omega)] at a b;exact ⟨by simpa using a,by simpa using b⟩
theorem dR.grown{w w':World}{v:Value}{m:Int}{o:Option Nat}(h:dR w v m)(hg:w.grownBy w' o)(ho:v.ownBlock=none\/v.ownBlock≠o):dR w' v m:=by
 rcases h with h | ⟨g,n,c,cur,rfl,hh,hk⟩
 ·exact zo h
 ·refine zu ⟨g,n,c,cur,rfl,?_,hk⟩;rw [hg.block g (zw.1 hh).1 ?_,hh];rcases ho with ho | ho
  ·simp [zy] at ho
  ·intro e;exact ho (by rw [<-e];rfl)
theorem dR.below{w w':World}{v:Value}{m:Int}(h:dR w v m)(hb:Below w.heap.size w w'):dR w' v m:=h.grown (fM (o:=none) hb) (by
 cases v.ownBlock <;> simp)
theorem aFu{α:Type}(l ns:List α)(p:Nat)(hp:p+ns.length<=l.length)(j:Nat):(l.take p++ns++l.drop (p+ns.length))[j]?=if j<p then l[j]? else if j<p+ns.length then ns[j-p]? else l[j]?:=by
 by_cases h1:j<p
 ·rw [if_pos h1,z0,zj (by simp;omega),zb,if_pos h1]
 ·rw [if_neg h1];by_cases h2:j<p+ns.length
  ·rw [if_pos h2,zj (by simp;omega),zk (by simp;omega)];simp;congr 1
   omega
  ·rw [if_neg h2,zk (by simp;omega),List.getElem?_drop];congr 1
   simp;omega
theorem aOx(w:World)(ty:TypeId)(B:Nat)(v:Value)(n:Nat)(m:Int)(ho:w.ownsRow B 36 2 v n (aH (mks n m)))(hB:B<=w.heap.size)(a:Addr)(k c:Nat)(hk:0<k/\k<=3)(hn:n<=5864062014805)(hnews:∀j u,(aH (mks k m))[j]?=some u->w.cell? (a.add j)=some u) :
  ∃v' w',(Builtin.append_ #[37,37] ty #[v,.slice (some a) k c]).run zx w=.ok v' w'/\w'.ownsRow B 36 2 v' (n+k) (aH (mks (n+k) m))/\w'.ownsRow B 36 2 v n (aH (mks n m))/\w.grownBy w' v.ownBlock/\aX w v v'/\∀u,dR w u m->dR w' u m:=by
 obtain ⟨i,hi,hz,hss,hy⟩:=info_parts mP;have hcells:aH (mks (n+k) m)=aH (mks n m)++aH (mks k m):=by rw [show mks (n+k) m=mks n m++mks k m from List.replicate_append_replicate.symm];unfold aH;rw [List.flatMap_append]
 have hl:(aH (mks k m)).length=k*2:=by rw [pR];simp
 have h1:=aFs (mks k m);by_cases hv:v.ownBlock=none
 ·have hnil:v=.slice none 0 0/\n=0:=by
   obtain ⟨_,h | ⟨g,cap,cur,rfl,_⟩⟩:=ho
   ·exact h
   ·simp [zy] at hv
  obtain ⟨rfl,rfl⟩:=hnil;obtain ⟨v',w',hr,r1,r2,r3⟩:=run_append_own_wide (P:=zx) w w.heap.size 37 ty 36 i _ 2 24 zs hi hz hss hy rfl (by decide) (.slice none 0 0) 0 [] (zr _ _ _ _) a k c (aH (mks k m)) hl hnews h1 (by unfold maxLen;omega) (by omega) (zz _);refine ⟨v',w',hr,by rw [hcells];exact dI r1 hB,zr _ _ _ _,r2,?_,λu hu=>hu.grown r2 (by cases hub:u.ownBlock with | none=>exact zo rfl | some g=>exact zu (by simp [zy]))⟩;cases hb:v'.ownBlock with
  | none=>exact zo (by rw [hb,hv])
  | some g'=>exact zu ⟨g',hb,(aT r1 g' hb).1⟩
 ·obtain ⟨ho1,⟨rfl,_⟩ | ⟨g,cap,cur,rfl,hbg,hg,hnc,hcm,hcs,htake⟩⟩:=ho
  ·exact absurd rfl hv
  ·have ho:w.ownsRow B 36 2 (.slice (some ⟨g,0,none⟩) n cap) n (aH (mks n m)):=⟨ho1,zu ⟨g,cap,cur,rfl,hbg,hg,hnc,hcm,hcs,htake⟩⟩;by_cases hroom:n+k<=cap
   ·have hfit:n*2+(aH (mks k m)).length<=cur.size:=by rw [hl,hcs,<-Nat.add_mul];exact zd _ hroom
    have hr:=run_append_room (P:=zx) w 37 ty 36 i zs hi g n cap cur hg a k c (aH (mks k m)) (by rw [hl,hss]) hnews h1 hroom (by rw [hss];exact hfit);rw [hss] at hr;have hget:∀j,((cur.toList.take (n*2)++aH (mks k m)++cur.toList.drop (n*2+(aH (mks k m)).length)).toArray)[j]?=if j<n*2 then cur[j]? else if j<n*2+k*2 then (aH (mks k m))[j-n*2]? else cur[j]?:=by intro j;have:=aFu cur.toList (aH (mks k m)) (n*2) (by simpa using hfit) j;rw [hl] at this ⊢;simpa using this
    have hkeep:∀n' ,MkC cur n' m->MkC ((cur.toList.take (n*2)++aH (mks k m)++cur.toList.drop (n*2+(aH (mks k m)).length)).toArray) n' m:=by
     intro n' hm j hj;obtain ⟨q1,q2⟩:=hm j hj;rw [hget,hget];by_cases e1:j<n
     ·simp only [if_pos (show j*2<n*2 by omega),if_pos (show j*2+1<n*2 by omega)];exact ⟨q1,q2⟩
     ·simp only [if_neg (show ¬j*2<n*2 by omega),if_neg (show ¬j*2+1<n*2 by omega)];by_cases e2:j<n+k
      ·obtain ⟨r1,r2⟩:=aFt k m (j-n) (by omega);simp only [if_pos (show j*2<n*2+k*2 by omega),if_pos (show j*2+1<n*2+k*2 by omega)];rw [show j*2-n*2=(j-n)*2 by omega,show j*2+1-n*2=(j-n)*2+1 by omega];exact ⟨r1,r2⟩
      ·simp only [if_neg (show ¬j*2<n*2+k*2 by omega),if_neg (show ¬j*2+1<n*2+k*2 by omega)];exact ⟨q1,q2⟩
    generalize hcur':(cur.toList.take (n*2)++aH (mks k m)++cur.toList.drop (n*2+(aH (mks k m)).length)).toArray=cur' at *;have hsz:cur'.size=cur.size:=by rw [<-hcur'];simp;omega
    have htl:cur'.toList=cur.toList.take (n*2)++aH (mks k m)++cur.toList.drop (n*2+(aH (mks k m)).length):=by rw [<-hcur']
    have hh':(w.setRow g cur').heap[g]?=some (.cells cur' 36):=setRow_heap w g cur _ 36 _ hg;have hgr:w.grownBy (w.setRow g cur') (some g):=⟨rfl,rfl,rfl,by simp,λq _ hq=>setRow_other w g q _ (λe=>hq (by simp [e]))⟩;refine ⟨_,_,hr,⟨by rw [pR];simp,zu ⟨g,cap,cur',rfl,hbg,hh',hroom,hcm,by rw [hsz,hcs],?_⟩⟩,⟨ho1,zu ⟨g,cap,cur',rfl,hbg,hh',hnc,hcm,by rw [hsz,hcs],?_⟩⟩,hgr,zo rfl,?_⟩
    ·rw [htl,htake,hcells];exact List.take_left' (by rw [List.length_append,pR,pR];simp;omega)
    ·rw [htl,htake,z0];exact List.take_left' (by rw [pR];simp)
    ·intro u hu;rcases hu with hu | ⟨g',n',c',cu,rfl,hgu,hmk,hn'⟩
     ·exact zo hu
     ·by_cases e:g'=g
      ·subst e;rw [hg] at hgu;simp at hgu;subst hgu;exact zu ⟨g',n',c',cur',rfl,hh',hkeep n' hmk,hn'⟩
      ·exact zu ⟨g',n',c',cu,rfl,by rw [hgr.block g' (zw.1 hgu).1 (by simpa using e),hgu],hmk,hn'⟩
   ·have holds:∀j u,(aH (mks n m))[j]?=some u->w.cell? ((⟨g,0,none⟩ : Addr).add j)=some u:=ho.cells (g:=g) rfl;have hr:=run_append_grow (P:=zx) w 37 ty 36 i _ zs hi hz ⟨g,0,none⟩ n cap (aH (mks n m)) (by rw [hss];exact ho1) holds a k c (aH (mks k m)) (by rw [hl,hss]) hnews (by omega) (by omega) (growslice_fits_wide (by omega) (by rw [hy];omega));obtain ⟨v',w',hr',r1,r2,_⟩:=run_append_own_wide (P:=zx) w B 37 ty 36 i _ 2 24 zs hi hz hss hy rfl (by decide) _ n (aH (mks n m)) ho a k c (aH (mks k m)) hl hnews h1 (by unfold maxLen;omega) (by omega) hB;rw [hr] at hr';injection hr' with e1 e2;subst e1;subst e2;have hb:Below w.heap.size w (w.drew.alloc (.cells ((aH (mks n m)).toArray++(aH (mks k m)).toArray++Builtin.zeroCells (Value.agg #[.string ⟨#[]⟩,.int .i64 0]).cells (grownCap w (n+k) cap 36-(n+k))) 36)):=(aJ (w1:=w.drew) ⟨1,rfl⟩).alloc (zz _) _;exact ⟨_,_,hr,by rw [hcells];exact r1,aU ho hb (zz _),r2,zu ⟨_,rfl,zz _⟩,λu hu=>hu.below hb⟩
variable {xy:Value×Value}
abbrev kZ(xy:Value×Value)(nv mv:Value)(next:Int):Array Value:=#[nv,mv,xy.1,xy.2,.slice none 0 0,.slice none 0 0,.slice none 0 0,.slice none 0 0,.int .i64 next]
theorem aOy:(zx.info? 37).map (λi=>(i.zero,i.size,i.bytes))=some (some (.slice none 0 0),1,24):=by kernel_rfl
structure dS(w:World)(B bk:Nat)(xy:Value×Value)(nv mv:Value)(E:List (Value×Int))(next:Int):Prop where
 box:w.heap[bk]?=some (.cells (kZ xy nv mv next) 31)
 high:B<=bk
 rn:w.ownsRow B 37 1 nv E.length (E.map zv)
 rm:w.ownsRow B 3 1 mv E.length (E.map λx=>Value.int .i64 x.2)
 mks:∀x∈E,dR w x.1 x.2
 few:E.length<=10000000000
 lo : -10000000000<=next
 hi:next<=0
structure iV(w w':World)(bk:Nat)(nv mv lv:Value):Prop where
 os:w'.os=w.os
 tape:w'.tape=w.tape
 output:w'.output=w.output
 size:w.heap.size<=w'.heap.size
 block:∀k,k<w.heap.size->k≠bk->nv.ownBlock≠some k->mv.ownBlock≠some k->lv.ownBlock≠some k->w'.heap[k]?=w.heap[k]?
section
variable {w w' w2:World}{B bk:Nat}{nv mv lv:Value}{E:List (Value×Int)}{next m:Int}
theorem iV.refl(w:World)(bk:Nat)(nv mv lv:Value):iV w w bk nv mv lv:=⟨rfl,rfl,rfl,zz _,λ_ _ _ _ _ _=>rfl⟩
theorem iV.grown(h:iV w w' bk nv mv lv){v:Value}(hg:w'.grownBy w2 v.ownBlock)(hv:aX w nv v\/aX w mv v\/aX w lv v\/v.ownBlock=none):iV w w2 bk nv mv lv:=
 ⟨hg.os.trans h.os,hg.tape.trans h.tape,hg.output.trans h.output,zl h.size hg.size,λk h1 h2 h3 h4 h5=>by
  rw [hg.block k (zq h1 h.size) ?_,h.block k h1 h2 h3 h4 h5];intro e;rcases hv with (hv | ⟨g,hv,hg⟩) | (hv | ⟨g,hv,hg⟩) | (hv | ⟨g,hv,hg⟩) | hv
  ·exact h3 (by rw [<-hv,e])
  ·rw [hv] at e;simp at e;omega
  ·exact h4 (by rw [<-hv,e])
  ·rw [hv] at e;simp at e;omega
  ·exact h5 (by rw [<-hv,e])
  ·rw [hv] at e;simp at e;omega
  ·rw [hv] at e;cases e⟩
theorem iV.below(h:iV w w' bk nv mv lv)(hb:Below w'.heap.size w' w2):iV w w2 bk nv mv lv:=
 ⟨hb.os.trans h.os,hb.tape.trans h.tape,hb.output.trans h.output,zl h.size hb.size,λk h1 h2 h3 h4 h5=>by
  rw [hb.block k (zq h1 h.size),h.block k h1 h2 h3 h4 h5]⟩
theorem iV.setB(h:iV w w' bk nv mv lv)(j:Nat)(x:Value):iV w (w'.setCell ⟨bk,j,none⟩ x) bk nv mv lv:=by
 have hg:=bQ w' ⟨bk,j,none⟩ x;exact ⟨hg.os.trans h.os,hg.tape.trans h.tape,hg.output.trans h.output,zl h.size hg.size,λk h1 h2 h3 h4 h5=>by
  rw [hg.block k (zq h1 h.size) (by simpa using h2),h.block k h1 h2 h3 h4 h5]⟩
theorem dS.lt(h:dS w B bk xy nv mv E next):bk<w.heap.size:=(zw.1 h.box).1
theorem dS.c0(h:dS w B bk xy nv mv E next):w.cell? ⟨bk,0,none⟩=some nv:=by simp [zp,h.box]
theorem dS.c1(h:dS w B bk xy nv mv E next):w.cell? ⟨bk,1,none⟩=some mv:=by simp [zp,h.box]
theorem dS.c8(h:dS w B bk xy nv mv E next):w.cell? ⟨bk,8,none⟩=some (.int .i64 next):=by simp [zp,h.box]
theorem dS.soft(h:dS w B bk xy nv mv E next)(j:Nat):w.frozen? ⟨bk,j,none⟩=false:=by simp [World.frozen?,h.box]
theorem dS.grown(h:dS w B bk xy nv mv E next){o:Option Nat}(hg:w.grownBy w' o)(h0:o≠some bk)(h1:nv.ownBlock=none\/nv.ownBlock≠o)(h2:mv.ownBlock=none\/mv.ownBlock≠o)(h3:∀x∈E,dR w' x.1 x.2):dS w' B bk xy nv mv E next:=
 ⟨by rw [hg.block bk h.lt (λe=>h0 e.symm),h.box],h.high,cG h.rn hg h1,cG h.rm hg h2,h3,h.few,h.lo,h.hi⟩
theorem dS.below(h:dS w B bk xy nv mv E next)(hb:Below w.heap.size w w'):dS w' B bk xy nv mv E next:=
 ⟨by rw [hb.block bk h.lt,h.box],h.high,aU h.rn hb (zz _),aU h.rm hb (zz _),λx hx=>(h.mks x hx).below hb,h.few,h.lo,h.hi⟩
theorem dS.nodes(h:dS w B bk xy nv mv E next){v:Value}{n:Nat}{xs:List Value}{B':Nat}(ho:w.ownsRow B' 36 2 v n xs)(hg:w.grownBy w' v.ownBlock)(h3:∀x∈E,dR w' x.1 x.2):dS w' B bk xy nv mv E next:=
 h.grown hg (cD ho h.box (by decide)) (bV h.rn ho (by decide)) (bV h.rm ho (by decide)) h3
theorem dR.setB{v:Value}(h:dR w v m)(hb:w.heap[bk]?=some (.cells (kZ xy nv mv next) 31))(j:Nat)(x:Value):dR (w.setCell ⟨bk,j,none⟩ x) v m:=by
 rcases h with h | ⟨g,n,c,cur,rfl,hh,hk⟩
 ·exact zo h
 ·refine zu ⟨g,n,c,cur,rfl,?_,hk⟩;rw [heap_setCell_other _ _ _ _ (by simp;rintro rfl;rw [hh] at hb;simp at hb),hh]
theorem yQ{w:World}{b j:Nat}{cs:Array Value}{T:TypeId}{x:Value}(h:w.heap[b]?=some (.cells cs T)):(w.setCell ⟨b,j,none⟩ x).heap[b]?=some (.cells (cs.setIfInBounds j x) T):=by unfold World.setCell;simp [Array.getElem?_modify,h]
theorem dS.setNext(h:dS w B bk xy nv mv E next){x:Int}(hlo : -10000000000<=x)(hhi:x<=0):dS (w.setCell ⟨bk,8,none⟩ (.int .i64 x)) B bk xy nv mv E x:=
 ⟨yQ h.box,h.high,dW h.rn h.box (by decide),dW h.rm h.box (by decide),λy hy=>(h.mks y hy).setB h.box 8 _,h.few,hlo,hhi⟩
end
structure uI(w:World)(B bk bx:Nat)(xy:Value×Value)(nv mv lv:Value)(E:List (Value×Int))(m:Int)(n:Nat)(D:List Value)(wr:World):Prop where
 book:dS wr B bk xy nv mv E m
 own:wr.ownsRow B 36 2 lv n (aH (mks n m))
 marks:∀d∈D,dR wr d m
 moved:∀d∈D,aX w lv d
 far:iV w wr bk nv mv lv
 b0:wr.cell? ⟨bx,0,none⟩=some (.string ⟨#[35]⟩)
 b1:wr.cell? ⟨bx,1,none⟩=some (.int .i64 m)
 vne:lv.ownBlock≠some bx
section
variable {w wr w3:World}{B bk bx:Nat}{nv mv lv v':Value}{E:List (Value×Int)}{m:Int}{n:Nat}{D:List Value}
theorem uI.next(h:uI w B bk bx xy nv mv lv E m n D wr)(hap:∀x∈E,x.1.ownBlock=none\/x.1.ownBlock≠lv.ownBlock){X:Obj}{k:Nat}(r1:w3.ownsRow B 36 2 v' (n+k) (aH (mks (n+k) m)))(r2:w3.ownsRow B 36 2 lv n (aH (mks n m)))(r3:(wr.alloc X).grownBy w3 lv.ownBlock)(r4:aX (wr.alloc X) lv v')(r5:∀u,dR (wr.alloc X) u m->dR w3 u m)(hn:n+k<=5864062014809) :
  uI w B bk bx xy nv mv lv E m n (D++[v']) w3:=by
 have hb:Below wr.heap.size wr (wr.alloc X):=(Below.refl _ _).alloc (zz _) X;have hbk:=h.book.below hb;have ho:=aU h.own hb (zz _);have hws:=h.far.size;refine ⟨hbk.nodes ho r3 (λx hx=>(hbk.mks x hx).grown r3 (hap x hx)),r2,?_,?_,(h.far.below hb).grown r3 (zu (zu (zo (aX.refl _ _)))),?_,?_,h.vne⟩
 ·intro d hd;rcases zf.1 hd with hd | hd
  ·exact r5 d ((h.marks d hd).below hb)
  ·simp at hd;subst hd;exact dR.of_own r1 hn
 ·intro d hd;rcases zf.1 hd with hd | hd
  ·exact h.moved d hd
  ·simp at hd;subst hd;exact (aX.refl w lv).trans r4 (by simp;omega)
 ·exact r3.cell (Below.at' hb (zz _) h.b0) (λe=>h.vne e.symm)
 ·exact r3.cell (Below.at' hb (zz _) h.b1) (λe=>h.vne e.symm)
end
theorem aOz(a r:List Nd)(y:Nd)(s:ByteArray)(x:Int):((aH (a++y :: r)).set (a.length*2) (.string s)).set (a.length*2+1) (.int .i64 x)=aH (a++(s,x) :: r):=by
 have h1:aH (a++y :: r)=aH a++(.string y.1 :: .int .i64 y.2 :: aH r):=by simp [aH]
 have h2:aH (a++(s,x) :: r)=aH a++(.string s :: .int .i64 x :: aH r):=by simp [aH]
 have hl:(aH a).length=a.length*2:=pR a;rw [h1,h2,ze _ _ (by omega),ze _ _ (by omega)];simp [hl]
structure wD(w:World)(B bk bx:Nat)(xy:Value×Value)(nv mv lv:Value)(E:List (Value×Int))(m:Int)(l:List Nd)(wr:World):Prop where
 book:dS wr B bk xy nv mv E m
 own:wr.ownsRow B 36 2 lv l.length (aH l)
 far:iV w wr bk nv mv lv
 b0:wr.cell? ⟨bx,0,none⟩=some (.string ⟨#[35]⟩)
 b1:wr.cell? ⟨bx,1,none⟩=some (.int .i64 m)
 vne:lv.ownBlock≠some bx
theorem wD.put{w wr:World}{B bk bx g n c:Nat}{nv mv:Value}{E:List (Value×Int)}{m:Int}{a r:List Nd}{y:Nd}(h:wD w B bk bx xy nv mv (.slice (some ⟨g,0,none⟩) n c) E m (a++y :: r) wr)(hn:n=(a++y :: r).length)(hap:∀x∈E,x.1.ownBlock=none\/x.1.ownBlock≠some g) :
  wD w B bk bx xy nv mv (.slice (some ⟨g,0,none⟩) n c) E m (a++wC m :: r) ((wr.setCell ⟨g,a.length*2,none⟩ (.string ⟨#[35]⟩)).setCell ⟨g,a.length*2+1,none⟩ (.int .i64 m)):=by
 subst hn;have hl:(a++wC m :: r).length=(a++y :: r).length:=by simp
 have s1:=(h.own.stored (a.length*2) (.string ⟨#[35]⟩)).1;have s2:=(s1.stored (a.length*2+1) (.int .i64 m)).1;rw [aOz] at s2;have g1:=bQ wr ⟨g,a.length*2,none⟩ (.string ⟨#[35]⟩);have g2:=bQ (wr.setCell ⟨g,a.length*2,none⟩ (.string ⟨#[35]⟩)) ⟨g,a.length*2+1,none⟩ (.int .i64 m);have hg:=g1.trans g2;have hvb:g≠bx:=by have:=h.vne;simpa [zy] using this
 refine ⟨h.book.nodes h.own hg (λx hx=>(h.book.mks x hx).grown hg (hap x hx)),by rw [hl];exact s2,h.far.grown (v:=.slice (some ⟨g,0,none⟩) _ c) hg (zu (zu (zo (aX.refl _ _)))),hg.cell h.b0 (by simpa using λe=>hvb e.symm),hg.cell h.b1 (by simpa using λe=>hvb e.symm),h.vne⟩
end
section
open Go.RowKit
def fH(l:List Nd):Bool:=fK l && !aF (l.headD (⟨#[]⟩,0))
def dB(c:List Lt):Bool:=dL c && (c.all λl=>fH l.2) && decide (c=aR c)
theorem aP0(l:List Nd)(seen:List Int):(cE l seen).1.map zv=l.map zv:=by
 suffices ∀(l:List Nd) (st:List Nd×List Int),(l.foldl cZ st).1.map zv=st.1.map zv++l.map zv by
  have h:=this l ([],seen);simpa [cE] using h
 intro l;induction l with
 | nil=>intro st;simp
 | cons x r ih=>
  intro st;rw [List.foldl_cons,ih];have:(cZ st x).1.map zv=st.1.map zv++[x.1]:=by
   unfold cZ;split
   ·split <;> simp
   ·simp
  rw [this];simp
theorem aP1(c:List Lt):∀x∈(cL c).1,∃y∈c,x.2.map zv=y.2.map zv:=by
 suffices ∀(c:List Lt) (st:List Lt×List Int),∀x∈(c.foldl eB st).1,x∈st.1\/∃y∈c,x.2.map zv=y.2.map zv by
  intro x hx;rcases this c ([],[]) x hx with h | h
  ·simp at h
  ·exact h
 intro c;induction c with
 | nil=>intro st x hx;exact zo hx
 | cons y r ih=>
  intro st x hx;rcases ih (eB st y) x hx with h | ⟨z,hz,hz'⟩
  ·rcases zf.1 (show x∈st.1++[(y.1,(cE y.2 st.2).1)] from h) with h | h
   ·exact zo h
   ·simp at h;subst h;exact zu ⟨y,by simp,aP0 _ _⟩
  ·exact zu ⟨z,by simp [hz],hz'⟩
theorem aP2(c:List Lt):∀x∈aR c,∃y∈c,x.2.map zv=y.2.map zv:=by intro x hx;obtain ⟨y,hy,h⟩:=aP1 _ x hx;exact ⟨y,(qG c).2.2 y hy,h⟩
def sZ(c:List Lt):Prop:=∀x∈c,x.2.length<=5864062014805/\∀n∈x.2,n.1.size<=140737488355328
theorem bD.shorts{w:World}{a:Option Addr}{c:List Lt}(h:bD w a c):sZ c:=by intro x hx;obtain ⟨k,hk,rfl⟩:=zc.1 hx;obtain ⟨_,_,_,_,_,_,_,g⟩:=h.cell k hk;refine ⟨g.few,λn hn=>?_⟩;obtain ⟨j,hj,rfl⟩:=zc.1 hn;exact g.short j hj
theorem sZ.ord{c:List Lt}(h:sZ c):sZ (aR c):=by
 intro x hx;obtain ⟨y,hy,hxy⟩:=aP2 c x hx;have hl:x.2.length=y.2.length:=by have:=congrArg List.length hxy;simpa using this
 refine ⟨by rw [hl];exact (h y hy).1,λn hn=>?_⟩;have:n.1∈y.2.map zv:=by rw [<-hxy];exact zh.2 ⟨n,hn,rfl⟩
 obtain ⟨m,hm,hmn⟩:=zh.1 this;rw [<-hmn];exact (h y hy).2 m hm
theorem aBj{w:World}{B:Nat}{v:Value}{Q:List (Lt×Value)}{d:List Lt}(hd:Q.map zv=d)(ho:w.ownsRow B 39 2 v Q.length (bA Q))(hQ:∀q∈Q,w.ownsRow B 36 2 q.2 q.1.2.length (aH q.1.2))(hf:d.length<=4398046511104)(hs:sZ d) :
  ∃a cap,v=.slice a d.length cap/\bD w a d:=by
 subst hd;obtain ⟨a,cap,rfl,hc⟩:=qH ho;refine ⟨a,cap,by simp,hf,λk hk=>?_⟩;have hk':k<Q.length:=by simpa using hk
 obtain ⟨g,rfl,h1,h2⟩:=hc k hk';have hq:=hQ Q[k] (zm _);have hm:Q[k].1∈Q.map zv:=zh.2 ⟨Q[k],zm _,rfl⟩;obtain ⟨aa,acp,hv,hn⟩:=rH hq (hs _ hm).1 (λj hj=>(hs _ hm).2 _ (zm _));rw [hv] at h2;refine ⟨g,0,aa,acp,rfl,?_,?_,?_⟩
 ·rw [Nat.zero_add,h1];simp
 ·rw [Nat.zero_add,h2];simp
 ·simpa using hn
theorem aFv:fK []=false:=by decide
theorem aFw(a:Option Addr)(cp:Nat)(c:List Lt)(w:World)(h:bD w a c) :
  Calls zx 24 #[.slice a c.length cp] w λe w'=>e=.returned (.bool (dB c))/\Below w.heap.size w w':=by
 have hf:=h.few;have cF:=aRa a cp c w h;by_cases hfit:dL c=true
 ·have hcount:c.length<=8/\aK c<=60:=by simpa [dL] using hfit
  rw [hfit] at cF;have HF:=aA cF;have HH:=aA h;have HE:Hid (dB c=((c.all λl=>fH l.2) && decide (c=aR c))):=by unfold dB;rw [hfit];exact Bool.true_and _▸rfl
  obtain ⟨h8,h60⟩:=hcount;clear cF hfit h;go_enter Tryz.func24,Tryz.ntmps24;go_wp2_with (go_at_call 41;refine (aB HF).mono ?_;rintro e w' ⟨rfl,rfl⟩);go_loopw [4] (λi wr=>∃k:Nat,k<=c.length/\i=.int .i64 k/\Below w'.heap.size w' wr/\((c.take k).all λl=>fH l.2)=true) (λi _=>c.length-(intOf i).toNat);case atStart=>exact ⟨0,Nat.zero_le _,rfl,Below.refl _ _,rfl⟩
  case round=>
   obtain ⟨k,hk,rfl,hb,hall⟩:=hrel;by_cases hlt:k<c.length
   ·obtain ⟨b,q,aa,acp,rfl,e1,f1,g1⟩:=HH.out.cell k hlt;have e2:=Below.at' hb (zz _) e1;have f2:=Below.at' hb (zz _) f1;have cT:=aR5 aa acp c[k].2 wr (g1.below hb (zz _));have HSN:Hid (((c.take (k+1)).all λl=>fH l.2)=fH c[k].2):=by
     rw [zn hlt,List.all_append,hall];exact Bool.and_true _▸rfl
    have HN:Hid (fH c[k].2=false->dB c=false):=λhx=>by
     rw [HE.out,Bool.and_eq_false_iff];left;rw [List.all_eq_false];exact ⟨c[k],zm _,by simp [hx]⟩
    have HB:=aA hb;have hbs:=hb.size;clear e1 f1 hall hb;generalize c[k]=x at *;obtain ⟨xb,xl⟩:=x;simp only at e2 f2 g1 cT;by_cases ht:fK xl=true
    ·cases xl with
     | nil=>rw [aFv] at ht;exact absurd ht (by simp)
     | cons n0 r=>
      rw [ht] at cT;obtain ⟨b0,o0,rfl,e0,f0⟩:=g1.cell 0 (by simp);simp only [List.getElem_cons_zero,Nat.zero_mul,Nat.add_zero] at e0 f0;obtain ⟨s0,x0⟩:=n0;simp only at e0;have HT:=aA cT;have hfl:=g1.few;simp only [List.length_cons] at hfl e2 f2;have e0r:=Below.at' HB.out (zz _) e0;have hv0:fH ((s0,x0) :: r) = !s0.toList.isEmpty:=by simp [fH,ht,aF]
      clear cT g1 e0 f0 ht;cases hv:s0.toList.isEmpty
      ·have HV:=aA (show fH ((s0,x0) :: r)=true by rw [hv0];first | rfl | simp [hv]);clear hv0;go_wp2_with (first
        | (go_at_call 42;refine (aB HT).mono ?_;rintro e w2 ⟨rfl,hb2⟩;have q1:=Below.at' hb2 (zz _) e2;have q2:=Below.at' hb2 (zz _) f2;have q3:=Below.at' hb2 (zz _) e0r;have HB2:=aA (HB.out.trans (hb2.mono hbs));clear hb2)
        | go_in)
       go_roundw;case rel=>exact ⟨k+1,by omega,by go_num,HB2.out,by rw [HSN.out,HV.out]⟩
       case measure=>simp [intOf];omega
      ·have HV:=aA (show fH ((s0,x0) :: r)=false by rw [hv0];first | rfl | simp [hv]);clear hv0;go_wp2_with (first
        | (go_at_call 42;refine (aB HT).mono ?_;rintro e w2 ⟨rfl,hb2⟩;have q1:=Below.at' hb2 (zz _) e2;have q2:=Below.at' hb2 (zz _) f2;have q3:=Below.at' hb2 (zz _) e0r;have HB2:=aA (HB.out.trans (hb2.mono hbs));clear hb2)
        | go_in)
       go_ret;exact ⟨cH (HN.out HV.out).symm,HB2.out⟩
    ·have ht':fK xl=false:=by simpa using ht
     rw [ht'] at cT;have HT:=aA cT;have HV:=aA (HN.out (by unfold fH;rw [ht'];rfl));clear cT ht ht' g1;go_wp2_with (first
      | (go_at_call 42;refine (aB HT).mono ?_;rintro e w2 ⟨rfl,hb2⟩;have HB2:=aA (HB.out.trans (hb2.mono hbs));clear hb2)
      | go_in)
     go_ret;exact ⟨cH HV.out.symm,HB2.out⟩
   ·have hk1:c.take k=c:=zg (by omega);rw [hk1] at hall;have HA:Hid (dB c=decide (c=aR c)):=by rw [HE.out,hall];exact Bool.true_and _▸rfl
    have HB:=aA hb;have hbs:=hb.size;have hw:=HH.out.below hb (zz _);have cO:=aHf a cp c wr hw (by omega);have hlen:(aR c).length<=8:=by have h1:=(pA (cJ c)).1;have h2:=(qG c).1;have h3:(aR c).length=(cJ c).length:=h1;omega
    have HL:=aA hlen;have HO:=aA cO;have HW:=aA hw;clear hk1 hall hb hw cO hlen;go_wp2_with (first
     | (go_at_call 43;refine (aB HO).mono ?_;rintro e w2 ⟨v,Q,rfl,hQ,ho,hQa,hb2⟩;obtain ⟨oa,ocp,rfl,hlits⟩:=aBj hQ ho hQa (by have:=HL.out;omega) HH.out.shorts.ord;have HS:=aA (aH5 a oa cp ocp c (aR c) w2 (HW.out.below hb2 (zz _)) hlits);have HB2:=aA (HB.out.trans (hb2.mono hbs));clear hQ ho hQa hb2 hlits)
     | (go_at_call 14;refine (aB HS).mono ?_;rintro e w3 ⟨rfl,hd⟩;have HB3:=aA (HB2.out.trans ((aJ hd).mono HB2.out.size));clear hd)
     | go_in)
    go_ret;exact ⟨cH HA.out.symm,HB3.out⟩
 ·have hfit':dL c=false:=by simpa using hfit
  rw [hfit'] at cF;have HE:Hid (dB c=false):=by unfold dB;rw [hfit'];rfl
  have HF:=aA cF;clear cF hfit hfit' h;go_enter Tryz.func24,Tryz.ntmps24;go_wp2_with (go_at_call 41;refine (aB HF).mono ?_;rintro e w' ⟨rfl,rfl⟩);go_ret;exact ⟨cH HE.out.symm,Below.refl _ _⟩
def aP3(w:World)(a:Option Addr)(c:List Lt):Prop:=∀k,k<c.length->∀b o aa n cap,a=some ⟨b,o,none⟩->w.cell? ⟨b,o+k*2+1,none⟩=some (.slice aa n cap)->n<=cap
theorem aBk{w:World}{g:Nat}{s x:Value}{t:TypeId}(h:w.heap[g]?=some (.cells #[s,x] t)):w.cell? ⟨g,0,none⟩=some s/\w.cell? ⟨g,1,none⟩=some x:=⟨by simp [zp,h],by simp [zp,h]⟩
theorem aBl{a b:Value}{c d:Value}(h:a=c)(k:b=d):Ending.returned (.tuple #[a,b])=.returned (.tuple #[c,d]):=by rw [h,k]
theorem aP4{l:List Nd}(h:fH l=true):aW l 1=true/\l.length<=60:=by
 have:fK l=true:=by simp [fH] at h;exact h.1
 simpa [fK] using this
theorem aP5(w:World)(X:Obj):(w.alloc X).heap[w.heap.size]?=some X:=by show (w.heap.push X)[w.heap.size]?=_;simp
theorem aP6(l:List Nd)(j:Nat)(u:Value)(h:(aH l)[j]?=some u):∃k,∃hk:k<l.length,(j=k*2/\u=.string l[k].1)\/(j=k*2+1/\u=.int .i64 l[k].2):=by
 have hj:j<(aH l).length:=(zt.1 h).1;rw [pR] at hj;have hk:j / 2<l.length:=by omega
 obtain ⟨h1,h2⟩:=sQ l (j / 2) hk;refine ⟨j / 2,hk,?_⟩;rcases Nat.mod_two_eq_zero_or_one j with h0 | h0
 ·left;have e:j=j / 2*2:=by omega
  rw [e] at h;rw [h1] at h;exact ⟨e,by simpa using h.symm⟩
 ·right;have e:j=j / 2*2+1:=by omega
  rw [e] at h;rw [h2] at h;exact ⟨e,by simpa using h.symm⟩
theorem aP7{w:World}{ad:Addr}{l:List Nd}(h:cM w (some ad) l):∀j u,(aH l)[j]?=some u->w.cell? (ad.add j)=some u:=by
 intro j u hu;obtain ⟨k,hk,hc⟩:=aP6 l j u hu;obtain ⟨b,o,ha,e,f⟩:=h.cell k hk;obtain rfl:ad=⟨b,o,none⟩:=by simpa using ha
 have hadd:∀q,(⟨b,o,none⟩ : Addr).add q=⟨b,o+q,none⟩:=λq=>by unfold Addr.add;split <;> simp_all
 rw [hadd];rcases hc with ⟨rfl,rfl⟩ | ⟨rfl,rfl⟩
 ·exact e
 ·rw [<-Nat.add_assoc];exact f
theorem aP8{w:World}{ty:TypeId}{aa:Option Addr}{c:Nat}{l:List Nd}(hn:cM w aa l)(hz:aa=none->c=0) :
  ∃v w',(Builtin.append_ #[37,37] ty #[.slice none 0 0,.slice aa l.length c]).run zx w=.ok v w'/\w'.ownsRow w.heap.size 36 2 v l.length (aH l)/\w.grownBy w' none:=by
 obtain ⟨iN,hN,hN0,hN1,hN2⟩:=info_parts mP;have h0:=zr w w.heap.size 36 2;have hfew:=hn.few;cases aa with
 | none=>
  have hl:l=[]:=by
   cases l with
   | nil=>rfl
   | cons x r=>obtain ⟨b,o,ha,_⟩:=hn.cell 0 (by simp);simp at ha
  subst hl;rw [hz rfl];exact ⟨_,w,run_append_owned_none w w.heap.size 37 ty 36 iN 2 zs hN _ 0 [] h0,h0,⟨rfl,rfl,rfl,zz _,λ_ _ _=>rfl⟩⟩
 | some ad=>
  obtain ⟨v,w',hr,ho,hg,_⟩:=run_append_own_at (P:=zx) w w.heap.size 37 ty 36 iN (.agg #[.string ⟨#[]⟩,.int .i64 0]) 2 24 zs hN hN0 hN1 hN2 rfl (by decide) _ 0 [] h0 ad l.length c (aH l) (pR l) (aP7 hn) (aFs l) (by unfold maxLen;omega) (by omega) (zz _);refine ⟨v,w',hr,?_,hg⟩;simpa using ho
theorem aP9{ops:Array Oper}{o:Oper}{a:Act}{w:World}{K:Act->World->Prop}{Q:Exit->Act->World->Prop}{E:Prop}(hgd:o.guard=none)(s x:Operand)
  (ho:o.op=.call {callee:=.builtin .append,args:=#[s,x],argTypes:=#[37,37]}) (aa:Option Addr) (c:Nat) (l:List Nd) (hs:a.eval s=.slice none 0 0) (hx:a.eval x=.slice aa l.length c) (hn:cM w aa l) (hz:aa=none->c=0)
  (h:∀v w',w'.ownsRow w.heap.size 36 2 v l.length (aH l)->w.grownBy w' none->K (a.put o.dst v) w') :
  if zi o (yielded ops a.tmps)=true then Oper.wp zx o a w K Q else E:=by
 have hw:zi o (yielded ops a.tmps)=true:=by simp [zi,hgd]
 rw [if_pos hw];obtain ⟨v,w',hr,h1,h2⟩:=aP8 (ty:=o.type) hn hz;unfold Oper.wp execOp;simp only [ho,resolve,invoke,builtin,Sem.run_bind,Sem.run_pure,Result.andThen_ok,List.map_toArray,List.map_cons,List.map_nil,hs,hx,hr];exact h v w' h1 h2
def oU(w:World)(a:Option Addr)(c:List Lt):Prop:=∀k,k<c.length->∀b o aa n cap,a=some ⟨b,o,none⟩->w.cell? ⟨b,o+k*2+1,none⟩=some (.slice aa n cap)->aa=none->cap=0
theorem oU.below{w w1:World}{a:Option Addr}{c:List Lt}(h:oU w a c)(hl:bD w a c)(k:Below w.heap.size w w1):oU w1 a c:=by
 intro i hi b o aa n cap ha hc;obtain ⟨b',o',aa',cap',ha',_,hc',_⟩:=hl.cell i hi;obtain ⟨rfl,rfl⟩ : b=b'/\o=o':=by rw [ha] at ha';simpa using ha'
 have:=Below.at' k (zz _) hc';rw [this] at hc;obtain ⟨rfl,rfl,rfl⟩ : aa'=aa/\_=n/\cap'=cap:=by simpa using hc
 exact h i hi b o aa' _ cap' ha hc'
theorem aPa{wr w0 w1:World}{xb:Bool}{va:Option Addr}{vcp:Nat}{xl:List Nd}(hd:Below wr.heap.size wr w0)(hw0:w0.heap[wr.heap.size]?=some (.cells #[.bool xb,.slice none 0 0] 39))(hown:w1.ownsRow w0.heap.size 36 2 (.slice va xl.length vcp) xl.length (aH xl))(hgrow:w0.grownBy w1 none) :
  (w1.setCell ⟨wr.heap.size,1,none⟩ (.slice va xl.length vcp)).cell? ⟨wr.heap.size,0,none⟩=some (.bool xb)/\(w1.setCell ⟨wr.heap.size,1,none⟩ (.slice va xl.length vcp)).cell? ⟨wr.heap.size,1,none⟩=some (.slice va xl.length vcp)/\
   (w1.setCell ⟨wr.heap.size,1,none⟩ (.slice va xl.length vcp)).ownsRow wr.heap.size 36 2 (.slice va xl.length vcp) xl.length (aH xl)/\Below wr.heap.size wr (w1.setCell ⟨wr.heap.size,1,none⟩ (.slice va xl.length vcp)):=by
 have hlt:wr.heap.size<w0.heap.size:=(zw.1 hw0).1;have h1:w1.heap[wr.heap.size]?=some (.cells #[.bool xb,.slice none 0 0] 39):=by rw [hgrow.block _ hlt (by simp),hw0]
 obtain ⟨c0,c1⟩:=aBk h1;refine ⟨?_,World.cell?_setCell_same w1 _ _ c1,?_,(hd.grown hgrow hd.size (λk e=>by simp at e)).setCell (zz _) _⟩
 ·rw [World.cell?_setCell_other w1 _ _ _ (by simp),c0]
 ·refine dI (hown.kept (bQ w1 _ _) ?_) (Nat.le_of_lt hlt);right;intro e;have:=(aT hown _ e).1;simp at this;omega
theorem aPb{Q:List (Lt×Value)}{v:Value}{x:Lt}{N:Nat}(h:((Q.map z4).filterMap zy).Nodup)(h1:∀q∈Q,∀k,q.2.ownBlock=some k->k<N)(h2:∀k,v.ownBlock=some k->N<=k):(((Q++[(x,v)]).map z4).filterMap zy).Nodup:=by
 rw [List.map_append,List.filterMap_append,List.nodup_append];refine ⟨h,?_,λa ha b hb=>?_⟩
 ·simp only [List.map_cons,List.map_nil];cases hv:v.ownBlock <;> simp [List.filterMap,hv]
 ·obtain ⟨u,hu,hua⟩:=za.1 ha;obtain ⟨q,hq,rfl⟩:=zh.1 hu;obtain ⟨u',hu',hub⟩:=za.1 hb;simp at hu';subst hu';have:=h1 q hq a hua;have:=h2 b hub;omega
theorem aPc(a:Option Addr)(cp:Nat)(c:List Lt)(w:World)(h:bD w a c)(hz:oU w a c) :
  Calls zx 12 #[.slice a c.length cp] w λe w'=>∃v Q,e=.returned v/\Q.map zv=c/\w'.ownsRow w.heap.size 39 2 v Q.length (bA Q)/\(∀q∈Q,w'.ownsRow w.heap.size 36 2 q.2 q.1.2.length (aH q.1.2))/\Below w.heap.size w w'/\((Q.map z4).filterMap zy).Nodup:=by
 obtain ⟨iL,hL,hL0,hL1,hL2⟩:=info_parts rX;have hf:=h.few;go_enter Tryz.func12,Tryz.ntmps12;go_wp2;go_loopw [3,4] (λo i wr=>∃(k:Nat) (Q:List (Lt×Value)),k<=c.length/\i=.int .i64 k/\Q.map zv=c.take k/\wr.ownsRow w.heap.size 39 2 o Q.length (bA Q)/\(∀q∈Q,wr.ownsRow w.heap.size 36 2 q.2 q.1.2.length (aH q.1.2))/\Below w.heap.size w wr/\((Q.map z4).filterMap zy).Nodup)
  (λ_ i _=>c.length-(intOf i).toNat)
 case atStart=>exact ⟨0,[],Nat.zero_le _,rfl,rfl,zr _ _ _ _,λq hq=>by simp at hq,Below.refl _ _,by simp⟩
 case round=>
  obtain ⟨k,Q,hk,rfl,hQ,ho,hA,hb,hnd⟩:=hrel;have hQl:Q.length<=k/\k<=Q.length:=by have h1:=congrArg List.length hQ;simp at h1;omega
  by_cases hlt:k<c.length
  ·obtain ⟨b,q,aa,acp,rfl,e1,f1,g1⟩:=h.cell k hlt;have hzz:=hz k hlt b q aa _ acp rfl f1;have e2:=Below.at' hb (zz _) e1;have f2:=Below.at' hb (zz _) f1;have hst:c.take (k+1)=c.take k++[c[k]]:=zn hlt;rw [<-hQ] at hst;have HN:=aA (g1.below hb (zz _));generalize c[k]=x at *;obtain ⟨xb,xl⟩:=x;simp only at e2 f2 HN;have HST:=aA hst;have HA:=aA hA;have HO:=aA ho;have HB:=aA hb;have HND:=aA hnd;have HZ:=aA hzz;have hbs:=hb.size;clear e1 f1 h hst hQ hA ho hb g1 hz hzz hnd;have z1:(0:Int)<=(k:Int):=Int.natCast_nonneg _;have z2:(k:Int)<(c.length:Int):=by omega
   have HN1:=aA (HN.out.below ((Below.refl _ _).alloc (zz _) (.cells #[.bool xb,.slice none 0 0] 39)) (zz _));have l3:b<wr.heap.size:=World.block_lt_of_cell? wr _ f2;have hne1:=World.new_ne wr _ f2;have HF3:=aA (Below.at' ((Below.refl wr.heap.size wr).alloc (zz _) (.cells #[.bool xb,.slice none 0 0] 39)) (zz _) f2);go_wp2_with fail;go_region_law (refine aP9 (by rfl) _ _ (by rfl) aa acp xl (by rfl) (by rfl) (by first | exact HN1.out | exact HN1.out.drawn ⟨1,rfl⟩ | exact HN1.out.drawn ⟨2,rfl⟩) HZ.out ?_;intro v w1 hown1 hgrow;obtain ⟨va,vcp,rfl⟩:=aS hown1;have hcl:=hgrow.cell (a:=⟨wr.heap.size,1,none⟩) (v:=.slice none 0 0) (by simp) (by simp);have hfz:w1.frozen? ⟨wr.heap.size,1,none⟩=false:=(by rw [hgrow.frozen_far _ (by simp) (by simp)];simp);have hc2:=hgrow.cell (a:=⟨b,q+k*2+1,none⟩) (v:=.slice aa xl.length acp) HF3.out (by simp));all_goals
    have hp:=aPa (xb:=xb) (wr:=wr) ((Below.refl _ _).alloc (zz _) (.cells #[.bool xb,.slice none 0 0] 39)).drew (aP5 wr _) hown1 hgrow;generalize w1.setCell ⟨wr.heap.size,1,none⟩ (.slice va xl.length vcp)=w2 at *;obtain ⟨p0,p1,pv,pb⟩:=hp;have ho2:=aU HO.out pb (zz _);have HA2:=aA (λq hq=>aU (HA.out q hq) pb (zz _));have HV:=aA (dI pv hbs);have HNV:=aA (aPb HND.out (λq hq k e=>(aT (HA.out q hq) k e).2) (λk e=>(aT pv k e).1) (x:=(xb,xl)));have HB2:=aA (HB.out.trans (pb.mono hbs));have h2s:=HB2.out.size;clear hown1 hgrow hcl hfz hc2 pv pb e2 f2 hne1;go_wp2_with (first
     | (at_builtin;refine wpList_append_own _ rfl (.tmp 27) (.tmp 29) 22 rfl w.heap.size 39 iL (.agg #[.bool false,.slice none 0 0]) 2 32 Tryz.underlying22 hL hL0 hL1 hL2 rfl (by decide) _ _ _ rfl (ho2.alloc _) ⟨w2.heap.size,0,none⟩ 1 1 [.bool xb,.slice va xl.length vcp] rfl rfl ?c1 ?c2 ?c3 ?c4 ?c5 ?_)
     | go_in)
    case c1=>exact gF _ _ _ _ _ (by simp)
    case c2=>first | exact rY _ _ _ _ | exact ⟨rfl,rfl⟩
    case c3=>unfold maxLen;omega
    case c4=>omega
    case c5=>exact zl h2s (World.grownBy_alloc _ _ none).size
    intro v' w3 ho' hg' _;have R:=aHd (x:=(xb,xl)) (sn:=[]) (s:=.slice none 0 0) (λq hq=>(HA2.out q hq).alloc _) (ho2.alloc _) (zr _ _ _ _) (HV.out.alloc _) ho' hg';have HB3:=aA ((HB2.out.alloc h2s _).grown hg' (by simp;omega) λk e=>(aT ho2 k e).1);have HR:=aA R;clear ho' hg' ho2 R;go_wp2;go_roundw;case rel=>exact ⟨k+1,Q++[((xb,xl),.slice va xl.length vcp)],by omega,by go_num,by rw [HST.out];simp,HR.out.2.1,HR.out.1,HB3.out,HNV.out⟩
    case measure=>simp [intOf];omega
  ·have hk1:c.take k=c:=zg (by omega);rw [hk1] at hQ;have F:=aA (And.intro hQ (And.intro ho (And.intro hA (And.intro hb hnd))));clear hk1 hQ hA ho hb hnd;go_wp2;go_ret;exact ⟨_,Q,rfl,F.out⟩
end
end Go.Proofs.YtcldkjcpofjmhaaGreatDoor
