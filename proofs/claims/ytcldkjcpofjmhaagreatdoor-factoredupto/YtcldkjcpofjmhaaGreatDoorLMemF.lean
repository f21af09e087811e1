import Derived.Test.YtcldkjcpofjmhaaGreatDoorRefs1F
import Derived.Laws.Tables
import Derived.Deep.DeepAppendWide
import Derived.Test.YtcldkjcpofjmhaaGreatDoorONum0F
import Derived.Shelf.Strings.BuilderK
import Derived.Shelf.Strings.BuilderRune
import Derived.Shelf.Strings.Search3
import Derived.Shelf.Utf8.RuneCount
import Derived.Shelf.Unicode.ValidAny
import Derived.Shelf.Strconv.Itoa3
import Derived.Test.YtcldkjcpofjmhaaGreatDoorProg
import Derived.Test.YtcldkjcpofjmhaaGreatDoorText0F
open Array renaming getElem?_eq_some_iff→zs
open Bool renaming eq_iff_iff→zl
open List renaming foldl_cons→zx,take_succ_eq_append_getElem→zv,getElem?_eq_some_iff→zr,append_assoc→zq,foldl_append→zo,getElem_mem→zn,length_cons→zm,getElem?_append_right→zj,getElem?_append_left→zi,append_cancel_left→zc,getElem_cons_zero→zb,nil_append→z8,take_append_drop→yz,mem_iff_getElem→yw,getElem?_take→yv,mem_map→ys,cons_append→yl
open Nat renaming le_refl→zz,mul_le_mul_right→yx
open Or renaming inr→zt,inl→zk
open Prod renaming fst→zw
namespace Go.Proofs.YtcldkjcpofjmhaaGreatDoor
open _root_.Go.Proofs.Tryz renaming prog→zy,underlying37→zp,ntmps132→zh,ntmps113→zg,underlying3→zf,underlying4→ze,underlying9→zd,func132→za,func113→z1,zeroValue3→z2,zeroValue4→z6,zeroValue9→z7,underlying189→yu,sizeOf3→yr,sizeOf4→yq,sizeOf9→yp,zeroValue189→yo,underlying5→yn,underlying0→ym,isAgg3→yk,isAgg4→yj,isAgg9→yi
open Value renaming ownBlock→zu
open World renaming cell?→yy,ownsRow_nil→yt
set_option maxHeartbeats 1000000
set_option maxRecDepth 100000
variable{l:List Nd}{xs:List Value}{B n size:Nat}{o:Option Nat}{e:TypeId}{v:Value}{w w':World}
section
open Go.RowKit
def aX(w:World)(v v':Value):Prop:=v'.ownBlock=v.ownBlock\/∃g,v'.ownBlock=some g/\w.heap.size<=g
theorem aX.refl(w:World)(v:Value):aX w v v:=zk rfl
theorem aX.trans{w w1:World}{v v1 v2:Value}(h:aX w v v1)(k:aX w1 v1 v2)(hs:w.heap.size<=w1.heap.size):aX w v v2:=by
 rcases k with k | ⟨g,k,hg⟩
 ·rcases h with h | ⟨g,h,hg⟩
  ·exact zk (k.trans h)
  ·exact zt ⟨g,k.trans h,hg⟩
 ·exact zt ⟨g,k,by omega⟩
theorem aGu{W W':World}{v1:Value}(h:w.grownBy W v.ownBlock)(hm:aX w v v1)(hg:W.grownBy W' v1.ownBlock):w.grownBy W' v.ownBlock:=
 ⟨hg.os.trans h.os,hg.tape.trans h.tape,hg.output.trans h.output,Nat.le_trans h.size hg.size,λk hk ho=>by
  rw [hg.block k (Nat.lt_of_lt_of_le hk h.size) (λe=>by
   rcases hm with hm | ⟨g,hm,hgg⟩
   ·exact ho (e.trans hm)
   ·rw [hm] at e;simp at e;omega),h.block k hk ho]⟩
theorem fV(h:Below w.heap.size w w'):w.grownBy w' o:=⟨h.os,h.tape,h.output,h.size,λk hk _=>h.block k hk⟩
theorem aGv(l:List Nd):∀u∈aG l,u.oneCell'=true:=by intro u hu;simp only [aG,List.mem_flatMap] at hu;obtain ⟨n,_,hu⟩:=hu;simp at hu;rcases hu with rfl | rfl <;> rfl
def fP(w:World)(B:Nat)(v:Value)(l:List Nd):Prop:=w.ownsRow B 36 2 v l.length (aG l)
theorem fP.shape(h:fP w B v l):∃a n c,v=.slice a n c:=by obtain ⟨a,c,e⟩:=aS h;exact ⟨a,_,c,e⟩
theorem cH(h:w.ownsRow B e size v n xs)(hg:w.grownBy w' o)(ho:v.ownBlock=none\/v.ownBlock≠o):w'.ownsRow B e size v n xs:=by
 obtain ⟨h1,⟨rfl,h2⟩ | ⟨g,cap,cur,rfl,hb,hh,hr⟩⟩:=h
 ·exact ⟨h1,zk ⟨rfl,h2⟩⟩
 ·refine ⟨h1,zt ⟨g,cap,cur,rfl,hb,?_,hr⟩⟩;rw [hg.block g (zs.1 hh).1 ?_,hh];rintro rfl;rcases ho with ho | ho
  ·simp [zu] at ho
  ·simp [zu] at ho
theorem qK(h:w.ownsRow B e size v n xs):v.ownBlock≠some w.heap.size:=λe=>by have:=(aT h _ e).2;omega
theorem cE{tb:Nat}{T:TypeId}{cs:Array Value}(h:w.ownsRow B e size v n xs)(hb:w.heap[tb]?=some (.cells cs T))(he:e≠T):v.ownBlock≠some tb:=by
 obtain ⟨_,⟨rfl,_⟩ | ⟨g,cap,cur,rfl,_,hg,_⟩⟩:=h
 ·simp [zu]
 ·simp [zu];rintro rfl;rw [hg] at hb;simp at hb;exact he hb.2
theorem eC{tb j:Nat}{T:TypeId}{x:Value}{cs:Array Value}(h:w.ownsRow B e size v n xs)(hb:w.heap[tb]?=some (.cells cs T))(he:e≠T):(w.setCell ⟨tb,j,none⟩ x).ownsRow B e size v n xs:=
 cH h (bR w ⟨tb,j,none⟩ x) (zt (cE h hb he))
theorem aBv(h:w.ownsRow B 36 2 v l.length (aG l)) :
  ∃a cap,v=.slice a l.length cap/\∀k n,l[k]?=some n->∃g,a=some ⟨g,0,none⟩/\w.cell? ⟨g,k*2,none⟩=some (.string n.1)/\w.cell? ⟨g,k*2+1,none⟩=some (.int .i64 n.2):=by
 obtain ⟨h1,⟨rfl,h2⟩ | ⟨g,cap,cur,rfl,hb,hh,hc,hm,hz,ht⟩⟩:=h
 ·refine ⟨none,0,by rw [h2],λk n hk=>?_⟩;have:=(zr.1 hk).1;omega
 ·have ho:w.ownsRow B 36 2 (.slice (some ⟨g,0,none⟩) l.length cap) l.length (aG l):=⟨h1,zt ⟨g,cap,cur,rfl,hb,hh,hc,hm,hz,ht⟩⟩;refine ⟨_,_,rfl,λk n hk=>⟨g,rfl,?_,?_⟩⟩
  ·obtain ⟨hl,rfl⟩:=zr.1 hk;rw [ho.cellAt (k*2) (by omega),(tK l k hl).1]
  ·obtain ⟨hl,rfl⟩:=zr.1 hk;rw [ho.cellAt (k*2+1) (by omega),(tK l k hl).2]
theorem kB(h:w.ownsRow B e size v n xs):∃a m c,v=.slice a m c:=by obtain ⟨a,c,e⟩:=aS h;exact ⟨a,_,c,e⟩
theorem tQ(w:World)(x y:Value)(t:TypeId):(w.alloc (.cells #[x,y] t)).cell? ⟨w.heap.size,0,none⟩=some x/\(w.alloc (.cells #[x,y] t)).cell? ⟨w.heap.size,1,none⟩=some y:=by
 have h:(w.alloc (.cells #[x,y] t)).heap[w.heap.size]?=some (.cells #[x,y] t):=by show (w.heap.push _)[w.heap.size]?=_;simp
 constructor
 ·unfold yy;rw [h];rfl
 ·unfold yy;rw [h];rfl
theorem wR(w:World)(base:Nat)(t ty e:TypeId)(i:TypeInfo)(z:Value)(size bytes:Nat)(ht:zy.underlying t=some (.slice e))(hi:zy.info? e=some i)(hz:i.zero=some z)
  (hsize:i.size=size) (hby:i.bytes=bytes) (hsz:0<size)
  (v:Value) (n:Nat) (xs:List Value) (hown:w.ownsRow base e size v n xs) (hv:v.ownBlock≠none)
  (a:Addr) (m c:Nat) (news:List Value) (hl:news.length=m*size) (hnews:∀j u,news[j]?=some u->w.cell? (a.add j)=some u) (h1:∀u∈news,u.oneCell'=true)
  (h63:n+m<=maxLen) (hbytes:(n+m)*bytes<=140737488355328) {v':Value} {w':World} (hr:(Builtin.append_ #[t,t] ty #[v,.slice (some a) m c]).run zy w=.ok v' w') :
  v'.ownBlock=v.ownBlock\/v'.ownBlock=some w.heap.size:=by
 subst hsize;subst hby
 have hsmall:n+m<=9223372036854775807:=by simp only [maxLen] at h63;omega
 rcases hown.2 with ⟨rfl,rfl⟩ | ⟨g,cap,cur,rfl,hbg,hg,hnc,hcm,hcs,htake⟩
 ·exact absurd rfl hv
 ·by_cases hroom:n+m<=cap
  ·have hfit:n*i.size+news.length<=cur.size:=by rw [hl,hcs,<-Nat.add_mul];exact yx _ hroom
   have hr':=run_append_room (P:=zy) w t ty e i ht hi g n cap cur hg a m c news hl hnews h1 hroom hfit;rw [hr'] at hr;simp at hr;rw [<-hr.1];exact zk rfl
  ·have holds:∀j u,xs[j]?=some u->w.cell? ((⟨g,0,none⟩ : Addr).add j)=some u:=hown.cells (g:=g) rfl;have hr':=run_append_grow (P:=zy) w t ty e i z ht hi hz ⟨g,0,none⟩ n cap xs hown.1 holds a m c news hl hnews (by omega) (by omega) (growslice_fits (by omega) hbytes);rw [hr'] at hr;simp at hr;rw [<-hr.1];exact zt rfl
theorem tR{ops:Array Oper}{i:Nat}{o:Oper}{a:Act}{K:Act->World->Prop}{Q:Exit->Act->World->Prop}(hi:ops[i]?=some o)(hg:o.guard=none)(hr:(execOp a.eval o).run zy w=.ok (.value v) w')(h:K (a.put o.dst v) w'):wpOp zy ops Q i K a w:=by
 refine wpOp_step hi λK' hK=>?_
 rw [if_pos (by simp [Region.wanted,hg])];unfold Oper.wp;rw [hr];exact hK _ _ h
end
section
open Go.RowKit Go.Shelf
def wS(m:Int):Nd:=(⟨#[35]⟩,m)
def MkC(cur:Array Value)(n:Nat)(m:Int):Prop:=∀k,k<n->cur[k*2]?=some (.string ⟨#[35]⟩)/\cur[k*2+1]?=some (.int .i64 m)
def dV(w:World)(v:Value)(m:Int):Prop:=v=.slice none 0 0\/∃g n c cur,v=.slice (some ⟨g,0,none⟩) n c/\w.heap[g]?=some (.cells cur 36)/\MkC cur n m/\n<=5864062014809
abbrev mks(n:Nat)(m:Int):List Nd:=List.replicate n (wS m)
theorem aGw(n:Nat)(m:Int)(k:Nat)(h:k<n):(aG (mks n m))[k*2]?=some (.string ⟨#[35]⟩)/\(aG (mks n m))[k*2+1]?=some (.int .i64 m):=by have:=tK (mks n m) k (by simpa using h);simpa [wS] using this
theorem dV.of_own{m:Int}(h:w.ownsRow B 36 2 v n (aG (mks n m)))(hn:n<=5864062014809):dV w v m:=by
 obtain ⟨h1,⟨rfl,h2⟩ | ⟨g,cap,cur,rfl,hb,hh,hc,hm,hz,ht⟩⟩:=h
 ·exact zk rfl
 ·refine zt ⟨g,n,cap,cur,rfl,hh,λk hk=>?_,hn⟩;obtain ⟨a,b⟩:=aGw n m k hk;rw [<-ht] at a b;rw [yv,if_pos (by omega)] at a b;exact ⟨by simpa using a,by simpa using b⟩
theorem dV.grown{m:Int}(h:dV w v m)(hg:w.grownBy w' o)(ho:v.ownBlock=none\/v.ownBlock≠o):dV w' v m:=by
 rcases h with h | ⟨g,n,c,cur,rfl,hh,hk⟩
 ·exact zk h
 ·refine zt ⟨g,n,c,cur,rfl,?_,hk⟩;rw [hg.block g (zs.1 hh).1 ?_,hh];rcases ho with ho | ho
  ·simp [zu] at ho
  ·intro e;exact ho (by rw [<-e];rfl)
theorem dV.below{m:Int}(h:dV w v m)(hb:Below w.heap.size w w'):dV w' v m:=h.grown (fV (o:=none) hb) (by
 cases v.ownBlock <;> simp)
theorem aGx{α:Type}(l ns:List α)(p:Nat)(hp:p+ns.length<=l.length)(j:Nat):(l.take p++ns++l.drop (p+ns.length))[j]?=if j<p then l[j]? else if j<p+ns.length then ns[j-p]? else l[j]?:=by
 by_cases h1:j<p
 ·rw [if_pos h1,zq,zi (by simp;omega),yv,if_pos h1]
 ·rw [if_neg h1];by_cases h2:j<p+ns.length
  ·rw [if_pos h2,zi (by simp;omega),zj (by simp;omega)];simp;congr 1
   omega
  ·rw [if_neg h2,zj (by simp;omega),List.getElem?_drop];congr 1
   simp;omega
theorem aQc(w:World)(ty:TypeId)(B:Nat)(v:Value)(n:Nat)(m:Int)(ho:w.ownsRow B 36 2 v n (aG (mks n m)))(hB:B<=w.heap.size)(a:Addr)(k c:Nat)(hk:0<k/\k<=3)(hn:n<=5864062014805)(hnews:∀j u,(aG (mks k m))[j]?=some u->w.cell? (a.add j)=some u) :
  ∃v' w',(Builtin.append_ #[37,37] ty #[v,.slice (some a) k c]).run zy w=.ok v' w'/\w'.ownsRow B 36 2 v' (n+k) (aG (mks (n+k) m))/\w'.ownsRow B 36 2 v n (aG (mks n m))/\w.grownBy w' v.ownBlock/\aX w v v'/\∀u,dV w u m->dV w' u m:=by
 obtain ⟨i,hi,hz,hss,hy⟩:=info_parts nB;have hcells:aG (mks (n+k) m)=aG (mks n m)++aG (mks k m):=by rw [show mks (n+k) m=mks n m++mks k m from List.replicate_append_replicate.symm];unfold aG;rw [List.flatMap_append]
 have hl:(aG (mks k m)).length=k*2:=by rw [qC];simp
 have h1:=aGv (mks k m);by_cases hv:v.ownBlock=none
 ·have hnil:v=.slice none 0 0/\n=0:=by
   obtain ⟨_,h | ⟨g,cap,cur,rfl,_⟩⟩:=ho
   ·exact h
   ·simp [zu] at hv
  obtain ⟨rfl,rfl⟩:=hnil;obtain ⟨v',w',hr,r1,r2,r3⟩:=run_append_own_wide (P:=zy) w w.heap.size 37 ty 36 i _ 2 24 zp hi hz hss hy rfl (by decide) (.slice none 0 0) 0 [] (yt _ _ _ _) a k c (aG (mks k m)) hl hnews h1 (by unfold maxLen;omega) (by omega) (zz _);refine ⟨v',w',hr,by rw [hcells];exact dN r1 hB,yt _ _ _ _,r2,?_,λu hu=>hu.grown r2 (by cases hub:u.ownBlock with | none=>exact zk rfl | some g=>exact zt (by simp [zu]))⟩;cases hb:v'.ownBlock with
  | none=>exact zk (by rw [hb,hv])
  | some g'=>exact zt ⟨g',hb,(aT r1 g' hb).1⟩
 ·obtain ⟨ho1,⟨rfl,_⟩ | ⟨g,cap,cur,rfl,hbg,hg,hnc,hcm,hcs,htake⟩⟩:=ho
  ·exact absurd rfl hv
  ·have ho:w.ownsRow B 36 2 (.slice (some ⟨g,0,none⟩) n cap) n (aG (mks n m)):=⟨ho1,zt ⟨g,cap,cur,rfl,hbg,hg,hnc,hcm,hcs,htake⟩⟩;by_cases hroom:n+k<=cap
   ·have hfit:n*2+(aG (mks k m)).length<=cur.size:=by rw [hl,hcs,<-Nat.add_mul];exact yx _ hroom
    have hr:=run_append_room (P:=zy) w 37 ty 36 i zp hi g n cap cur hg a k c (aG (mks k m)) (by rw [hl,hss]) hnews h1 hroom (by rw [hss];exact hfit);rw [hss] at hr;have hget:∀j,((cur.toList.take (n*2)++aG (mks k m)++cur.toList.drop (n*2+(aG (mks k m)).length)).toArray)[j]?=if j<n*2 then cur[j]? else if j<n*2+k*2 then (aG (mks k m))[j-n*2]? else cur[j]?:=by intro j;have:=aGx cur.toList (aG (mks k m)) (n*2) (by simpa using hfit) j;rw [hl] at this ⊢;simpa using this
    have hkeep:∀n' ,MkC cur n' m->MkC ((cur.toList.take (n*2)++aG (mks k m)++cur.toList.drop (n*2+(aG (mks k m)).length)).toArray) n' m:=by
     intro n' hm j hj;obtain ⟨q1,q2⟩:=hm j hj;rw [hget,hget];by_cases e1:j<n
     ·simp only [if_pos (show j*2<n*2 by omega),if_pos (show j*2+1<n*2 by omega)];exact ⟨q1,q2⟩
     ·simp only [if_neg (show ¬j*2<n*2 by omega),if_neg (show ¬j*2+1<n*2 by omega)];by_cases e2:j<n+k
      ·obtain ⟨r1,r2⟩:=aGw k m (j-n) (by omega);simp only [if_pos (show j*2<n*2+k*2 by omega),if_pos (show j*2+1<n*2+k*2 by omega)];rw [show j*2-n*2=(j-n)*2 by omega,show j*2+1-n*2=(j-n)*2+1 by omega];exact ⟨r1,r2⟩
      ·simp only [if_neg (show ¬j*2<n*2+k*2 by omega),if_neg (show ¬j*2+1<n*2+k*2 by omega)];exact ⟨q1,q2⟩
    generalize hcur':(cur.toList.take (n*2)++aG (mks k m)++cur.toList.drop (n*2+(aG (mks k m)).length)).toArray=cur' at *;have hsz:cur'.size=cur.size:=by rw [<-hcur'];simp;omega
    have htl:cur'.toList=cur.toList.take (n*2)++aG (mks k m)++cur.toList.drop (n*2+(aG (mks k m)).length):=by rw [<-hcur']
    have hh':(w.setRow g cur').heap[g]?=some (.cells cur' 36):=setRow_heap w g cur _ 36 _ hg;have hgr:w.grownBy (w.setRow g cur') (some g):=⟨rfl,rfl,rfl,by simp,λq _ hq=>setRow_other w g q _ (λe=>hq (by simp [e]))⟩;refine ⟨_,_,hr,⟨by rw [qC];simp,zt ⟨g,cap,cur',rfl,hbg,hh',hroom,hcm,by rw [hsz,hcs],?_⟩⟩,⟨ho1,zt ⟨g,cap,cur',rfl,hbg,hh',hnc,hcm,by rw [hsz,hcs],?_⟩⟩,hgr,zk rfl,?_⟩
    ·rw [htl,htake,hcells];exact List.take_left' (by rw [List.length_append,qC,qC];simp;omega)
    ·rw [htl,htake,zq];exact List.take_left' (by rw [qC];simp)
    ·intro u hu;rcases hu with hu | ⟨g',n',c',cu,rfl,hgu,hmk,hn'⟩
     ·exact zk hu
     ·by_cases e:g'=g
      ·subst e;rw [hg] at hgu;simp at hgu;subst hgu;exact zt ⟨g',n',c',cur',rfl,hh',hkeep n' hmk,hn'⟩
      ·exact zt ⟨g',n',c',cu,rfl,by rw [hgr.block g' (zs.1 hgu).1 (by simpa using e),hgu],hmk,hn'⟩
   ·have holds:∀j u,(aG (mks n m))[j]?=some u->w.cell? ((⟨g,0,none⟩ : Addr).add j)=some u:=ho.cells (g:=g) rfl;have hr:=run_append_grow (P:=zy) w 37 ty 36 i _ zp hi hz ⟨g,0,none⟩ n cap (aG (mks n m)) (by rw [hss];exact ho1) holds a k c (aG (mks k m)) (by rw [hl,hss]) hnews (by omega) (by omega) (growslice_fits_wide (by omega) (by rw [hy];omega));obtain ⟨v',w',hr',r1,r2,_⟩:=run_append_own_wide (P:=zy) w B 37 ty 36 i _ 2 24 zp hi hz hss hy rfl (by decide) _ n (aG (mks n m)) ho a k c (aG (mks k m)) hl hnews h1 (by unfold maxLen;omega) (by omega) hB;rw [hr] at hr';injection hr' with e1 e2;subst e1;subst e2;have hb:Below w.heap.size w (w.drew.alloc (.cells ((aG (mks n m)).toArray++(aG (mks k m)).toArray++Builtin.zeroCells (Value.agg #[.string ⟨#[]⟩,.int .i64 0]).cells (grownCap w (n+k) cap 36-(n+k))) 36)):=(aI (w1:=w.drew) ⟨1,rfl⟩).alloc (zz _) _;exact ⟨_,_,hr,by rw [hcells];exact r1,aU ho hb (zz _),r2,zt ⟨_,rfl,zz _⟩,λu hu=>hu.below hb⟩
end
section
open Go.RowKit
def fQ(l:List Nd):Bool:=fT l && !aF (l.headD (⟨#[]⟩,0))
def dI(c:List Lt):Bool:=dP c && (c.all λl=>fQ l.2) && decide (c=aR c)
theorem aQd(l:List Nd)(seen:List Int):(cG l seen).1.map zw=l.map zw:=by
 suffices ∀(l:List Nd) (st:List Nd×List Int),(l.foldl dC st).1.map zw=st.1.map zw++l.map zw by
  have h:=this l ([],seen);simpa [cG] using h
 intro l;induction l with
 | nil=>intro st;simp
 | cons x r ih=>
  intro st;rw [zx,ih];have:(dC st x).1.map zw=st.1.map zw++[x.1]:=by
   unfold dC;split
   ·split <;> simp
   ·simp
  rw [this];simp
theorem aQe(c:List Lt):∀x∈(cQ c).1,∃y∈c,x.2.map zw=y.2.map zw:=by
 suffices ∀(c:List Lt) (st:List Lt×List Int),∀x∈(c.foldl eE st).1,x∈st.1\/∃y∈c,x.2.map zw=y.2.map zw by
  intro x hx;rcases this c ([],[]) x hx with h | h
  ·simp at h
  ·exact h
 intro c;induction c with
 | nil=>intro st x hx;exact zk hx
 | cons y r ih=>
  intro st x hx;rcases ih (eE st y) x hx with h | ⟨z,hz,hz'⟩
  ·rcases List.mem_append.1 (show x∈st.1++[(y.1,(cG y.2 st.2).1)] from h) with h | h
   ·exact zk h
   ·simp at h;subst h;exact zt ⟨y,by simp,aQd _ _⟩
  ·exact zt ⟨z,by simp [hz],hz'⟩
theorem aQf(c:List Lt):∀x∈aR c,∃y∈c,x.2.map zw=y.2.map zw:=by intro x hx;obtain ⟨y,hy,h⟩:=aQe _ x hx;exact ⟨y,(qQ c).2.2 y hy,h⟩
def tS(c:List Lt):Prop:=∀x∈c,x.2.length<=5864062014805/\∀n∈x.2,n.1.size<=140737488355328
theorem bE.shorts{a:Option Addr}{c:List Lt}(h:bE w a c):tS c:=by intro x hx;obtain ⟨k,hk,rfl⟩:=yw.1 hx;obtain ⟨_,_,_,_,_,_,_,g⟩:=h.cell k hk;refine ⟨g.few,λn hn=>?_⟩;obtain ⟨j,hj,rfl⟩:=yw.1 hn;exact g.short j hj
theorem tS.ord{c:List Lt}(h:tS c):tS (aR c):=by
 intro x hx;obtain ⟨y,hy,hxy⟩:=aQf c x hx;have hl:x.2.length=y.2.length:=by have:=congrArg List.length hxy;simpa using this
 refine ⟨by rw [hl];exact (h y hy).1,λn hn=>?_⟩;have:n.1∈y.2.map zw:=by rw [<-hxy];exact ys.2 ⟨n,hn,rfl⟩
 obtain ⟨m,hm,hmn⟩:=ys.1 this;rw [<-hmn];exact (h y hy).2 m hm
theorem aBx{Q:List (Lt×Value)}{d:List Lt}(hd:Q.map zw=d)(ho:w.ownsRow B 39 2 v Q.length (bA Q))(hQ:∀q∈Q,w.ownsRow B 36 2 q.2 q.1.2.length (aG q.1.2))(hf:d.length<=4398046511104)(hs:tS d) :
  ∃a cap,v=.slice a d.length cap/\bE w a d:=by
 subst hd;obtain ⟨a,cap,rfl,hc⟩:=qR ho;refine ⟨a,cap,by simp,hf,λk hk=>?_⟩;have hk':k<Q.length:=by simpa using hk
 obtain ⟨g,rfl,h1,h2⟩:=hc k hk';have hq:=hQ Q[k] (zn _);have hm:Q[k].1∈Q.map zw:=ys.2 ⟨Q[k],zn _,rfl⟩;obtain ⟨aa,acp,hv,hn⟩:=rT hq (hs _ hm).1 (λj hj=>(hs _ hm).2 _ (zn _));rw [hv] at h2;refine ⟨g,0,aa,acp,rfl,?_,?_,?_⟩
 ·rw [Nat.zero_add,h1];simp
 ·rw [Nat.zero_add,h2];simp
 ·simpa using hn
theorem aGy:fT []=false:=by decide
theorem aQg(a:Option Addr)(cp:Nat)(c:List Lt)(w:World)(h:bE w a c) :
  Calls zy 24 #[.slice a c.length cp] w λe w'=>e=.returned (.bool (dI c))/\Below w.heap.size w w':=by
 have hf:=h.few;have cF:=aSz a cp c w h;by_cases hfit:dP c=true
 ·have hcount:c.length<=8/\aK c<=60:=by simpa [dP] using hfit
  rw [hfit] at cF;have HF:=aA cF;have HH:=aA h;have HE:Hid (dI c=((c.all λl=>fQ l.2) && decide (c=aR c))):=by unfold dI;rw [hfit];exact Bool.true_and _▸rfl
  obtain ⟨h8,h60⟩:=hcount;clear cF hfit h;go_enter Tryz.func24,Tryz.ntmps24;go_wp2_with (go_at_call 41;refine (aB HF).mono ?_;rintro e w' ⟨rfl,rfl⟩);go_loopw [4] (λi wr=>∃k:Nat,k<=c.length/\i=.int .i64 k/\Below w'.heap.size w' wr/\((c.take k).all λl=>fQ l.2)=true) (λi _=>c.length-(intOf i).toNat);case atStart=>exact ⟨0,Nat.zero_le _,rfl,Below.refl _ _,rfl⟩
  case round=>
   obtain ⟨k,hk,rfl,hb,hall⟩:=hrel;by_cases hlt:k<c.length
   ·obtain ⟨b,q,aa,acp,rfl,e1,f1,g1⟩:=HH.out.cell k hlt;have e2:=Below.at' hb (zz _) e1;have f2:=Below.at' hb (zz _) f1;have cT:=aRg aa acp c[k].2 wr (g1.below hb (zz _));have HSN:Hid (((c.take (k+1)).all λl=>fQ l.2)=fQ c[k].2):=by
     rw [zv hlt,List.all_append,hall];exact Bool.and_true _▸rfl
    have HN:Hid (fQ c[k].2=false->dI c=false):=λhx=>by
     rw [HE.out,Bool.and_eq_false_iff];left;rw [List.all_eq_false];exact ⟨c[k],zn _,by simp [hx]⟩
    have HB:=aA hb;have hbs:=hb.size;clear e1 f1 hall hb;generalize c[k]=x at *;obtain ⟨xb,xl⟩:=x;simp only at e2 f2 g1 cT;by_cases ht:fT xl=true
    ·cases xl with
     | nil=>rw [aGy] at ht;exact absurd ht (by simp)
     | cons n0 r=>
      rw [ht] at cT;obtain ⟨b0,o0,rfl,e0,f0⟩:=g1.cell 0 (by simp);simp only [zb,Nat.zero_mul,Nat.add_zero] at e0 f0;obtain ⟨s0,x0⟩:=n0;simp only at e0;have HT:=aA cT;have hfl:=g1.few;simp only [zm] at hfl e2 f2;have e0r:=Below.at' HB.out (zz _) e0;have hv0:fQ ((s0,x0) :: r) = !s0.toList.isEmpty:=by simp [fQ,ht,aF]
      clear cT g1 e0 f0 ht;cases hv:s0.toList.isEmpty
      ·have HV:=aA (show fQ ((s0,x0) :: r)=true by rw [hv0];first | rfl | simp [hv]);clear hv0;go_wp2_with (first
        | (go_at_call 42;refine (aB HT).mono ?_;rintro e w2 ⟨rfl,hb2⟩;have q1:=Below.at' hb2 (zz _) e2;have q2:=Below.at' hb2 (zz _) f2;have q3:=Below.at' hb2 (zz _) e0r;have HB2:=aA (HB.out.trans (hb2.mono hbs));clear hb2)
        | go_in)
       go_roundw;case rel=>exact ⟨k+1,by omega,by go_num,HB2.out,by rw [HSN.out,HV.out]⟩
       case measure=>simp [intOf];omega
      ·have HV:=aA (show fQ ((s0,x0) :: r)=false by rw [hv0];first | rfl | simp [hv]);clear hv0;go_wp2_with (first
        | (go_at_call 42;refine (aB HT).mono ?_;rintro e w2 ⟨rfl,hb2⟩;have q1:=Below.at' hb2 (zz _) e2;have q2:=Below.at' hb2 (zz _) f2;have q3:=Below.at' hb2 (zz _) e0r;have HB2:=aA (HB.out.trans (hb2.mono hbs));clear hb2)
        | go_in)
       go_ret;exact ⟨cI (HN.out HV.out).symm,HB2.out⟩
    ·have ht':fT xl=false:=by simpa using ht
     rw [ht'] at cT;have HT:=aA cT;have HV:=aA (HN.out (by unfold fQ;rw [ht'];rfl));clear cT ht ht' g1;go_wp2_with (first
      | (go_at_call 42;refine (aB HT).mono ?_;rintro e w2 ⟨rfl,hb2⟩;have HB2:=aA (HB.out.trans (hb2.mono hbs));clear hb2)
      | go_in)
     go_ret;exact ⟨cI HV.out.symm,HB2.out⟩
   ·have hk1:c.take k=c:=List.take_of_length_le (by omega);rw [hk1] at hall;have HA:Hid (dI c=decide (c=aR c)):=by rw [HE.out,hall];exact Bool.true_and _▸rfl
    have HB:=aA hb;have hbs:=hb.size;have hw:=HH.out.below hb (zz _);have cO:=aI6 a cp c wr hw (by omega);have hlen:(aR c).length<=8:=by have h1:=(pG (cK c)).1;have h2:=(qQ c).1;have h3:(aR c).length=(cK c).length:=h1;omega
    have HL:=aA hlen;have HO:=aA cO;have HW:=aA hw;clear hk1 hall hb hw cO hlen;go_wp2_with (first
     | (go_at_call 43;refine (aB HO).mono ?_;rintro e w2 ⟨v,Q,rfl,hQ,ho,hQa,hb2⟩;obtain ⟨oa,ocp,rfl,hlits⟩:=aBx hQ ho hQa (by have:=HL.out;omega) HH.out.shorts.ord;have HS:=aA (aHw a oa cp ocp c (aR c) w2 (HW.out.below hb2 (zz _)) hlits);have HB2:=aA (HB.out.trans (hb2.mono hbs));clear hQ ho hQa hb2 hlits)
     | (go_at_call 14;refine (aB HS).mono ?_;rintro e w3 ⟨rfl,hd⟩;have HB3:=aA (HB2.out.trans ((aI hd).mono HB2.out.size));clear hd)
     | go_in)
    go_ret;exact ⟨cI HA.out.symm,HB3.out⟩
 ·have hfit':dP c=false:=by simpa using hfit
  rw [hfit'] at cF;have HE:Hid (dI c=false):=by unfold dI;rw [hfit'];rfl
  have HF:=aA cF;clear cF hfit hfit' h;go_enter Tryz.func24,Tryz.ntmps24;go_wp2_with (go_at_call 41;refine (aB HF).mono ?_;rintro e w' ⟨rfl,rfl⟩);go_ret;exact ⟨cI HE.out.symm,Below.refl _ _⟩
end
section
open Go.Shelf Go.Proofs
def wT:Go.Shelf.Ren:=⟨fun | 143=>157 | 144=>147 | 195=>148 | 196=>146 | 217=>155 | 219=>166 | 224=>142 | 225=>143 | 259=>156 | 266=>165 | 267=>169 | 314=>170 | n=>n,fun | 0=>0 | 3=>3 | 4=>4 | 5=>5 | 9=>9 | 12=>12 | 46=>189 | 51=>208 | 53=>205 | 119=>195 | 138=>197 | 139=>198 | 146=>209 | n=>n,fun | 1=>0 | 3=>1 | 4=>2 | n=>n⟩
theorem aQh:Lays.n144 zy wT:={
 mixed:=by kernel_rfl
 f143:=Tryz.func157.trans (congrArg some (by kernel_rfl))
 f144:=Tryz.func147.trans (congrArg some (by kernel_rfl))
 f217:=Tryz.func155.trans (congrArg some (by kernel_rfl))
 f219:=Tryz.func166.trans (congrArg some (by kernel_rfl))
 f224:=Tryz.func142.trans (congrArg some (by kernel_rfl))
 f225:=Tryz.func143.trans (congrArg some (by kernel_rfl))
 f266:=Tryz.func165.trans (congrArg some (by kernel_rfl))
 f267:=Tryz.func169.trans (congrArg some (by kernel_rfl))
 f314:=Tryz.func170.trans (congrArg some (by kernel_rfl))
 t3:=zf
 a3:=yk
 z3:=yr
 v3:=z2
 t4:=ze
 a4:=yj
 z4:=yq
 v4:=z6
 t5:=yn
 a5:=Tryz.isAgg5
 z5:=Tryz.sizeOf5
 v5:=Tryz.zeroValue5
 t9:=zd
 a9:=yi
 z9:=yp
 v9:=z7
 t46:=yu
 a46:=Tryz.isAgg189
 z46:=Tryz.sizeOf189
 v46:=yo
 t51:=Tryz.underlying208
 a51:=Tryz.isAgg208
 z51:=Tryz.sizeOf208
 v51:=Tryz.zeroValue208
 t146:=Tryz.underlying209
 a146:=Tryz.isAgg209
 z146:=Tryz.sizeOf209
 v146:=Tryz.zeroValue209
 g1:=by kernel_rfl}
theorem aQi:Lays.n195 zy wT:={
 mixed:=by kernel_rfl
 f195:=Tryz.func148.trans (congrArg some (by kernel_rfl))
 t0:=ym
 a0:=Tryz.isAgg0
 z0:=Tryz.sizeOf0
 v0:=Tryz.zeroValue0
 t3:=zf
 a3:=yk
 z3:=yr
 v3:=z2
 t4:=ze
 a4:=yj
 z4:=yq
 v4:=z6
 t9:=zd
 a9:=yi
 z9:=yp
 v9:=z7}
theorem aGz:Lays.n196 zy wT:={
 mixed:=by kernel_rfl
 f196:=Tryz.func146.trans (congrArg some (by kernel_rfl))
 f259:=Tryz.func156.trans (congrArg some (by kernel_rfl))
 t0:=ym
 a0:=Tryz.isAgg0
 z0:=Tryz.sizeOf0
 v0:=Tryz.zeroValue0
 t3:=zf
 a3:=yk
 z3:=yr
 v3:=z2
 t4:=ze
 a4:=yj
 z4:=yq
 v4:=z6
 t5:=yn
 a5:=Tryz.isAgg5
 z5:=Tryz.sizeOf5
 v5:=Tryz.zeroValue5
 t9:=zd
 a9:=yi
 z9:=yp
 v9:=z7
 t12:=Tryz.underlying12
 a12:=Tryz.isAgg12
 z12:=Tryz.sizeOf12
 v12:=Tryz.zeroValue12
 t46:=yu
 a46:=Tryz.isAgg189
 z46:=Tryz.sizeOf189
 v46:=yo
 t53:=Tryz.underlying205
 a53:=Tryz.isAgg205
 z53:=Tryz.sizeOf205
 v53:=Tryz.zeroValue205
 t119:=Tryz.underlying195
 a119:=Tryz.isAgg195
 z119:=Tryz.sizeOf195
 t138:=Tryz.underlying197
 a138:=Tryz.isAgg197
 z138:=Tryz.sizeOf197
 v138:=Tryz.zeroValue197
 t139:=Tryz.underlying198
 a139:=Tryz.isAgg198
 z139:=Tryz.sizeOf198
 v139:=Tryz.zeroValue198
 g3:=by kernel_rfl
 g4:=by kernel_rfl}
end
section
open Go.RowKit Go.Shelf
def jF(w:World):Prop:=Lib.Utf8Tabs (wT.g 3) (wT.g 4) w
theorem jF.below{w1:World}(h:jF w){B:Nat}(k:Below B w w1)(hB:w.heap.size<=B):jF w1:=
 ⟨λc hc=>Below.at' k hB (h.1 c hc),λi hi=>⟨Below.at' k hB (h.2 i hi).1,Below.at' k hB (h.2 i hi).2⟩⟩
theorem aQj(s:ByteArray)(w:World)(hs:s.size<=140737488355328)(hT:jF w) :
  Calls zy 132 #[.string s] w λe w'=>e=.returned (.bool (gE s))/\Below w.heap.size w w':=by
 by_cases h80:s.size<=80
 ·have cV:Calls zy 146 #[.string s] w _:=Any.utf8_ValidString aGz s w (by omega) hT;have cC:=λwx=>(Any.strings_Contains_one aQh s 10 wx:Calls zy 147 #[.string s,.string ⟨#[10]⟩] wx _)
  have cR:=λwx=>(Any.utf8_RuneCountInString aQi s wx (by omega):Calls zy 148 #[.string s] wx _)
  have heq:=aUj s;have hrc:=Lib.runeCount_le s;generalize Lib.validD s.data.toList=v at *;generalize decide (0<=Lib.indexByte s.data.toList 10)=n at *;generalize Lib.runeCount s=r at *;have HE:=aA heq;have HV:=aA cV;have HC:=aA cC;have HR:=aA cR;clear heq cV cC cR hT;cases v
  ·go_enter za,zh;go_wp2_with (go_at_call 146;refine (aB HV).mono ?_;rintro e w' ⟨rfl,hb⟩;have HB:=aA hb;clear hb);go_ret;exact ⟨cI (by rw [HE.out];rfl),HB.out⟩
  ·cases n
   ·go_enter za,zh;go_wp2_with (first
     | (go_at_call 146;refine (aB HV).mono ?_;rintro e w' ⟨rfl,hb⟩;have HB:=aA hb;clear hb)
     | (go_at_call 147;refine (aB HC _).mono ?_;rintro e w2 ⟨rfl,rfl⟩)
     | (go_at_call 148;refine (aB HR _).mono ?_;rintro e w3 ⟨rfl,pos,rfl⟩))
    all_goals
     go_ret;refine ⟨cI ?_,HB.out.alloc HB.out.size _⟩;rw [HE.out,zl];simp;omega
   ·go_enter za,zh;go_wp2_with (first
     | (go_at_call 146;refine (aB HV).mono ?_;rintro e w' ⟨rfl,hb⟩;have HB:=aA hb;clear hb)
     | (go_at_call 147;refine (aB HC _).mono ?_;rintro e w2 ⟨rfl,rfl⟩))
    go_ret;exact ⟨cI (by rw [HE.out];rfl),HB.out⟩
 ·have HE:Hid (gE s=false):=by
   cases h:gE s
   ·exact rfl
   ·have:=(aIu s h).2;omega
  clear hT;go_enter za,zh;go_wp2;go_ret;exact ⟨cI HE.out.symm,Below.refl _ _⟩
theorem aH0(s:ByteArray)(x:Int)(w:World) :
  Calls zy 91 #[.agg #[.string s,.int .i64 x]] w λe w'=>e=.returned (.int .i64 (if s.toList.isEmpty then 0 else x))/\Below w.heap.size w w':=by
 have CV:=aA (λwx=>qS s x wx);cases hv:s.toList.isEmpty;all_goals
  rw [hv] at CV;clear hv;go_enter Tryz.func91,Tryz.ntmps91;go_wp2_with (go_at_call 83;refine (aB CV _).mono ?_;rintro e w1 ⟨rfl,hb1⟩;obtain ⟨q1,q2,q3⟩:=jR hb1;have HB1:=aA q3;clear hb1 q3);go_ret;exact ⟨rfl,HB1.out⟩
theorem aQk(s:ByteArray)(x:Int)(w:World)(hs:s.size<=140737488355328)(hT:jF w) :
  Calls zy 113 #[.agg #[.string s,.int .i64 x]] w λe w'=>e=.returned (.bool (eA (s,x)))/\Below w.heap.size w w':=by
 have CV:=aA (λwx=>qS s x wx);have hb0:Below w.heap.size w (w.alloc (.cells #[.string s,.int .i64 x] 36)):=(Below.refl _ _).alloc (zz _) _;have HB0:=aA hb0;have HT:=aA hT;clear hb0 hT;cases hv:s.toList.isEmpty
 ·have HE:Hid (eA (s,x)=(gE s && (decide (0<=x) && decide (x<=5)))):=aA (by simp [eA,aF,hv]);rw [hv] at CV;by_cases h0:0<=x
  ·by_cases h5:x<=5
   ·have CN:=aA (λwx (hx:jF wx)=>aQj s wx hs hx);clear hv;go_enter z1,zg;go_wp2_with (first
     | (go_at_call 83;refine (aB CV _).mono ?_;rintro e w1 ⟨rfl,hb1⟩;obtain ⟨q1,q2,q3⟩:=jR hb1;have HB1:=aA q3;clear hb1 q3)
     | (go_at_call 132;refine (aB CN _ (HT.out.below HB1.out (zz _))).mono ?_;rintro e w2 ⟨rfl,hb2⟩;have HB2:=aA (HB1.out.trans (hb2.mono HB1.out.size));clear hb2))
    go_ret;refine ⟨cI ?_,HB2.out⟩;rw [HE.out];simp [h0,h5]
   ·clear hv;go_enter z1,zg;go_wp2_with (first
     | (go_at_call 83;refine (aB CV _).mono ?_;rintro e w1 ⟨rfl,hb1⟩;obtain ⟨q1,q2,q3⟩:=jR hb1;have HB1:=aA q3;clear hb1 q3))
    go_ret;refine ⟨cI ?_,HB1.out⟩;rw [HE.out];simp [h5]
  ·have HD:=aA (show decide (0<=x)=false by simpa using h0);clear hv;go_enter z1,zg;go_wp2_with (first
    | (go_at_call 83;refine (aB CV _).mono ?_;rintro e w1 ⟨rfl,hb1⟩;obtain ⟨q1,q2,q3⟩:=jR hb1;have HB1:=aA q3;clear hb1 q3))
   go_ret;refine ⟨cI ?_,HB1.out⟩;rw [HE.out,HD.out];simp
 ·have HE:Hid (eA (s,x)=(decide (0<=x) && decide (x<60))):=aA (by simp [eA,aF,hv]);rw [hv] at CV;clear hv;by_cases h0:0<=x;all_goals
   go_enter z1,zg;go_wp2_with (first
    | (go_at_call 83;refine (aB CV _).mono ?_;rintro e w1 ⟨rfl,hb1⟩;obtain ⟨q1,q2,q3⟩:=jR hb1;have HB1:=aA q3;clear hb1 q3))
   go_ret;refine ⟨cI ?_,HB1.out⟩;rw [HE.out,zl];simp;try omega
theorem aQl(l:List Nd)(h:¬l.length<=60):fT l=false:=by simp [fT,h]
theorem aQm(l:List Nd)(h:l.length<=60):fT l=aW l 1:=by simp [fT,h]
theorem aQn(a:Option Addr)(cp:Nat)(l:List Nd)(w:World)(h:cU w a l)(hT:jF w) :
  Calls zy 86 #[.slice a l.length cp] w λe w'=>e=.returned (.bool (fT l))/\Below w.heap.size w w':=by
 have hfew:=h.few;by_cases h60:l.length<=60
 ·have HE:=aA (aQm l h60);have HT:=aA hT;clear hT;go_enter Tryz.func86,Tryz.ntmps86;go_wp2;go_loopw [3,11] (λq i wr=>∃k m:Nat,k<=l.length/\m<=1+5*k/\i=.int .i64 k/\q=.int .i64 m/\Below w.heap.size w wr/\aW l 1=aW (l.drop k) m) (λ_ i _=>l.length-(intOf i).toNat);case atStart=>exact ⟨0,1,by omega,by omega,rfl,rfl,Below.refl _ _,rfl⟩
  case round=>
   obtain ⟨k,m,hk,hm,rfl,rfl,hbel,hg⟩:=hrel;by_cases hlt:k<l.length
   ·obtain ⟨b,o,rfl,e1,f1⟩:=h.cell k hlt;have e2:=Below.at' hbel (zz _) e1;have f2:=Below.at' hbel (zz _) f1;have hsh:=h.short k hlt;have hbs:=hbel.size;clear e1 f1 h;by_cases hm0:m=0
    ·subst hm0;rw [aF0 l k hlt] at hg;have HR:Hid (fT l=false):=HE.out.trans hg;have HB:=aA hbel;clear hg hbel;go_wp2;go_ret;exact ⟨cI HR.out.symm,HB.out.alloc HB.out.size _⟩
    ·have hb1:((m:Int) == 0)=false:=by rw [beq_eq_false_iff_ne];omega
     have hon:=aF2 l k m hlt hm0;have hbad:=aF1 l k m hlt;generalize l[k]=nd at *;obtain ⟨s,x⟩:=nd;simp only at e2 f2 hsh;have CN:=aA (λwx (hx:jF wx)=>aQk s x wx hsh hx);have CV:=aA (λwx=>aH0 s x wx);have HB:=aA hbel;have hTA:=aA (HT.out.below (hbel.alloc hbs (.cells #[.string s,.int .i64 x] 36)) (zz _));by_cases hok:eA (s,x)=true
     ·have HG:=aA (hg.trans (hon hok));simp only [hok] at CN;clear hg hon hbad hbel;by_cases hv:s.toList.isEmpty=true
      ·have HW:Hid (bJ (s,x)=0):=by unfold bJ aF;rw [if_pos hv];exact rfl
       rw [if_pos hv] at CV;clear hok hv;go_wp2_with (first
        | (go_at_call 113;refine (aB CN _ hTA.out).mono ?_;rintro e w1 ⟨rfl,hb1⟩;obtain ⟨q1,q2,q3⟩:=jR hb1;have HB1:=aA (HB.out.trans (q3.mono hbs));have h1s:=HB1.out.size;have hq1:=q3.size;clear hb1 q3)
        | (go_at_call 91;refine (aB CV _).mono ?_;rintro e w2 ⟨rfl,hb2⟩;have q5:=Below.at' hb2 (zz _) q1;have q6:=Below.at' hb2 (zz _) q2;have HB2:=aA (HB1.out.trans (hb2.mono h1s));clear hb2))
       go_roundw;case rel=>exact ⟨k+1,m-1,by omega,by omega,by go_num,by go_num,HB2.out,by rw [HG.out,HW.out];rfl⟩
       case measure=>simp [intOf];omega
      ·have HW:Hid (bJ (s,x)=x.toNat):=by unfold bJ aF;rw [if_neg hv];exact rfl
       have hv':s.toList.isEmpty=false:=by simpa using hv
       have hx:gE s=true/\0<=x/\x<=5:=by simpa [eA,aF,hv] using hok
       obtain ⟨_,hx1,hx2⟩:=hx;rw [if_neg hv] at CV;clear hok hv hv';go_wp2_with (first
        | (go_at_call 113;refine (aB CN _ hTA.out).mono ?_;rintro e w1 ⟨rfl,hb1⟩;obtain ⟨q1,q2,q3⟩:=jR hb1;have HB1:=aA (HB.out.trans (q3.mono hbs));have h1s:=HB1.out.size;have hq1:=q3.size;clear hb1 q3)
        | (go_at_call 91;refine (aB CV _).mono ?_;rintro e w2 ⟨rfl,hb2⟩;have q5:=Below.at' hb2 (zz _) q1;have q6:=Below.at' hb2 (zz _) q2;have HB2:=aA (HB1.out.trans (hb2.mono h1s));clear hb2))
       go_roundw;case rel=>exact ⟨k+1,m-1+x.toNat,by omega,by omega,by go_num,by go_num,HB2.out,by rw [HG.out,HW.out]⟩
       case measure=>simp [intOf];omega
     ·have hok':eA (s,x)=false:=by simpa using hok
      rw [hbad hok'] at hg;have HR:Hid (fT l=false):=HE.out.trans hg;simp only [hok'] at CN;clear hg hon hbad hbel hok hok';go_wp2_with (first
       | (go_at_call 113;refine (aB CN _ hTA.out).mono ?_;rintro e w1 ⟨rfl,hb1⟩;obtain ⟨q1,q2,q3⟩:=jR hb1;have HB1:=aA (HB.out.trans (q3.mono hbs));clear hb1 q3))
      go_ret;exact ⟨cI HR.out.symm,HB1.out⟩
   ·have hd:l.drop k=[]:=List.drop_eq_nil_of_le (by omega);rw [hd] at hg;have HR:Hid (fT l=decide (m=0)):=HE.out.trans hg;have HB:=aA hbel;clear hg hd hbel;go_wp2;go_ret;refine ⟨cI ?_,HB.out⟩;rw [HR.out,zl];simp
 ·have HE:=aA (aQl l h60);clear h hT;go_enter Tryz.func86,Tryz.ntmps86;go_wp2;go_ret;exact ⟨cI HE.out.symm,Below.refl _ _⟩
end
section
open Go.RowKit
def aQo(w:World)(a:Option Addr)(c:List Lt):Prop:=∀k,k<c.length->∀b o aa n cap,a=some ⟨b,o,none⟩->w.cell? ⟨b,o+k*2+1,none⟩=some (.slice aa n cap)->n<=cap
theorem aBy{g:Nat}{s x:Value}{t:TypeId}(h:w.heap[g]?=some (.cells #[s,x] t)):w.cell? ⟨g,0,none⟩=some s/\w.cell? ⟨g,1,none⟩=some x:=⟨by simp [yy,h],by simp [yy,h]⟩
theorem aBz{a b:Value}{c d:Value}(h:a=c)(k:b=d):Ending.returned (.tuple #[a,b])=.returned (.tuple #[c,d]):=by rw [h,k]
theorem aQp(h:fQ l=true):aW l 1=true/\l.length<=60:=by
 have:fT l=true:=by simp [fQ] at h;exact h.1
 simpa [fT] using this
theorem aQq(w:World)(X:Obj):(w.alloc X).heap[w.heap.size]?=some X:=by show (w.heap.push X)[w.heap.size]?=_;simp
end
section
open Go.RowKit Go.Shelf
theorem aQr(a:Option Addr)(cp:Nat)(l:List Nd)(w:World)(h:cU w a l)(hT:jF w) :
  Calls zy 54 #[.slice a l.length cp] w λe w'=>e=.returned (.bool (fQ l))/\Below w.heap.size w w':=by
 have cT:=aQn a cp l w h hT;by_cases ht:fT l=true
 ·cases l with
  | nil=>rw [aGy] at ht;exact absurd ht (by simp)
  | cons n0 r=>
   rw [ht] at cT;obtain ⟨b0,o0,rfl,e0,f0⟩:=h.cell 0 (by simp);simp only [zb,Nat.zero_mul,Nat.add_zero] at e0 f0;obtain ⟨s0,x0⟩:=n0;simp only at e0 f0;have HE:=aA (show fQ ((s0,x0) :: r) = !s0.toList.isEmpty by simp [fQ,ht,aF]);have CT:=aA cT;have CV:=aA (λwx=>qS s0 x0 wx);have hfl:=h.few;simp only [zm] at hfl;clear cT ht h hT;go_enter Tryz.func54,Tryz.ntmps54;go_wp2_with (first
    | (go_at_call 86;refine (aB CT).mono ?_;rintro e w1 ⟨rfl,hb1⟩;have q1:=Below.at' hb1 (zz _) e0;have q2:=Below.at' hb1 (zz _) f0;have HB1:=aA hb1;have h1s:=hb1.size;clear hb1)
    | (go_at_call 83;refine (aB CV _).mono ?_;rintro e w2 ⟨rfl,hb2⟩;have HB2:=aA (HB1.out.trans (hb2.mono h1s));clear hb2))
   go_ret;exact ⟨cI HE.out.symm,HB2.out⟩
 ·have ht':fT l=false:=by simpa using ht
  rw [ht'] at cT;have HE:=aA (show fQ l=false by simp [fQ,ht']);have CT:=aA cT;clear cT ht ht' h hT;go_enter Tryz.func54,Tryz.ntmps54;go_wp2_with (go_at_call 86;refine (aB CT).mono ?_;rintro e w1 ⟨rfl,hb1⟩;have HB1:=aA hb1;clear hb1);go_ret;exact ⟨cI HE.out.symm,HB1.out⟩
end
section
open Go.RowKit
def iY(st:Option Int)(n:Nd):Option Int:=
 match st with
 | none=>none
 | some x=>if aF n then (if x<n.2 then none else if n.2=x then some (x+1) else some x) else some x
def eR(l:List Nd)(st:Option Int):Option Int:=l.foldl iY st
def mB(c:List Lt):Option Int:=c.foldl (λst x=>eR x.2 st) (some 0)
theorem aC0(l:List Nd):eR l none=none:=by
 induction l with
 | nil=>rfl
 | cons x r ih=>simpa [eR,iY] using ih
theorem aQs(l:List Nd)(st:Option Int)(k:Nat)(h:k<l.length):eR (l.take (k+1)) st=iY (eR (l.take k) st) l[k]:=by rw [zv h];simp only [eR,zo,zx,List.foldl_nil]
theorem aQt(c:List Lt)(k:Nat)(h:k<c.length):mB (c.take (k+1))=eR c[k].2 (mB (c.take k)):=by rw [zv h];simp only [mB,zo,zx,List.foldl_nil]
theorem aQu(l:List Nd)(st:Option Int)(k:Nat):eR l st=eR (l.drop k) (eR (l.take k) st):=by
 conv=>lhs;rw [<-yz k l]
 simp only [eR,zo]
theorem aQv(c:List Lt)(k:Nat):mB c=(c.drop k).foldl (λst x=>eR x.2 st) (mB (c.take k)):=by
 conv=>lhs;rw [<-yz k c]
 simp only [mB,zo]
theorem aH1(c:List Lt):c.foldl (λst x=>eR x.2 st) none=none:=by
 induction c with
 | nil=>rfl
 | cons x r ih=>simp only [zx,aC0,ih]
def dF(m:Nat):List Int:=(List.range m).map Int.ofNat
theorem aH2(m:Nat):dF (m+1)=dF m++[(m:Int)]:=by simp [dF,List.range_succ]
theorem aH3(m:Nat):(dF m).length=m:=by simp [dF]
theorem aH4(m:Nat)(x:Int):eJ (dF m) x=if 0<=x/\x<m then x else -1:=by
 induction m with
 | zero=>simp [dF,aF3];omega
 | succ m ih=>
  rw [aH2,wK,aH3,ih];by_cases h:(m:Int)=x
  ·subst h;rw [if_pos rfl,if_pos (by omega)]
  ·rw [if_neg h];by_cases h2:0<=x/\x<m
   ·rw [if_pos h2,if_pos (by omega)]
   ·rw [if_neg h2,if_neg (by omega)]
def pC(l:List Nd):Prop:=∀n∈l,aF n=true->0<=n.2
theorem aH5(out:List Nd)(m:Nat)(n:Nd)(hv:aF n=true)(h:¬(0<=n.2/\n.2<m)):dC (out,dF m) n=(out++[(n.1,(m:Int))],dF m++[n.2]):=by
 have hp:eJ (dF m) n.2=-1:=by rw [aH4,if_neg h]
 unfold dC;rw [if_pos hv];show (if eJ (dF m) n.2<0 then (out++[(n.1,((dF m).length:Int))],dF m++[n.2]) else (out++[(n.1,eJ (dF m) n.2)],dF m))=_;rw [hp,if_pos (by omega),aH3]
theorem aQw(out:List Nd)(m:Nat)(n:Nd)(hv:aF n=true)(h:0<=n.2/\n.2<m):dC (out,dF m) n=(out++[n],dF m):=by
 have hp:eJ (dF m) n.2=n.2:=by rw [aH4,if_pos h]
 unfold dC;rw [if_pos hv];show (if eJ (dF m) n.2<0 then (out++[(n.1,((dF m).length:Int))],dF m++[n.2]) else (out++[(n.1,eJ (dF m) n.2)],dF m))=_;rw [hp,if_neg (by omega)]
theorem aH6(out:List Nd)(m:Nat)(n:Nd)(hn:aF n=true->0<=n.2)(m':Int)(h:iY (some (m:Int)) n=some m'):∃k:Nat,m'=k/\dC (out,dF m) n=(out++[n],dF k):=by
 simp only [iY] at h;by_cases hv:aF n=true
 ·have h0:=hn hv;rw [if_pos hv] at h;by_cases h1:(m:Int)<n.2
  ·rw [if_pos h1] at h;simp at h
  ·rw [if_neg h1] at h;by_cases h2:n.2=(m:Int)
   ·rw [if_pos h2] at h;simp at h;refine ⟨m+1,by omega,?_⟩;rw [aH5 out m n hv (by omega),aH2,<-h2]
   ·rw [if_neg h2] at h;simp at h;exact ⟨m,by omega,aQw out m n hv (by omega)⟩
 ·rw [if_neg hv] at h;simp at h;refine ⟨m,by omega,?_⟩;unfold dC;rw [if_neg hv]
theorem aQx(l:List Nd):∀(out:List Nd) (m:Nat),pC l->∀m',eR l (some (m:Int))=some m'->∃k:Nat,m'=k/\l.foldl dC (out,dF m)=(out++l,dF k):=by
 induction l with
 | nil=>intro out m _ m' h;simp [eR] at h;exact ⟨m,by omega,by simp⟩
 | cons n r ih=>
  intro out m hn m' h;simp only [eR,zx] at h ⊢;cases hs:iY (some (m:Int)) n with
  | none=>rw [hs] at h;rw [show List.foldl iY none r=none from aC0 r] at h;simp at h
  | some x=>
   rw [hs] at h;obtain ⟨k,rfl,hk⟩:=aH6 out m n (hn n (by simp)) x hs;rw [hk];obtain ⟨j,hj1,hj2⟩:=ih (out++[n]) k (λy hy=>hn y (by simp [hy])) m' h;exact ⟨j,hj1,by rw [hj2];simp⟩
theorem aQy(l:List Nd):∀st:List Nd×List Int,∃t,(l.foldl dC st).1=st.1++t/\t.length=l.length:=by
 induction l with
 | nil=>intro st;exact ⟨[],by simp,rfl⟩
 | cons n r ih=>
  intro st;obtain ⟨t,h1,h2⟩:=ih (dC st n);have:∃x,(dC st n).1=st.1++[x]:=by
   unfold dC;split
   ·split <;> exact ⟨_,rfl⟩
   ·exact ⟨_,rfl⟩
  obtain ⟨x,hx⟩:=this;exact ⟨x :: t,by rw [zx,h1,hx];simp,by simp [h2]⟩
theorem aQz(l:List Nd):∀(out:List Nd) (m:Nat),pC l->eR l (some (m:Int))=none->(l.foldl dC (out,dF m)).1≠out++l:=by
 induction l with
 | nil=>intro out m _ h;simp [eR] at h
 | cons n r ih=>
  intro out m hn h;simp only [eR,zx] at h ⊢;cases hs:iY (some (m:Int)) n with
  | none=>
   have hv:aF n=true:=by
    cases hv:aF n
    ·simp [iY,hv] at hs
    ·rfl
   have hlt:(m:Int)<n.2:=by
    by_cases hlt:(m:Int)<n.2
    ·exact hlt
    ·exfalso;simp only [iY,if_pos hv,if_neg hlt] at hs;split at hs <;> simp at hs
   have h0:=hn n (by simp) hv;have hr:=aH5 out m n hv (by omega);rw [hr];obtain ⟨t,ht,_⟩:=aQy r (out++[(n.1,(m:Int))],dF m++[n.2]);rw [ht];intro he;simp only [zq,yl,z8] at he;have:=zc he;simp only [List.cons.injEq] at this;have h2:=congrArg Prod.snd this.1;simp at h2;omega
  | some x=>
   rw [hs] at h;obtain ⟨k,rfl,hk⟩:=aH6 out m n (hn n (by simp)) x hs;rw [hk];have:=ih (out++[n]) k (λy hy=>hn y (by simp [hy])) h;simpa using this
theorem aH7(l:List Nd)(m:Nat)(hn:pC l)(m':Int)(h:eR l (some (m:Int))=some m'):∃k:Nat,m'=k/\cG l (dF m)=(l,dF k):=by have:=aQx l [] m hn m' h;simpa [cG] using this
theorem aR0(l:List Nd)(m:Nat)(hn:pC l)(h:eR l (some (m:Int))=none):(cG l (dF m)).1≠l:=by have:=aQz l [] m hn h;simpa [cG] using this
theorem aR1(c:List Lt):∀(out:List Lt) (m:Nat),(∀x∈c,pC x.2)->∀m',c.foldl (λst x=>eR x.2 st) (some (m:Int))=some m'->∃k:Nat,c.foldl eE (out,dF m)=(out++c,dF k):=by
 induction c with
 | nil=>intro out m _ m' h;exact ⟨m,by simp⟩
 | cons x r ih=>
  intro out m hn m' h;simp only [zx] at h ⊢;cases hs:eR x.2 (some (m:Int)) with
  | none=>rw [hs,aH1] at h;simp at h
  | some y=>
   rw [hs] at h;obtain ⟨k,rfl,hk⟩:=aH7 x.2 m (hn x (by simp)) y hs;have:eE (out,dF m) x=(out++[x],dF k):=by simp [eE,hk]
   rw [this];obtain ⟨j,hj⟩:=ih (out++[x]) k (λy hy=>hn y (by simp [hy])) m' h;exact ⟨j,by rw [hj];simp⟩
theorem aR2(c:List Lt):∀st:List Lt×List Int,∃t,(c.foldl eE st).1=st.1++t:=by
 induction c with
 | nil=>intro st;exact ⟨[],by simp⟩
 | cons x r ih=>
  intro st;obtain ⟨t,h1⟩:=ih (eE st x);exact ⟨(x.1,(cG x.2 st.2).1) :: t,by rw [zx,h1];simp [eE]⟩
theorem aR3(c:List Lt):∀(out:List Lt) (m:Nat),(∀x∈c,pC x.2)->c.foldl (λst x=>eR x.2 st) (some (m:Int))=none->(c.foldl eE (out,dF m)).1≠out++c:=by
 induction c with
 | nil=>intro out m _ h;simp at h
 | cons x r ih=>
  intro out m hn h;simp only [zx] at h ⊢;cases hs:eR x.2 (some (m:Int)) with
  | none=>
   have hb:=aR0 x.2 m (hn x (by simp)) hs;obtain ⟨t,ht⟩:=aR2 r (eE (out,dF m) x);rw [ht];intro he;simp only [eE,zq,yl,z8] at he;have:=zc he;simp only [List.cons.injEq] at this;have h2:=congrArg Prod.snd this.1;exact hb h2
  | some y=>
   rw [hs] at h;obtain ⟨k,rfl,hk⟩:=aH7 x.2 m (hn x (by simp)) y hs;have:eE (out,dF m) x=(out++[x],dF k):=by simp [eE,hk]
   rw [this];have:=ih (out++[x]) k (λy hy=>hn y (by simp [hy])) h;simpa using this
theorem aH8(c:List Lt):∀acc:List Lt,(c.foldl eO acc).length=acc.length+c.length->c.foldl eO acc=acc++c:=by
 induction c with
 | nil=>intro acc _;simp
 | cons x r ih=>
  intro acc h;simp only [zx,zm] at h ⊢;have hle:∀(r acc:List Lt),(r.foldl eO acc).length<=acc.length+r.length:=by
   intro r;induction r with
   | nil=>intro acc;simp
   | cons y r ih=>
    intro acc;have:=ih (eO acc y);have h1:(eO acc y).length<=acc.length+1:=by unfold eO;split <;> simp
    simp only [zx,zm];omega
  by_cases hm:eS acc x=true
  ·have h1:eO acc x=acc:=by simp [eO,hm]
   rw [h1] at h;have:=hle r acc;omega
  ·have h1:eO acc x=acc++[x]:=by simp [eO,hm]
   rw [h1] at h ⊢;have:=ih (acc++[x]) (by simp;omega);rw [this];simp
theorem aR4(c:List Lt)(hn:∀x∈c,pC x.2):decide (c=aR c)=(decide ((cK c).length=c.length) && (mB c).isSome):=by
 rw [zl];simp only [decide_eq_true_eq,Bool.and_eq_true];have hz:dF 0=[]:=rfl;constructor
 ·intro h;have hl:(cK c).length=c.length:=by
   have h1:=(pG (cK c)).1;have h2:(aR c).length=(cK c).length:=h1;rw [<-h] at h2;exact h2.symm
  have hd:cK c=c:=by have:=aH8 c [] (by simpa [cK] using hl);simpa [cK] using this
  refine ⟨hl,?_⟩;cases hc:mB c with
  | none=>
   exfalso;have:=aR3 c [] 0 hn hc;rw [hz] at this;apply this;rw [z8];conv=>rhs;rw [h]
   unfold aR cQ;rw [hd]
  | some y=>rfl
 ·rintro ⟨hl,hs⟩;have hd:cK c=c:=by
   have:=aH8 c [] (by simpa [cK] using hl);simpa [cK] using this
  obtain ⟨y,hy⟩:=Option.isSome_iff_exists.1 hs;obtain ⟨k,hk⟩:=aR1 c [] 0 hn y hy;rw [hz] at hk;unfold aR cQ;rw [hd,hk];simp
theorem aR5(h:fQ l=true):pC l:=by
 have ht:aW l 1=true:=by
  have:fT l=true:=by simp [fQ] at h;exact h.1
  have:aW l 1=true/\l.length<=60:=by simpa [fT] using this
  exact this.1
 clear h;generalize 1=q at ht;intro n hn hv;induction l generalizing q with
 | nil=>simp at hn
 | cons x r ih=>
  simp only [aW] at ht;split at ht
  ·simp at ht
  ·split at ht
   ·next hok=>
    rcases List.mem_cons.1 hn with rfl | hn
    ·have:0<=n.2/\n.2<60:=by simpa [eA,hv] using hok
     exact this.1
    ·exact ih _ ht hn
   ·simp at ht
end
end Go.Proofs.YtcldkjcpofjmhaaGreatDoor
