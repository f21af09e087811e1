import Derived.Test.YtcldkjcpofjmhaaGreatDoorLMemF
import Derived.Test.YtcldkjcpofjmhaaGreatDoorPDistF
open List renaming getElem?_eq_some_iff→zz,getElem?_eq_getElem→zy,getElem?_append_left→zx,getElem?_eq_none→zt,getElem?_set→zs,getElem?_append_right→zr,drop_succ_cons→zp,length_set→zl,drop_drop→zj,mem_of_getElem?→zi,map_congr_left→zh,cons_append→ze
open Nat renaming add_comm→zw,le_refl→zq,le_trans→zm,zero_add→zf
open Or renaming inl→zv,inr→zu
namespace Go.Proofs.YtcldkjcpofjmhaaGreatDoor
open _root_.Go.Proofs.Tryz renaming prog→zo
set_option maxRecDepth 100000
variable{G:Gr}{up:Int}{F ps:List Nat}{L s1:List Nd}{R R1:List Rw}{a b e:Nat}{d g1 g2 rt:Nat->Nat}{B E E' Q:Nat->Nat->Prop}
section
open Go.RowKit Go.Shelf
def rep(n:Nat)(el:List Value):List Value:=(List.replicate n el).flatten
theorem tB(n:Nat)(el:List Value):(rep n el).length=n*el.length:=by simp [rep]
theorem aEm(n:Nat)(el:List Value):rep (n+1) el=el++rep n el:=by simp [rep,List.replicate_succ]
theorem aEn(n k:Nat)(el:List Value):rep (n+k) el=rep n el++rep k el:=by unfold rep;rw [<-List.flatten_append,List.replicate_append_replicate]
theorem aEo(el:List Value):∀(n i:Nat),i<n*el.length->(rep n el)[i]?=el[i % el.length]?:=by
 intro n;induction n with
 | zero=>intro i h;simp at h
 | succ n ih=>
  intro i h;rw [aEm];by_cases hi:i<el.length
  ·rw [zx hi,Nat.mod_eq_of_lt hi]
  ·rw [Nat.succ_mul] at h;rw [zr (by omega),ih _ (by omega),<-Nat.mod_eq_sub_mod (by omega)]
def eZ(e:TypeId)(el:List Value)(w:World)(v:Value):Prop:=v=.slice none 0 0\/∃g n c cur,v=.slice (some ⟨g,0,none⟩) n c/\w.heap[g]?=some (.cells cur e)/\(∀i,i<n*el.length->cur[i]?=el[i % el.length]?)/\n<=1000000000000
section
variable {e:TypeId}{el:List Value}{w w':World}{v:Value}
theorem eZ.of_own{B n:Nat}(h:w.ownsRow B e el.length v n (rep n el))(hn:n<=1000000000000):eZ e el w v:=by
 obtain ⟨h1,⟨rfl,h2⟩ | ⟨g,cap,cur,rfl,hb,hh,hc,hm,hz,ht⟩⟩:=h
 ·exact zv rfl
 ·refine zu ⟨g,n,cap,cur,rfl,hh,λi hi=>?_,hn⟩;have a:=aEo el n i hi;rw [<-ht,List.getElem?_take,if_pos hi] at a;simpa using a
theorem eZ.grown{o:Option Nat}(h:eZ e el w v)(hg:w.grownBy w' o)(ho:v.ownBlock=none\/v.ownBlock≠o):eZ e el w' v:=by
 rcases h with h | ⟨g,n,c,cur,rfl,hh,hk⟩
 ·exact zv h
 ·refine zu ⟨g,n,c,cur,rfl,?_,hk⟩;rw [hg.block g (Array.getElem?_eq_some_iff.1 hh).1 ?_,hh];rcases ho with ho | ho
  ·simp [Value.ownBlock] at ho
  ·intro e;exact ho (by rw [<-e];rfl)
theorem eZ.below(h:eZ e el w v)(hb:Below w.heap.size w w'):eZ e el w' v:=h.grown (fV (o:=none) hb) (by cases v.ownBlock <;> simp)
end
theorem aM9(w:World)(t ty e:TypeId)(el:List Value)(z:Value)(bytes:Nat)(ht:zo.underlying t=some (.slice e))(hinfo:(zo.info? e).map (λi=>(i.zero,i.size,i.bytes))=some (some z,el.length,bytes))(hz1:z.cells.size=el.length)(hsz0:0<el.length)(hby:bytes<=40)(h1:∀u∈el,u.oneCell'=true)
  (B:Nat) (v:Value) (n:Nat) (ho:w.ownsRow B e el.length v n (rep n el)) (hB:B<=w.heap.size) (a:Addr) (k c:Nat) (hk:0<k/\k<=3) (hn:n<=100000000000) (hnews:∀j u,(rep k el)[j]?=some u->w.cell? (a.add j)=some u) :
  ∃v' w',(Builtin.append_ #[t,t] ty #[v,.slice (some a) k c]).run zo w=.ok v' w'/\w'.ownsRow B e el.length v' (n+k) (rep (n+k) el)/\w'.ownsRow B e el.length v n (rep n el)/\w.grownBy w' v.ownBlock/\aX w v v'/\∀u,eZ e el w u->eZ e el w' u:=by
 obtain ⟨i,hi,hz,hss,hy⟩:=info_parts hinfo;have hcells:=aEn n k el;have hl:=tB k el;have h1':∀u∈rep k el,u.oneCell'=true:=by intro u hu;unfold rep at hu;obtain ⟨x,hx,hu⟩:=List.mem_flatten.1 hu;rw [List.eq_of_mem_replicate hx] at hu;exact h1 u hu
 have hb24:(n+k)*bytes<=140737488355328:=zm (Nat.mul_le_mul (show n+k<=100000000003 by omega) hby) (by decide);by_cases hv:v.ownBlock=none
 ·have hnil:v=.slice none 0 0/\n=0:=by
   obtain ⟨_,h | ⟨g,cap,cur,rfl,_⟩⟩:=ho
   ·exact h
   ·simp [Value.ownBlock] at hv
  obtain ⟨rfl,rfl⟩:=hnil;obtain ⟨v',w',hr,r1,r2,r3⟩:=run_append_own (P:=zo) w w.heap.size t ty e i z el.length bytes ht hi hz hss hy hz1 hsz0 (.slice none 0 0) 0 [] (World.ownsRow_nil _ _ _ _) a k c (rep k el) hl hnews h1' (by unfold maxLen;omega) hb24 (zq _);refine ⟨v',w',hr,by rw [hcells];exact dN r1 hB,World.ownsRow_nil _ _ _ _,r2,?_,λu hu=>hu.grown r2 (by cases hub:u.ownBlock with | none=>exact zv rfl | some g=>exact zu (by simp [Value.ownBlock]))⟩;cases hb:v'.ownBlock with
  | none=>exact zv (by rw [hb,hv])
  | some g'=>exact zu ⟨g',hb,(aT r1 g' hb).1⟩
 ·obtain ⟨ho1,⟨rfl,_⟩ | ⟨g,cap,cur,rfl,hbg,hg,hnc,hcm,hcs,htake⟩⟩:=ho
  ·exact absurd rfl hv
  ·have ho:w.ownsRow B e el.length (.slice (some ⟨g,0,none⟩) n cap) n (rep n el):=⟨ho1,zu ⟨g,cap,cur,rfl,hbg,hg,hnc,hcm,hcs,htake⟩⟩;by_cases hroom:n+k<=cap
   ·have hfit:n*el.length+(rep k el).length<=cur.size:=by rw [hl,hcs,<-Nat.add_mul];exact Nat.mul_le_mul_right _ hroom
    have hr:=run_append_room (P:=zo) w t ty e i ht hi g n cap cur hg a k c (rep k el) (by rw [hl,hss]) hnews h1' hroom (by rw [hss];exact hfit);rw [hss] at hr;have hget:∀j,((cur.toList.take (n*el.length)++rep k el++cur.toList.drop (n*el.length+(rep k el).length)).toArray)[j]?=if j<n*el.length then cur[j]? else if j<n*el.length+k*el.length then (rep k el)[j-n*el.length]? else cur[j]?:=by intro j;have:=aGx cur.toList (rep k el) (n*el.length) (by simpa using hfit) j;rw [hl] at this ⊢;simpa using this
    have hkeep:∀n',(∀j,j<n'*el.length->cur[j]?=el[j % el.length]?)->∀j,j<n'*el.length->((cur.toList.take (n*el.length)++rep k el++cur.toList.drop (n*el.length+(rep k el).length)).toArray)[j]?=el[j % el.length]?:=by
     intro n' hm j hj;rw [hget];split
     ·exact hm j hj
     ·split
      ·rename_i h1 h2;rw [aEo el k _ (by omega)];congr 1
       rw [Nat.mul_comm n,Nat.sub_mul_mod (by rw [Nat.mul_comm];omega)]
      ·exact hm j hj
    generalize hcur':(cur.toList.take (n*el.length)++rep k el++cur.toList.drop (n*el.length+(rep k el).length)).toArray=cur' at *;have hsz:cur'.size=cur.size:=by rw [<-hcur'];simp;omega
    have htl:cur'.toList=cur.toList.take (n*el.length)++rep k el++cur.toList.drop (n*el.length+(rep k el).length):=by rw [<-hcur']
    have hh':(w.setRow g cur').heap[g]?=some (.cells cur' e):=setRow_heap w g cur _ e _ hg;have hgr:w.grownBy (w.setRow g cur') (some g):=⟨rfl,rfl,rfl,by simp,λq _ hq=>setRow_other w g q _ (λe=>hq (by simp [e]))⟩;refine ⟨_,_,hr,⟨tB _ _,zu ⟨g,cap,cur',rfl,hbg,hh',hroom,hcm,by rw [hsz,hcs],?_⟩⟩,⟨ho1,zu ⟨g,cap,cur',rfl,hbg,hh',hnc,hcm,by rw [hsz,hcs],?_⟩⟩,hgr,zv rfl,?_⟩
    ·rw [htl,htake,hcells];exact List.take_left' (by rw [List.length_append,tB,tB,Nat.add_mul])
    ·rw [htl,htake,List.append_assoc];exact List.take_left' (tB _ _)
    ·intro u hu;rcases hu with hu | ⟨g',n',c',cu,rfl,hgu,hmk,hn'⟩
     ·exact zv hu
     ·by_cases e':g'=g
      ·subst e';rw [hg] at hgu;simp at hgu;subst hgu;exact zu ⟨g',n',c',cur',rfl,hh',hkeep n' hmk,hn'⟩
      ·exact zu ⟨g',n',c',cu,rfl,by rw [hgr.block g' (Array.getElem?_eq_some_iff.1 hgu).1 (by simpa using e'),hgu],hmk,hn'⟩
   ·have holds:∀j u,(rep n el)[j]?=some u->w.cell? ((⟨g,0,none⟩ : Addr).add j)=some u:=ho.cells (g:=g) rfl;obtain ⟨v',w',hr',r1,r2,_⟩:=run_append_own (P:=zo) w B t ty e i z el.length bytes ht hi hz hss hy hz1 hsz0 _ n (rep n el) ho a k c (rep k el) hl hnews h1' (by unfold maxLen;omega) hb24 hB;have hr:=run_append_grow (P:=zo) w t ty e i z ht hi hz ⟨g,0,none⟩ n cap (rep n el) (by rw [hss];exact ho1) holds a k c (rep k el) (by rw [hl,hss]) hnews (by omega) (by omega) (growslice_fits_wide (by omega) (by rw [hy];exact zm (Nat.mul_le_mul (show _<=200000000000 by omega) hby) (by decide)));rw [hr] at hr';injection hr' with e1 e2;subst e1;subst e2;have hb:Below w.heap.size w (w.drew.alloc (.cells ((rep n el).toArray++(rep k el).toArray++Builtin.zeroCells z.cells (grownCap w (n+k) cap e-(n+k))) e)):=(aI (w1:=w.drew) ⟨1,rfl⟩).alloc (zq _) _;exact ⟨_,_,hr,by rw [hcells];exact r1,aU ho hb (zq _),r2,zu ⟨_,rfl,zq _⟩,λu hu=>hu.below hb⟩
end
section
theorem tC(s:List Nd):∀p q,aH s (p+q)=aH s p+aH (s.drop (aH s p)) q:=by
 induction s with
 | nil=>intro p q;cases p <;> cases q <;> simp [aH]
 | cons n r ih=>
  intro p q;cases p with
  | zero=>simp
  | succ p=>
   rw [show p+1+q=(p+q)+1 by omega];simp only [aH];rw [show p+q+bJ n=(p+bJ n)+q by omega,ih (p+bJ n) q,zw 1 (aH r (p+bJ n)),zp];omega
def fK:List Nd->Nat->Nat->List Nat
 | _,0,_=>[]
 | s,k+1,b=>b :: fK (s.drop (aH s 1)) k (b+aH s 1)
@[simp] theorem aZv(s:List Nd)(b:Nat):fK s 0 b=[]:=rfl
theorem kL(s:List Nd)(k b:Nat):fK s (k+1) b=b :: fK (s.drop (aH s 1)) k (b+aH s 1):=rfl
theorem tD(s:List Nd)(k:Nat):∀b,(fK s k b).length=k:=by
 induction k generalizing s with
 | zero=>intro b;rfl
 | succ k ih=>intro b;rw [kL];simp [ih]
theorem yG(k:Nat):∀(s:List Nd) (b d:Nat),fK s k (b+d)=(fK s k b).map (· + d):=by
 induction k with
 | zero=>intro s b d;rfl
 | succ k ih=>
  intro s b d;rw [kL,kL,List.map_cons,show b+d+aH s 1=b+aH s 1+d by omega,ih]
theorem aEp(k:Nat):∀(s:List Nd) (j b:Nat),fK s (k+j) b=fK s k b++fK (s.drop (aH s k)) j (b+aH s k):=by
 induction k with
 | zero=>intro s j b;simp
 | succ k ih=>
  intro s j b;rw [show k+1+j=(k+j)+1 by omega,kL,kL,ih,show aH s (k+1)=aH s 1+aH (s.drop (aH s 1)) k by rw [<-tC];congr 1;omega,zj,ze];simp [Nat.add_assoc,zw (aH s 1)]
def fA:List Nd->Nat->Prop
 | _,0=>True
 | [],_+1=>False
 | n :: r,q+1=>fA r (q+bJ n)
@[simp] theorem aMa(l:List Nd):fA l 0:=by cases l <;> trivial
theorem aMb(l:List Nd):∀q,aW l q=true->fA l q:=by
 induction l with
 | nil=>intro q h;simp [aW] at h;subst h;trivial
 | cons n r ih=>
  intro q h;cases q with
  | zero=>trivial
  | succ q=>rw [uY,Bool.and_eq_true] at h;exact ih _ h.2
theorem uP(s:List Nd):∀p q,fA s (p+q)↔fA s p/\fA (s.drop (aH s p)) q:=by
 induction s with
 | nil=>
  intro p q;cases p with
  | zero=>simp
  | succ p=>rw [show p+1+q=(p+q)+1 by omega];simp [fA]
 | cons n r ih=>
  intro p q;cases p with
  | zero=>simp
  | succ p=>
   rw [show p+1+q=(p+q)+1 by omega];simp only [fA,aH];rw [show p+q+bJ n=(p+bJ n)+q by omega,ih,zw 1,zp]
theorem aB1{s:List Nd}{q:Nat}(h:fA s (q+1)):0<aH s (q+1):=by
 cases s with
 | nil=>exact h.elim
 | cons n r=>simp [aH];omega
theorem oC(k:Nat):∀(s:List Nd) (b:Nat),fA s k->∀x∈fK s k b,b<=x/\x<b+aH s k:=by
 induction k with
 | zero=>intro s b _ x h;simp at h
 | succ k ih=>
  intro s b hf x h;rw [kL] at h;have e:aH s (k+1)=aH s 1+aH (s.drop (aH s 1)) k:=by rw [<-tC];congr 1;omega
  have hf1:=(uP s 1 k).1 (by rw [zw];exact hf);have hp:=aB1 (q:=0) hf1.1;rw [zf] at hp;rcases List.mem_cons.1 h with rfl | h
  ·omega
  ·have:=ih _ _ hf1.2 x h;omega
theorem aEq(s t:List Nd):∀q,fA s q->aH (s++t) q=aH s q:=by
 induction s with
 | nil=>intro q h;cases q with
  | zero=>simp
  | succ q=>exact h.elim
 | cons n r ih=>
  intro q h;cases q with
  | zero=>simp
  | succ q=>simp only [ze,aH];rw [ih _ h]
theorem aMc(s t:List Nd):∀q,fA s q->fA (s++t) q:=by
 induction s with
 | nil=>intro q h;cases q with
  | zero=>simp
  | succ q=>exact h.elim
 | cons n r ih=>
  intro q h;cases q with
  | zero=>simp
  | succ q=>exact ih _ h
theorem aMd(k:Nat):∀(s t:List Nd) (b:Nat),fA s k->fK (s++t) k b=fK s k b:=by
 induction k with
 | zero=>intro s t b _;rfl
 | succ k ih=>
  intro s t b h;have h1:=(uP s 1 k).1 (by rw [zw];exact h);rw [kL,kL,aEq _ _ _ h1.1,List.drop_append_of_le_length (mD _ _),ih _ _ _ h1.2]
theorem aB2(s:List Nd):∀(q i:Nat),fA s q->i<aH s q->∃n,s[i]?=some n/\fA (s.drop (i+1)) (bJ n)/\i+1+aH (s.drop (i+1)) (bJ n)<=aH s q:=by
 induction s with
 | nil=>intro q i h hi;cases q <;> simp [aH] at hi
 | cons n r ih=>
  intro q i h hi;cases q with
  | zero=>simp at hi
  | succ q=>
   simp only [aH] at hi ⊢;have ha:=(uP r (bJ n) q).1 (by rw [zw];exact h);have he:=tC r (bJ n) q;rw [zw (bJ n) q] at he;cases i with
   | zero=>exact ⟨n,rfl,by simpa using ha.1,by simp;omega⟩
   | succ i=>
    obtain ⟨m,h1,h2,h3⟩:=ih (q+bJ n) i h (by omega);exact ⟨m,by simpa using h1,by simpa using h2,by simp;omega⟩
def lR(up:Int)(n:Nd):Nd:=(n.1,n.2+up)
def rO(R:List Rw)(k:Nat)(ps:List Nat):List Rw:=R.modify k λr=>{r with parts:=ps}
theorem aEr(R:List Rw)(k:Nat)(ps:List Nat):(rO R k ps).length=R.length:=by simp [rO]
theorem tE(R:List Rw)(k:Nat)(ps:List Nat)(i:Nat):(rO R k ps)[i]?=if i=k then (R[i]?).map λr=>{r with parts:=ps} else R[i]?:=by
 simp [rO,List.getElem?_modify];by_cases h:i=k
 ·subst h;simp
 ·have:¬k=i:=λe=>h e.symm
  simp [h,this]
inductive eI(up:Int):List Rw->Nat->List Nd->List Rw->List Nat->List Nd->Prop
 | nil (R:List Rw) (s:List Nd):eI up R 0 s R [] s
 | old {R:List Rw} {n:Nd} {i k:Nat} {s:List Nd} {R':List Rw} {ps:List Nat} {s':List Nd}:aF n=true->(∃r,R[i]?=some r/\r.node=lR up n)->eI up R k s R' ps s'->eI up R (k+1) (n :: s) R' (i :: ps) s'
 | new {R:List Rw} {n:Nd} {k:Nat} {s:List Nd} {R':List Rw} {ps:List Nat} {s':List Nd}:aF n=true->(∀r∈R,r.node≠lR up n)->eI up (R++[⟨lR up n,R.length,[]⟩]) k s R' ps s'->eI up R (k+1) (n :: s) R' (R.length :: ps) s'
 | name {R:List Rw} {n:Nd} {k:Nat} {s:List Nd} {R1:List Rw} {qs:List Nat} {s1:List Nd} {R':List Rw} {ps:List Nat} {s':List Nd}:aF n=false->eI up (R++[⟨n,R.length,[]⟩]) (bJ n) s R1 qs s1->eI up (rO R1 R.length qs) k s1 R' ps s'->eI up R (k+1) (n :: s) R' (R.length :: ps) s'
theorem eI.append{k:Nat}{s:List Nd}(h:eI up R k s R1 ps s1):∀{j:Nat} {R2:List Rw} {qs:List Nat} {s2:List Nd},eI up R1 j s1 R2 qs s2->eI up R (k+j) s R2 (ps++qs) s2:=by
 induction h with
 | nil R s=>intro j R2 qs s2 h;rw [zf];exact h
 | @old R n i k s R' ps s' a b _ ih=>intro j R2 qs s2 h;rw [show k+1+j=(k+j)+1 by omega];exact eI.old a b (ih h)
 | @new R n k s R' ps s' a b _ ih=>intro j R2 qs s2 h;rw [show k+1+j=(k+j)+1 by omega];exact eI.new a b (ih h)
 | @name R n k s R1 qs s1 R' ps s' a b _ _ ih=>intro j R2 qs2 s2 h;rw [show k+1+j=(k+j)+1 by omega];exact eI.name a b (ih h)
def mZ(R:List Rw):Prop:=∀(i j:Nat) (ri rj:Rw),R[i]?=some ri->R[j]?=some rj->aF ri.node=true->ri.node=rj.node->i=j
structure jC(up:Int)(R:List Rw)(k:Nat)(s:List Nd)(R':List Rw)(ps:List Nat)(s':List Nd)(g:Nat->Nat):Prop where
 full:fA s k
 rest:s'=s.drop (aH s k)
 ps:ps=(fK s k 0).map g
 more:R.length<=R'.length
 ext:∀i,i<R.length->R'[i]?=R[i]?
 var:∀i n,i<aH s k->s[i]?=some n->aF n=true->∃r,R'[g i]?=some r/\r.node=lR up n
 name:∀i n,i<aH s k->s[i]?=some n->aF n=false->R'[g i]?=some ⟨n,g i,(fK (s.drop (i+1)) (bJ n) (i+1)).map g⟩/\R.length<=g i
 inj:∀i j n m,i<aH s k->j<aH s k->s[i]?=some n->s[j]?=some m->aF n=false->aF m=false->g i=g j->i=j
 onto:∀r,R.length<=r->r<R'.length->∃i,i<aH s k/\g i=r
 fresh:∀r x,R.length<=r->R'[r]?=some x->x.cls=r/\(aF x.node=true->x.parts=[])
 once:mZ R->mZ R'
theorem jC.lt{k:Nat}{s:List Nd}{R':List Rw}{s':List Nd}{g:Nat->Nat}(h:jC up R k s R' ps s' g){i:Nat}(hi:i<aH s k):g i<R'.length:=by
 obtain ⟨n,h1,_,_⟩:=aB2 s k i h.full hi;cases hv:aF n with
 | true=>obtain ⟨r,h2,_⟩:=h.var i n hi h1 hv;exact (zz.1 h2).1
 | false=>exact (zz.1 (h.name i n hi h1 hv).1).1
theorem mZ.name{R:List Rw}(h:mZ R){r:Rw}(hr:aF r.node=false):mZ (R++[r]):=by
 intro i j ri rj h1 h2 hv e;have hl:∀(k:Nat) (x:Rw),(R++[r])[k]?=some x->aF x.node=true->R[k]?=some x:=by
  intro k x hk hx;by_cases hlt:k<R.length
  ·rwa [zx hlt] at hk
  ·rw [zr (by omega)] at hk;have:k-R.length=0:=by
    by_cases h0:k-R.length=0
    ·exact h0
    ·rw [zt (by simp;omega)] at hk;simp at hk
   rw [this] at hk;simp at hk;rw [<-hk,hr] at hx;cases hx
 exact h i j ri rj (hl i ri h1 hv) (hl j rj h2 (by rw [<-e];exact hv)) hv e
theorem mZ.new{R:List Rw}(h:mZ R){r:Rw}(hr:∀x∈R,x.node≠r.node):mZ (R++[r]):=by
 have hl:∀(k:Nat) (x:Rw),(R++[r])[k]?=some x->R[k]?=some x\/(k=R.length/\x=r):=by
  intro k x hk;by_cases hlt:k<R.length
  ·rw [zx hlt] at hk;exact zv hk
  ·rw [zr (by omega)] at hk;have:k-R.length=0:=by
    by_cases h0:k-R.length=0
    ·exact h0
    ·rw [zt (by simp;omega)] at hk;simp at hk
   rw [this] at hk;simp at hk;exact zu ⟨by omega,hk.symm⟩
 intro i j ri rj h1 h2 hv e;rcases hl i ri h1 with a | ⟨a,rfl⟩ <;> rcases hl j rj h2 with b | ⟨b,rfl⟩
 ·exact h i j ri rj a b hv e
 ·exact absurd e (hr ri (zi a))
 ·exact absurd e.symm (hr rj (zi b))
 ·omega
theorem mZ.parts(h:mZ R)(k:Nat)(ps:List Nat):mZ (rO R k ps):=by
 have hl:∀(i:Nat) (x:Rw),(rO R k ps)[i]?=some x->∃y,R[i]?=some y/\y.node=x.node:=by
  intro i x hi;rw [tE] at hi;split at hi
  ·rw [Option.map_eq_some_iff] at hi;obtain ⟨y,h1,rfl⟩:=hi;exact ⟨y,h1,rfl⟩
  ·exact ⟨x,hi,rfl⟩
 intro i j ri rj h1 h2 hv e;obtain ⟨a,ha,ea⟩:=hl i ri h1;obtain ⟨b,hb,eb⟩:=hl j rj h2;exact h i j a b ha hb (by rw [ea];exact hv) (by rw [ea,eb];exact e)
def tF(x:Nat)(g:Nat->Nat):Nat->Nat
 | 0=>x
 | i+1=>g i
def qA(e:Nat)(g1 g2:Nat->Nat)(i:Nat):Nat:=if i<e then g1 i else g2 (i-e)
theorem jY{i:Nat}(h:i<e):qA e g1 g2 i=g1 i:=if_pos h
theorem yH(i:Nat):qA e g1 g2 (i+e)=g2 i:=by unfold qA;rw [if_neg (by omega)];congr 1;omega
theorem aB3{l:List Nat}(h:∀x∈l,x<e):l.map (qA e g1 g2)=l.map g1:=zh λx hx=>jY (h x hx)
theorem aB4(l:List Nat):(l.map (· + e)).map (qA e g1 g2)=l.map g2:=by rw [List.map_map];exact zh λx _=>yH x
theorem jC.append{k:Nat}{s:List Nd}(h:jC up R k s R1 ps s1 g1){j:Nat}{R2:List Rw}{qs:List Nat}{s2:List Nd}{g2:Nat->Nat}(h':jC up R1 j s1 R2 qs s2 g2) :
  jC up R (k+j) s R2 (ps++qs) s2 (qA (aH s k) g1 g2):=by
 have he:=tC s k j;have hs1:=h.rest;subst hs1;have hext:∀i,i<aH s k->R2[g1 i]?=R1[g1 i]?:=λi hi=>h'.ext _ (h.lt hi)
 have hget:∀i n,¬i<aH s k->s[i]?=some n->(s.drop (aH s k))[i-aH s k]?=some n:=by intro i n hi hn;rw [List.getElem?_drop,show aH s k+(i-aH s k)=i by omega];exact hn
 have hj:∀i,¬i<aH s k->qA (aH s k) g1 g2 i=g2 (i-aH s k):=λi hi=>if_neg hi
 refine ⟨(uP s k j).2 ⟨h.full,h'.full⟩,by rw [h'.rest,zj,he],?_,zm h.more h'.more,λi hi=>by rw [h'.ext i (Nat.lt_of_lt_of_le hi h.more),h.ext i hi],?_,?_,?_,?_,?_,λho=>h'.once (h.once ho)⟩
 ·rw [aEp,List.map_append,aB3 (λx hx=>by have:=(oC k s 0 h.full x hx).2;omega),<-h.ps,yG,aB4,<-h'.ps]
 ·intro i n hi hn hv;by_cases hlt:i<aH s k
  ·rw [jY hlt,hext i hlt];exact h.var i n hlt hn hv
  ·rw [hj i hlt];exact h'.var _ n (by omega) (hget i n hlt hn) hv
 ·intro i n hi hn hv;by_cases hlt:i<aH s k
  ·rw [jY hlt,hext i hlt];obtain ⟨n',h1,h2,h3⟩:=aB2 s k i h.full hlt;rw [hn] at h1;simp at h1;subst h1;rw [aB3 (λx hx=>by have:=(oC _ _ _ h2 x hx).2;omega)];exact h.name i n hlt hn hv
  ·rw [hj i hlt];obtain ⟨h1,h2⟩:=h'.name _ n (by omega) (hget i n hlt hn) hv;refine ⟨?_,zm h.more h2⟩;rw [h1,zj,show aH s k+(i-aH s k+1)=i+1 by omega,show i+1=(i-aH s k+1)+aH s k by omega,yG _ _ (i-aH s k+1),aB4]
 ·intro i j' n m hi hj' hn hm hvn hvm e;by_cases h1:i<aH s k <;> by_cases h2:j'<aH s k
  ·rw [jY h1,jY h2] at e;exact h.inj i j' n m h1 h2 hn hm hvn hvm e
  ·rw [jY h1,hj j' h2] at e;have a:=h.lt h1;have b:=(h'.name _ m (by omega) (hget j' m h2 hm) hvm).2;omega
  ·rw [jY h2,hj i h1] at e;have a:=h.lt h2;have b:=(h'.name _ n (by omega) (hget i n h1 hn) hvn).2;omega
  ·rw [hj i h1,hj j' h2] at e;have:=h'.inj _ _ n m (by omega) (by omega) (hget i n h1 hn) (hget j' m h2 hm) hvn hvm e;omega
 ·intro r h1 h2;by_cases hr:r<R1.length
  ·obtain ⟨i,hi,e⟩:=h.onto r h1 hr;exact ⟨i,by omega,by rw [jY hi];exact e⟩
  ·obtain ⟨i,hi,e⟩:=h'.onto r (by omega) h2;exact ⟨i+aH s k,by omega,by rw [yH];exact e⟩
 ·intro r x h1 h2;by_cases hr:r<R1.length
  ·rw [h'.ext r hr] at h2;exact h.fresh r x h1 h2
  ·exact h'.fresh r x (by omega) h2
theorem jC.old{up:Int}{R:List Rw}{n:Nd}{i:Nat}{s:List Nd}(hv:aF n=true)(hi:∃r,R[i]?=some r/\r.node=lR up n):jC up R 1 (n :: s) R [i] s (λ_=>i):=by
 have he:aH (n :: s) 1=1:=by simp [aH,oJ hv]
 refine ⟨by simp [fA,oJ hv],by rw [he];rfl,rfl,zq _,λ_ _=>rfl,?_,?_,?_,λr h1 h2=>by omega,λr x h1 h2=>?_,id⟩
 ·intro j m hj hm hvm;rw [he] at hj;have:j=0:=by omega
  subst this;simp at hm;subst hm;exact hi
 ·intro j m hj hm hvm;rw [he] at hj;have:j=0:=by omega
  subst this;simp at hm;subst hm;rw [hv] at hvm;cases hvm
 ·intro j j' _ _ hj hj' _ _ _ _ _;omega
 ·rw [zt h1] at h2;cases h2
theorem jC.new{up:Int}{R:List Rw}{n:Nd}{s:List Nd}(hv:aF n=true)(hno:∀r∈R,r.node≠lR up n):jC up R 1 (n :: s) (R++[⟨lR up n,R.length,[]⟩]) [R.length] s (λ_=>R.length):=by
 have he:aH (n :: s) 1=1:=by simp [aH,oJ hv]
 refine ⟨by simp [fA,oJ hv],by rw [he];rfl,rfl,by simp,λi hi=>by rw [zx hi],?_,?_,?_,?_,?_,λh=>h.new hno⟩
 ·intro j m hj hm hvm;rw [he] at hj;have:j=0:=by omega
  subst this;simp at hm;subst hm;exact ⟨⟨lR up n,R.length,[]⟩,by simp,rfl⟩
 ·intro j m hj hm hvm;rw [he] at hj;have:j=0:=by omega
  subst this;simp at hm;subst hm;rw [hv] at hvm;cases hvm
 ·intro j j' _ _ hj hj' _ _ _ _ _;omega
 ·intro r h1 h2;exact ⟨0,by omega,by simp at h2;omega⟩
 ·intro r x h1 h2;have hl:=(zz.1 h2).1;simp at hl;have:r=R.length:=by omega
  subst this;simp at h2;subst h2;exact ⟨rfl,λ_=>rfl⟩
theorem jC.name1{n:Nd}{s:List Nd}{qs:List Nat}(hv:aF n=false)(h:jC up (R++[⟨n,R.length,[]⟩]) (bJ n) s R1 qs s1 g1) :
  jC up R 1 (n :: s) (rO R1 R.length qs) [R.length] s1 (tF R.length g1):=by
 have he:aH (n :: s) 1=1+aH s (bJ n):=by simp [aH]
 have hm:=h.more;simp at hm;have hget:R1[R.length]?=some ⟨n,R.length,[]⟩:=by rw [h.ext _ (by simp)];simp
 have hsh:∀(t:List Nd) (q b:Nat),(fK t q (b+1)).map (tF R.length g1)=(fK t q b).map g1:=by intro t q b;rw [yG,List.map_map];rfl
 refine ⟨by simp only [fA];rw [zf];exact h.full,by rw [he,h.rest,zw,zp],rfl,by rw [aEr];omega,λi hi=>?_,?_,?_,?_,?_,?_,λho=>(h.once (ho.name hv)).parts _ _⟩
 ·rw [tE,if_neg (by omega),h.ext i (by simp;omega),zx hi]
 ·intro j m hj hmj hvm;cases j with
  | zero=>simp at hmj;subst hmj;rw [hv] at hvm;cases hvm
  | succ j=>
   obtain ⟨r,h1,h2⟩:=h.var j m (by omega) (by simpa using hmj) hvm;simp only [tF];rw [tE];split
   ·rw [h1];exact ⟨_,rfl,h2⟩
   ·exact ⟨r,h1,h2⟩
 ·intro j m hj hmj hvm;cases j with
  | zero=>
   simp at hmj;subst hmj;simp only [tF];rw [tE,if_pos rfl,hget,hsh,h.ps];exact ⟨rfl,zq _⟩
  | succ j=>
   obtain ⟨h1,h2⟩:=h.name j m (by omega) (by simpa using hmj) hvm;simp at h2;simp only [tF];rw [tE,if_neg (by omega),h1,hsh];exact ⟨rfl,by omega⟩
 ·intro i j a b hi hj ha hb hva hvb e;cases i with
  | zero=>
   cases j with
   | zero=>rfl
   | succ j=>
    have:=(h.name j b (by omega) (by simpa using hb) hvb).2;simp [tF] at e this;omega
  | succ i=>
   cases j with
   | zero=>
    have:=(h.name i a (by omega) (by simpa using ha) hva).2;simp [tF] at e this;omega
   | succ j=>
    have:=h.inj i j a b (by omega) (by omega) (by simpa using ha) (by simpa using hb) hva hvb e;omega
 ·intro r h1 h2;rw [aEr] at h2;by_cases hr:r=R.length
  ·exact ⟨0,by omega,hr.symm⟩
  ·obtain ⟨i,hi,e⟩:=h.onto r (by simp;omega) h2;exact ⟨i+1,by omega,e⟩
 ·intro r x h1 h2;rw [tE] at h2;by_cases hr:r=R.length
  ·subst hr;rw [if_pos rfl,hget] at h2;simp at h2;subst h2;exact ⟨rfl,λe=>by simp only at e;rw [hv] at e;cases e⟩
  ·rw [if_neg hr] at h2;exact h.fresh r x (by simp;omega) h2
theorem eI.inv{k:Nat}{s:List Nd}{R':List Rw}{s':List Nd}(h:eI up R k s R' ps s'):∃g,jC up R k s R' ps s' g:=by
 induction h with
 | nil R s=>
  refine ⟨λ_=>0,⟨aMa _,by simp,rfl,zq _,λ_ _=>rfl,?_,?_,?_,λr h1 h2=>by omega,λr x h1 h2=>?_,id⟩⟩
  ·intro i n hi;simp at hi
  ·intro i n hi;simp at hi
  ·intro i j n m hi;simp at hi
  ·rw [zt h1] at h2;cases h2
 | @old R n i k s R' ps s' a b _ ih=>
  obtain ⟨g,hg⟩:=ih;rw [zw];exact ⟨_,(jC.old a b).append hg⟩
 | @new R n k s R' ps s' a b _ ih=>
  obtain ⟨g,hg⟩:=ih;rw [zw];exact ⟨_,(jC.new a b).append hg⟩
 | @name R n k s R1 qs s1 R' ps s' a _ _ ih1 ih2=>
  obtain ⟨g1,hg1⟩:=ih1;obtain ⟨g2,hg2⟩:=ih2;rw [zw];exact ⟨_,(jC.name1 a hg1).append hg2⟩
inductive dZ(B:Nat->Nat->Prop):Nat->Nat->Prop
 | refl (i):dZ B i i
 | base {i j}:B i j->dZ B i j
 | symm {i j}:dZ B i j->dZ B j i
 | trans {i j k}:dZ B i j->dZ B j k->dZ B i k
theorem dZ.le{R:Nat->Nat->Prop}(h1:∀i,R i i)(h2:∀i j,R i j->R j i)(h3:∀i j k,R i j->R j k->R i k)(hB:∀i j,B i j->R i j){i j:Nat}(h:dZ B i j):R i j:=by
 induction h with
 | refl i=>exact h1 i
 | base h=>exact hB _ _ h
 | symm _ ih=>exact h2 _ _ ih
 | trans _ _ a b=>exact h3 _ _ _ a b
theorem dZ.mono{B':Nat->Nat->Prop}(h:∀i j,B i j->dZ B' i j){i j:Nat}(k:dZ B i j):dZ B' i j:=k.le dZ.refl (λ_ _=>dZ.symm) (λ_ _ _=>dZ.trans) h
def aC(L:List Nd):Gr:=⟨λi=>(L[i]?).getD (⟨#[]⟩,0),λi=>match L[i]? with | some n=>fK (L.drop (i+1)) (bJ n) (i+1) | none=>[]⟩
theorem jN{i:Nat}(h:(aC L).named i):∃n,L[i]?=some n/\aF n=false:=by
 unfold Gr.named aC at h;simp only at h;cases hl:L[i]? with
 | none=>rw [hl] at h;simp only [Option.getD_none] at h;rw [oI] at h;cases h
 | some n=>rw [hl] at h;exact ⟨n,rfl,h⟩
theorem fL{i:Nat}{n:Nd}(h:L[i]?=some n):(aC L).named i↔aF n=false:=by unfold Gr.named aC;simp [h]
theorem lC{i:Nat}{n:Nd}(h:L[i]?=some n):(aC L).lab i=n:=by simp [aC,h]
theorem fM{i:Nat}{n:Nd}(h:L[i]?=some n):(aC L).ch i=fK (L.drop (i+1)) (bJ n) (i+1):=by simp [aC,h]
theorem oD(L:List Nd):(aC L).Arity:=by intro i j hi hj e;obtain ⟨n,h1,_⟩:=jN hi;obtain ⟨m,h2,_⟩:=jN hj;rw [lC h1,lC h2] at e;rw [fM h1,fM h2,tD,tD,e]
structure gB(F:List Nat)(rt d:Nat->Nat):Prop where
 lt:∀p q:Nat,F[p]?=some q->q<F.length
 root:∀p:Nat,F[p]?=some p->rt p=p
 step:∀p q:Nat,F[p]?=some q->q≠p->rt p=rt q/\d q<d p
 out:∀p:Nat,F.length<=p->rt p=p
theorem gB.isRoot(h:gB F rt d):∀(n p:Nat),d p<=n->p<F.length->F[rt p]?=some (rt p):=by
 intro n;induction n with
 | zero=>
  intro p hd hp;obtain ⟨q,hq⟩ : ∃q,F[p]?=some q:=⟨F[p],zy hp⟩;by_cases e:q=p
  ·subst e;rw [h.root _ hq];exact hq
  ·have:=(h.step p q hq e).2;omega
 | succ n ih=>
  intro p hd hp;obtain ⟨q,hq⟩ : ∃q,F[p]?=some q:=⟨F[p],zy hp⟩;by_cases e:q=p
  ·subst e;rw [h.root _ hq];exact hq
  ·have hs:=h.step p q hq e;rw [hs.1];exact ih q (by omega) (h.lt p q hq)
theorem gB.rootAt(h:gB F rt d){p:Nat}(hp:p<F.length):F[rt p]?=some (rt p):=h.isRoot _ p (zq _) hp
theorem gB.rt_lt(h:gB F rt d){p:Nat}(hp:p<F.length):rt p<F.length:=(zz.1 (h.rootAt hp)).1
theorem gB.rt_rt(h:gB F rt d)(p:Nat):rt (rt p)=rt p:=by
 by_cases hp:p<F.length
 ·exact h.root _ (h.rootAt hp)
 ·rw [h.out p (by omega),h.out p (by omega)]
def fS(rt:Nat->Nat)(a b p:Nat):Nat:=if rt p=a then b else rt p
def dJ(rt d:Nat->Nat)(a b p:Nat):Nat:=if rt p=a then d p+d b+1 else d p
theorem gB.join(h:gB F rt d){a b:Nat}(ha:F[a]?=some a)(hb:F[b]?=some b)(hne:a≠b):gB (F.set a b) (fS rt a b) (dJ rt d a b):=by
 have hbl:=(zz.1 hb).1;have hal:=(zz.1 ha).1;have hra:=h.root a ha;have hrb:=h.root b hb;refine ⟨λp q hq=>?_,λp hp=>?_,λp q hq hpq=>?_,λp hp=>?_⟩
 ·rw [zs] at hq;rw [zl];split at hq
  ·simp at hq;omega
  ·exact h.lt p q hq
 ·rw [zs] at hp;split at hp
  ·rename_i e;subst e;simp at hp;exact absurd hp.symm hne
  ·rename_i e;have:=h.root p hp;unfold fS;rw [this,if_neg (λx=>e x.symm)]
 ·rw [zs] at hq;split at hq
  ·rename_i e;subst e;simp at hq;subst hq;unfold fS dJ;rw [hra,hrb,if_pos rfl,if_neg (λx=>hne x.symm),if_neg (λx=>hne x.symm),if_pos rfl];exact ⟨rfl,by omega⟩
  ·obtain ⟨h1,h2⟩:=h.step p q hq hpq;unfold fS dJ;rw [h1];refine ⟨rfl,?_⟩;split <;> omega
 ·rw [zl] at hp;unfold fS;rw [h.out p hp,if_neg (by omega)]
theorem aEs(p q:Nat):fS rt a b p=fS rt a b q↔rt p=rt q\/(rt p=a/\rt q=b)\/(rt p=b/\rt q=a):=by
 unfold fS;by_cases h1:rt p=a <;> by_cases h2:rt q=a
 ·simp [h1,h2]
 ·rw [if_pos h1,if_neg h2,h1];constructor
  ·intro e;exact zu (zv ⟨rfl,e.symm⟩)
  ·rintro (e | ⟨_,e⟩ | ⟨_,e⟩)
   ·exact absurd e.symm h2
   ·exact e.symm
   ·exact absurd e h2
 ·rw [if_neg h1,if_pos h2,h2];constructor
  ·intro e;exact zu (zu ⟨e,rfl⟩)
  ·rintro (e | ⟨e,_⟩ | ⟨e,_⟩)
   ·exact absurd e h1
   ·exact absurd e h1
   ·exact e
 ·rw [if_neg h1,if_neg h2];constructor
  ·exact zv
  ·rintro (e | ⟨e,_⟩ | ⟨_,e⟩)
   ·exact e
   ·exact absurd e h1
   ·exact absurd e h2
def lS(F:List Nat):Nat:=(List.range F.length).countP λp=>F[p]? == some p
theorem aEt(ha:F[a]?=some a)(hne:a≠b):lS (F.set a b)<lS F:=by
 have hal:=(zz.1 ha).1;unfold lS;rw [zl];refine aHu _ _ _ (λp _ hp=>?_) a (by simpa using hal) ?_ ?_
 ·rw [zs] at hp;split at hp
  ·rename_i e;subst e;simp at hp;omega
  ·exact hp
 ·rw [zs];simp [hal];omega
 ·simp [ha]
def dR(G:Gr)(E Q:Nat->Nat->Prop):Prop:=∀x y,E x y->G.named x->G.named y->G.lab x=G.lab y/\∀(k p q:Nat),(G.ch x)[k]?=some p->(G.ch y)[k]?=some q->dZ (λi j=>E i j\/Q i j) p q
structure tG(E:Nat->Nat->Prop):Prop where
 refl:∀i,E i i
 symm:∀i j,E i j->E j i
 trans:∀i j k,E i j->E j k->E i k
theorem qB(rt:Nat->Nat):tG λp q=>rt p=rt q:=⟨λ_=>rfl,λ_ _ h=>h.symm,λ_ _ _ h k=>h.trans k⟩
def tH(Q:Nat->Nat->Prop)(a b:Nat)(i j:Nat):Prop:=Q i j\/(i=a/\j=b)
theorem dR.mono{Q':Nat->Nat->Prop}(h:dR G E Q)(k:∀i j,Q i j->Q' i j):dR G E Q':=λx y e hx hy=>by
 obtain ⟨h1,h2⟩:=h x y e hx hy;exact ⟨h1,λn p q hp hq=>(h2 n p q hp hq).mono λi j hij=>dZ.base (hij.imp id (k i j))⟩
theorem dR.same(h:dR G E (tH Q a b))(hab:E a b):dR G E Q:=λx y e hx hy=>by
 obtain ⟨h1,h2⟩:=h x y e hx hy;refine ⟨h1,λn p q hp hq=>(h2 n p q hp hq).mono λi j hij=>?_⟩;rcases hij with hij | hij | ⟨rfl,rfl⟩
 ·exact dZ.base (zv hij)
 ·exact dZ.base (zu hij)
 ·exact dZ.base (zv hab)
def lT(E E':Nat->Nat->Prop)(a b:Nat):Prop:=∀p q,E' p q↔E p q\/(E p a/\E q b)\/(E p b/\E q a)
theorem lT.le(h:lT E E' a b){p q:Nat}(e:E p q):E' p q:=(h p q).2 (zv e)
theorem lT.ab(h:lT E E' a b)(hE:tG E):E' a b:=(h a b).2 (zu (zv ⟨hE.refl a,hE.refl b⟩))
theorem lT.eqv{Q':Nat->Nat->Prop}(h:lT E E' a b)(hE:tG E)(hQ:∀i j,Q i j->Q' i j){p q:Nat}(e:dZ (λi j=>E i j\/tH Q a b i j) p q):dZ (λi j=>E' i j\/Q' i j) p q:=
 e.mono λi j hij=>by
  rcases hij with hij | hij | ⟨rfl,rfl⟩
  ·exact dZ.base (zv (h.le hij))
  ·exact dZ.base (zu (hQ _ _ hij))
  ·exact dZ.base (zv (h.ab hE))
theorem dR.var{G:Gr}{E E' Q:Nat->Nat->Prop}{a b:Nat}(h:dR G E (tH Q a b))(hE:tG E)(hm:lT E E' a b)(hv:(∀p,E p a->¬G.named p)\/∀p,E p b->¬G.named p):dR G E' Q:=λx y e hx hy=>by
 rcases (hm x y).1 e with e | ⟨e1,e2⟩ | ⟨e1,e2⟩
 ·obtain ⟨h1,h2⟩:=h x y e hx hy;exact ⟨h1,λn p q hp hq=>hm.eqv hE (λ_ _=>id) (h2 n p q hp hq)⟩
 ·rcases hv with hv | hv
  ·exact absurd hx (hv x e1)
  ·exact absurd hy (hv y e2)
 ·rcases hv with hv | hv
  ·exact absurd hy (hv y e2)
  ·exact absurd hx (hv x e1)
def oE(G:Gr)(Q:Nat->Nat->Prop)(a b k:Nat)(i j:Nat):Prop:=Q i j\/∃n,k<=n/\(G.ch a)[n]?=some i/\(G.ch b)[n]?=some j
theorem dR.name{G:Gr}{E E' Q:Nat->Nat->Prop}{a b ra rb:Nat}(h:dR G E (tH Q a b))(hE:tG E)(hm:lT E E' a b)(hA:G.Arity)(h1:E a ra)(h2:E b rb)(n1:G.named ra)(n2:G.named rb)(hl:G.lab ra=G.lab rb):dR G E' (oE G Q ra rb 0):=by
 have key:∀x y,E x a->E y b->G.named x->G.named y->G.lab x=G.lab y/\∀(k p q:Nat),(G.ch x)[k]?=some p->(G.ch y)[k]?=some q->dZ (λi j=>E' i j\/oE G Q ra rb 0 i j) p q:=by
  intro x y ex ey hx hy;obtain ⟨a1,a2⟩:=h x ra (hE.trans _ _ _ ex h1) hx n1;obtain ⟨b1,b2⟩:=h y rb (hE.trans _ _ _ ey h2) hy n2;refine ⟨a1.trans (hl.trans b1.symm),λk p q hp hq=>?_⟩;have hk1:k<(G.ch ra).length:=by rw [<-hA x ra hx n1 a1];exact (zz.1 hp).1
  have hk2:k<(G.ch rb).length:=by rw [<-hA y rb hy n2 b1];exact (zz.1 hq).1
  have c1:=hm.eqv hE (Q':=oE G Q ra rb 0) (λi j hij=>zv hij) (a2 k p _ hp (zy hk1));have c2:=hm.eqv hE (Q':=oE G Q ra rb 0) (λi j hij=>zv hij) (b2 k q _ hq (zy hk2));exact c1.trans ((dZ.base (zu (zu ⟨k,Nat.zero_le _,zy hk1,zy hk2⟩))).trans c2.symm)
 intro x y e hx hy;rcases (hm x y).1 e with e | ⟨e1,e2⟩ | ⟨e1,e2⟩
 ·obtain ⟨h3,h4⟩:=h x y e hx hy;exact ⟨h3,λn p q hp hq=>hm.eqv hE (λi j hij=>zv hij) (h4 n p q hp hq)⟩
 ·exact key x y e1 e2 hx hy
 ·obtain ⟨h3,h4⟩:=key y x e2 e1 hy hx;exact ⟨h3.symm,λk p q hp hq=>(h4 k q p hq hp).symm⟩
theorem dR.part{k p q:Nat}(h:dR G E (oE G Q a b k))(hp:(G.ch a)[k]?=some p)(hq:(G.ch b)[k]?=some q):dR G E (tH (oE G Q a b (k+1)) p q):=
 h.mono λi j hij=>by
  rcases hij with hij | ⟨n,h1,h2,h3⟩
  ·exact zv (zv hij)
  ·by_cases e:n=k
   ·subst e;rw [hp] at h2;rw [hq] at h3;simp at h2 h3;exact zu ⟨h2.symm,h3.symm⟩
   ·exact zv (zu ⟨n,by omega,h2,h3⟩)
theorem dR.allParts{k:Nat}(h:dR G E (oE G Q a b k))(hk:(G.ch a).length<=k):dR G E Q:=
 h.mono λi j hij=>by
  rcases hij with hij | ⟨n,h1,h2,_⟩
  ·exact hij
  ·have:=(zz.1 h2).1;omega
theorem dR.done(h:dR G E λ_ _=>False)(hE:tG E)(hs:∀i j,E i j->Cl G B i j)(hb:∀i j,B i j->E i j):(∀i j,E i j↔Cl G B i j)/\dW G (Cl G B):=by
 have hd:eK G E:=⟨hE.refl,hE.symm,hE.trans,λi j k p q hij hi hj hp hq=>((h i j hij hi hj).2 k p q hp hq).le hE.refl hE.symm hE.trans λi j hij=>by
  rcases hij with hij | hij
  ·exact hij
  ·exact hij.elim⟩
 have hiff:∀i j,E i j↔Cl G B i j:=λi j=>⟨hs i j,Cl.le hd hb⟩
 exact ⟨hiff,λi j hij hi hj=>(h i j ((hiff i j).2 hij) hi hj).1⟩
end
end Go.Proofs.YtcldkjcpofjmhaaGreatDoor
