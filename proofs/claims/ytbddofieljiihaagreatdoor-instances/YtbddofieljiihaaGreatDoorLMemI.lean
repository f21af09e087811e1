/- Rows of one's own: helpers. A map that has no such key. -/
import Derived.Test.YtbddofieljiihaaGreatDoorBase0I
import Derived.Maps.OwnSet
import Derived.Maps.Keyed
namespace Go.Proofs.YtbddofieljiihaaGreatDoor
open Go.RowKit
set_option maxRecDepth 100000
def gX (w:World) (v v':Value):Prop:=v'.ownBlock=v.ownBlock∨∃g,v'.ownBlock=some g∧w.heap.size≤g
theorem gX.refl (w:World) (v:Value):gX w v v:=Or.inl rfl
theorem gX.trans {w w1:World} {v v1 v2:Value} (h:gX w v v1) (k:gX w1 v1 v2) (hs:w.heap.size≤w1.heap.size):gX w v v2:=by
 rcases k with k | ⟨g,k,hg⟩
 ·rcases h with h | ⟨g,h,hg⟩
  ·exact Or.inl (k.trans h)
  ·exact Or.inr ⟨g,k.trans h,hg⟩
 ·exact Or.inr ⟨g,k,by omega⟩
theorem aEj {w W W':World} {v v1:Value} (h:w.grownBy W v.ownBlock) (hm:gX w v v1) (hg:W.grownBy W' v1.ownBlock):w.grownBy W' v.ownBlock:=
 ⟨hg.os.trans h.os,hg.tape.trans h.tape,hg.output.trans h.output,Nat.le_trans h.size hg.size,fun k hk ho=>by
  rw [hg.block k (Nat.lt_of_lt_of_le hk h.size) (fun e=>by
   rcases hm with hm | ⟨g,hm,hgg⟩
   ·exact ho (e.trans hm)
   ·rw [hm] at e;simp at e;omega),h.block k hk ho]⟩
theorem fF {w w':World} {o:Option Nat} (h:Below w.heap.size w w'):w.grownBy w' o:=⟨h.os,h.tape,h.output,h.size,fun k hk _=>h.block k hk⟩
def tV (w:World) (B:Nat) (v:Value) (l:List Nd):Prop:=w.ownsRow B 106 2 v l.length (aP l)
theorem cX {w w':World} {B:Nat} {e:TypeId} {size:Nat} {v:Value} {n:Nat} {xs:List Value} {o:Option Nat} (h:w.ownsRow B e size v n xs) (hg:w.grownBy w' o) (ho:v.ownBlock=none∨v.ownBlock≠o):w'.ownsRow B e size v n xs:=by
 obtain ⟨h1,⟨rfl,h2⟩ | ⟨g,cap,cur,rfl,hb,hh,hr⟩⟩:=h
 ·exact ⟨h1,Or.inl ⟨rfl,h2⟩⟩
 ·refine ⟨h1,Or.inr ⟨g,cap,cur,rfl,hb,?_,hr⟩⟩
  rw [hg.block g (Array.getElem?_eq_some_iff.1 hh).1 ?_,hh]
  rintro rfl
  rcases ho with ho | ho
  ·simp [Value.ownBlock] at ho
  ·simp [Value.ownBlock] at ho
theorem pW {w:World} {B:Nat} {e:TypeId} {size:Nat} {v:Value} {n:Nat} {xs:List Value} (h:w.ownsRow B e size v n xs):v.ownBlock≠some w.heap.size:=fun e=>by have:=(bY h _ e).2;omega
theorem dD {w:World} {B tb:Nat} {e T:TypeId} {size:Nat} {v:Value} {n:Nat} {xs:List Value} {cs:Array Value} (h:w.ownsRow B e size v n xs) (hb:w.heap[tb]?=some (.cells cs T)) (he:e≠T):v.ownBlock≠some tb:=by
 obtain ⟨_,⟨rfl,_⟩ | ⟨g,cap,cur,rfl,_,hg,_⟩⟩:=h
 ·simp [Value.ownBlock]
 ·simp [Value.ownBlock]
  rintro rfl
  rw [hg] at hb
  simp at hb
  exact he hb.2
theorem iZ {w:World} {B tb j:Nat} {e T:TypeId} {size:Nat} {v x:Value} {n:Nat} {xs:List Value} {cs:Array Value} (h:w.ownsRow B e size v n xs) (hb:w.heap[tb]?=some (.cells cs T)) (he:e≠T):(w.setCell ⟨tb,j,none⟩ x).ownsRow B e size v n xs:=
 cX h (cB w ⟨tb,j,none⟩ x) (Or.inr (dD h hb he))
theorem aEk {w:World} {B:Nat} {v:Value} {l:List Nd} (h:w.ownsRow B 106 2 v l.length (aP l)) :
  ∃a cap,v=.slice a l.length cap∧∀k n,l[k]?=some n→∃g,a=some ⟨g,0,none⟩∧w.cell? ⟨g,k * 2,none⟩=some (.string n.1)∧w.cell? ⟨g,k * 2+1,none⟩=some (.int .i64 n.2):=by
 obtain ⟨h1,⟨rfl,h2⟩ | ⟨g,cap,cur,rfl,hb,hh,hc,hm,hz,ht⟩⟩:=h
 ·refine ⟨none,0,by rw [h2],fun k n hk=>?_⟩
  have:=(List.getElem?_eq_some_iff.1 hk).1
  omega
 ·have ho:w.ownsRow B 106 2 (.slice (some ⟨g,0,none⟩) l.length cap) l.length (aP l):=⟨h1,Or.inr ⟨g,cap,cur,rfl,hb,hh,hc,hm,hz,ht⟩⟩
  refine ⟨_,_,rfl,fun k n hk=>⟨g,rfl,?_,?_⟩⟩
  ·obtain ⟨hl,rfl⟩:=List.getElem?_eq_some_iff.1 hk
   rw [ho.cellAt (k * 2) (by omega),(tC l k hl).1]
  ·obtain ⟨hl,rfl⟩:=List.getElem?_eq_some_iff.1 hk
   rw [ho.cellAt (k * 2+1) (by omega),(tC l k hl).2]
theorem wI (w:World) (x y:Value) (t:TypeId):(w.alloc (.cells #[x,y] t)).cell? ⟨w.heap.size,0,none⟩=some x∧(w.alloc (.cells #[x,y] t)).cell? ⟨w.heap.size,1,none⟩=some y:=by
 have h:(w.alloc (.cells #[x,y] t)).heap[w.heap.size]?=some (.cells #[x,y] t):=by
  show (w.heap.push _)[w.heap.size]?=_
  simp
 constructor
 ·unfold World.cell?;rw [h];rfl
 ·unfold World.cell?;rw [h];rfl
theorem aA0 (w:World) (base:Nat) (t ty e:TypeId) (i:TypeInfo) (z:Value) (size bytes:Nat) (ht:Tryz.prog.underlying t=some (.slice e)) (hi:Tryz.prog.info? e=some i) (hz:i.zero=some z)
  (hsize:i.size=size) (hby:i.bytes=bytes) (hsz:0 < size)
  (v:Value) (n:Nat) (xs:List Value) (hown:w.ownsRow base e size v n xs) (hv:v.ownBlock≠none)
  (a:Addr) (m c:Nat) (news:List Value) (hl:news.length=m * size) (hnews:∀j u,news[j]?=some u→w.cell? (a.add j)=some u) (h1:∀u∈news,u.oneCell'=true)
  (h63:n+m≤maxLen) (hbytes:(n+m) * bytes≤140737488355328) {v':Value} {w':World} (hr:(Builtin.append_ #[t,t] ty #[v,.slice (some a) m c]).run Tryz.prog w=.ok v' w') :
  v'.ownBlock=v.ownBlock∨v'.ownBlock=some w.heap.size:=by
 subst hsize
 subst hby
 have hsmall:n+m≤9223372036854775807:=by simp only [maxLen] at h63;omega
 rcases hown.2 with ⟨rfl,rfl⟩ | ⟨g,cap,cur,rfl,hbg,hg,hnc,hcm,hcs,htake⟩
 ·exact absurd rfl hv
 ·by_cases hroom:n+m≤cap
  ·have hfit:n * i.size+news.length≤cur.size:=by rw [hl,hcs,←Nat.add_mul];exact Nat.mul_le_mul_right _ hroom
   have hr':=run_append_room (P:=Tryz.prog) w t ty e i ht hi g n cap cur hg a m c news hl hnews h1 hroom hfit
   rw [hr'] at hr
   simp at hr
   rw [←hr.1]
   exact Or.inl rfl
  ·have holds:∀j u,xs[j]?=some u→w.cell? ((⟨g,0,none⟩ : Addr).add j)=some u:=hown.cells (g:=g) rfl
   have hr':=run_append_grow (P:=Tryz.prog) w t ty e i z ht hi hz ⟨g,0,none⟩ n cap xs hown.1 holds a m c news hl hnews (by omega) (by omega) (growslice_fits (by omega) hbytes)
   rw [hr'] at hr
   simp at hr
   rw [←hr.1]
   exact Or.inr rfl
theorem sB {ops:Array Oper} {i:Nat} {o:Oper} {a:Act} {w w':World} {v:Value} {K:Act→World→Prop} {Q:Exit→Act→World→Prop} (hi:ops[i]?=some o) (hg:o.guard=none) (hr:(execOp a.eval o).run Tryz.prog w=.ok (.value v) w') (h:K (a.put o.dst v) w'):wpOp Tryz.prog ops Q i K a w:=by
 refine wpOp_step hi fun K' hK=>?_
 rw [if_pos (by simp [Region.wanted,hg])]
 unfold Oper.wp
 rw [hr]
 exact hK _ _ h
end Go.Proofs.YtbddofieljiihaaGreatDoor
namespace Go.Proofs.YtbddofieljiihaaGreatDoor
open Go.RowKit Go.WideMaps
theorem wJ {D:DataW Unit} (hD:Maps.IsMap D) {k:Lit} (h:Maps.has D k=false) (z:DataW Unit):D.atKey k z=z:=by
 obtain ⟨es,rfl⟩:=hD
 rw [Maps.has_eq] at h
 have:es.find? (fun p=>p.1.sameKey k)=none:=by
  rw [List.find?_eq_none]
  intro p hp
  rw [List.any_eq_false] at h
  exact h p hp
 simp [DataW.atKey,this]
end Go.Proofs.YtbddofieljiihaaGreatDoor
