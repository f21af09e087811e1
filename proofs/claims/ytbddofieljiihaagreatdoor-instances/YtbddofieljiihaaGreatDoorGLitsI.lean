/- The program's parser: the literals of a clause. The program's parser: the clauses that it has read, in memory. The program's parser: a clause. The program's parser: a text. The program: what the names of a whole text are. The program's parser is made. -/
import Derived.Test.YtbddofieljiihaaGreatDoorGNumI
import Derived.Test.YtbddofieljiihaaGreatDoorInsOI
import Derived.Laws.AppendOwnNone
namespace Go.Proofs.YtbddofieljiihaaGreatDoor
open Go.RowKit Go.WideMaps
set_option maxRecDepth 100000
def aLf (B pb:Nat) (w:World) (s:ByteArray) (T:List Tk) (g:Nat) (vC:Value) (mg:Nat) (r:Except Nat (aV×List Lt)) (e:Ending) (w':World):Prop:=
 bH B w.heap.size mg w w'∧
  match r with
  | .ok (s1,c)=>∃P vc vP,e=.returned (.tuple #[vc,.bool true])∧bJ B w' pb s T s1 g vC vP mg∧w'.ownsRow w.heap.size 74 2 vc P.length (aT P)∧(∀q∈P,w'.ownsRow w.heap.size 106 2 q.2 q.1.2.length (aP q.1.2))∧P.map Prod.fst=c
  | .error p=>∃a n c i vP vM,e=.returned (.tuple #[.slice a n c,.bool false])∧cL B w' pb s T i g vC vP vM∧(aD T i).pos=p
structure LLq (B pb:Nat) (w:World) (s:ByteArray) (T:List Tk) (g:Nat) (vC:Value) (mg:Nat) (r:Except Nat (aV×List Lt)) (k:Nat) (vc:Value) (wr:World) (st:aV) (P:List (Lt×Value)) (vP:Value):Prop where
 q:bJ B wr pb s T st g vC vP mg
 kept:bH B w.heap.size mg w wr
 row:wr.ownsRow w.heap.size 74 2 vc P.length (aT P)
 atoms:∀q∈P,wr.ownsRow w.heap.size 106 2 q.2 q.1.2.length (aP q.1.2)
 eq:r=fG T k st (P.map Prod.fst)
 fuel:T.length < st.i+k
 pl:st.places.length≤st.i
 vs:st.vars.length≤st.i
 few:P.length≤st.i
section
variable {B pb:Nat} {w w1 w2 w3:World} {s:ByteArray} {T:List Tk} {g:Nat} {vC vP vc:Value} {mg:Nat} {st:aV} {P:List (Lt×Value)}
theorem tN {st1:aV} (hq:bJ B w1 pb s T st1 g vC vP mg) (hk:bH B w.heap.size mg w w1) (hr:w1.ownsRow w.heap.size 74 2 vc P.length (aT P)) (ha:∀q∈P,w1.ownsRow w.heap.size 106 2 q.2 q.1.2.length (aP q.1.2)) {i':Nat} (hg:w1.grownBy w2 (some pb)) (hp:cL B w2 pb s T i' g vC vP (.map (some mg))) :
  bJ B w2 pb s T ⟨i',st1.vars,st1.places⟩ g vC vP mg∧bH B w.heap.size mg w w2∧w2.ownsRow w.heap.size 74 2 vc P.length (aT P)∧(∀q∈P,w2.ownsRow w.heap.size 106 2 q.2 q.1.2.length (aP q.1.2)):=by
 obtain ⟨left,hb,hBp⟩:=hq.pp.box
 exact ⟨hq.take hg hp,hk.grownBox hb hBp hg,hr.kept hg (hb.apart hr (by decide)),fun q hq'=>(ha q hq').kept hg (hb.apart (ha q hq') (by decide))⟩
theorem aD7 {st1:aV} {vl:Value} {l:List Nd} (hq:bJ B w1 pb s T st1 g vC vP mg) (hk:bH B w.heap.size mg w w1) (hr:w1.ownsRow w.heap.size 74 2 vc P.length (aT P)) (ha:∀q∈P,w1.ownsRow w.heap.size 106 2 q.2 q.1.2.length (aP q.1.2)) (hk2:bH B w1.heap.size mg w1 w2) (hl:w2.ownsRow w1.heap.size 106 2 vl l.length (aP l)) :
  bH B w.heap.size mg w w2∧w2.ownsRow w.heap.size 74 2 vc P.length (aT P)∧(∀q∈P,w2.ownsRow w.heap.size 106 2 q.2 q.1.2.length (aP q.1.2))∧w2.ownsRow w.heap.size 106 2 vl l.length (aP l):=by
 obtain ⟨D,hm,_⟩:=hq.map
 exact ⟨hk.trans (hk2.mono hk.size),hk2.own hr (by decide) (by intro e;exact absurd e (by decide)) (pQ hr hm),fun q hq'=>hk2.own (ha q hq') (by decide) (fun _=>Nat.le_refl _) (pQ (ha q hq') hm),fS hl hk.size⟩
theorem aD8 {st2:aV} {vl v3:Value} {x:Lt} {X:Obj} (hq:bJ B w2 pb s T st2 g vC vP mg) (hk:bH B w.heap.size mg w w2) (hr:w2.ownsRow w.heap.size 74 2 vc P.length (aT P)) (ha:∀q∈P,w2.ownsRow w.heap.size 106 2 q.2 q.1.2.length (aP q.1.2)) (hl:w2.ownsRow w.heap.size 106 2 vl x.2.length (aP x.2))
  (ho:w3.ownsRow w.heap.size 74 2 v3 (P.length+1) (aT P++[.bool x.1,vl])) (hg:(w2.alloc X).grownBy w3 vc.ownBlock) :
  bJ B w3 pb s T st2 g vC vP mg∧bH B w.heap.size mg w w3∧w3.ownsRow w.heap.size 74 2 v3 (P++[(x,vl)]).length (aT (P++[(x,vl)]))∧(∀q∈P++[(x,vl)],w3.ownsRow w.heap.size 106 2 q.2 q.1.2.length (aP q.1.2)):=by
 have hA:=(Below.refl w2.heap.size w2).alloc (Nat.le_refl _) X
 have hrA:=aZ hr hA (Nat.le_refl _)
 have haA:=fun q hq'=>aZ (ha q hq') hA (Nat.le_refl _)
 have hlA:=aZ hl hA (Nat.le_refl _)
 refine ⟨(hq.below hA).far hrA (by decide) hg,?_,by rw [vK,List.length_append];exact ho,fun q hq'=>?_⟩
 ·have hkA:=hk.trans (bH.of_below (B:=B) (B':=w.heap.size) (mg:=mg) hA)
  exact ⟨hg.os.trans hkA.os,hg.tape.trans hkA.tape,hg.output.trans hkA.output,Nat.le_trans hkA.size hg.size,fun k hk' hc=>by
   rw [hg.block k (Nat.lt_of_lt_of_le hk' hkA.size) (fun e=>by have:=(bY hrA k e.symm).1;omega),hkA.block k hk' hc]⟩
 ·rcases List.mem_append.1 hq' with hq' | hq'
  ·exact (haA q hq').kept hg (eV (haA q hq') hrA (by decide))
  ·simp at hq'
   subst hq'
   exact hlA.kept hg (eV hlA hrA (by decide))
set_option maxHeartbeats 4000000 in
theorem aLg (hT:∀i,(aD T i).kind∈fK) (hx:∀i,(aD T i).txt.size≤1000000) (hs:s.size≤3000) (hTl:T.length≤1000000) (h:bJ B w pb s T st g vC vP mg) (hBw:B≤w.heap.size) (hp1:st.places.length≤st.i) (hv1:st.vars.length≤st.i) :
  Calls Tryz.prog 75 #[.pointer (some ⟨pb,0,none⟩)] w fun e w'=>aLf B pb w s T g vC mg (fG T (T.length+1) st []) e w':=by
 obtain ⟨iL,hI,hI0,hI1,hI2⟩:=info_parts qP
 have H0:Hid (LLq B pb w s T g vC mg (fG T (T.length+1) st []) (T.length+1) (.slice none 0 0) w st [] vP):=aA ⟨h,bH.refl _ _ _ _,World.ownsRow_nil _ _ _ _,fun q hq=>by simp at hq,rfl,by omega,hp1,hv1,by simp⟩
 obtain ⟨R,hR⟩ : ∃R,fG T (T.length+1) st []=R:=⟨_,rfl⟩
 rw [hR] at H0
 simp only [hR]
 have HT:=aA hT
 have HX:=aA hx
 clear h hR hT hx hp1 hv1
 go_enter Tryz.func75,Tryz.ntmps75
 go_wp2
 go_loopg [4] (T.length+1) (fun k vc wr=>∃st' P vP',LLq B pb w s T g vC mg R k vc wr st' P vP')
 case atStart=>exact ⟨st,[],vP,H0.out⟩
 case round=>
  clear H0
  obtain ⟨st',P,vP',hL⟩:=hrel
  have hlt':=hL.q.pp.lt
  have hfu:=hL.fuel
  have hpl:=hL.pl
  have hvs:=hL.vs
  have hfew:=hL.few
  obtain ⟨k',rfl⟩ : ∃k',gk=k'+1:=⟨gk - 1,by omega⟩
  obtain ⟨va,vcc,rfl⟩:=aR hL.row
  obtain ⟨q1,q2,q3,q4⟩:=aAy T st'
  have C126:=aA (kB 126 (by decide) (by decide) (by decide) HT.out hs hL.q.pp)
  rw [show cU 126=126 from rfl] at C126
  have CA:=aA (fun w1 (hk1:w.heap.size≤w1.heap.size) (hq1:bJ B w1 pb s T (iH T st') g vC vP' mg)=>aM7 HT.out HX.out hs hTl hq1 (Nat.le_trans hBw hk1) (by rw [q4];omega) (by rw [q3];omega))
  have HL:=aA hL
  obtain ⟨nb,hnb⟩ : ∃nb,decide ((aD T st'.i).kind=126)=nb:=⟨_,rfl⟩
  rw [hnb] at C126
  have HNB:=aA hnb
  clear hL hnb
  cases hq:bZ T (T.length+1) true (iH T st') [] with
  | error p=>
   rw [hq] at CA
   have HR:Hid (R=.error p):=aA (by rw [HL.out.eq,aAv hq])
   clear hq
   go_wp2_with (first
    | (go_at_call 104;refine (CA.out _ HZ1.out.2.1.size HZ1.out.1).mono ?_;rintro e w2 ⟨hk2,a2,n2,c2,i2,vP2,vM2,rfl,hp2,hpos⟩;have HK2:=aA (HZ1.out.2.1.trans (hk2.mono HZ1.out.2.1.size));have HP2:=aA hp2;have HPO:=aA hpos;clear hk2 hp2 hpos)
    | (go_at_call 74;refine (aB C126).mono ?_;rintro e w1 ⟨rfl,hg1,hp1⟩;have HZ1:=aA (tN HL.out.q HL.out.kept HL.out.row HL.out.atoms hg1 hp1);clear hg1 hp1)
    | go_in)
   go_ret2
   refine ⟨HK2.out,?_⟩
   rw [HR.out]
   exact ⟨_,_,_,_,_,_,rfl,HP2.out,HPO.out⟩
  | ok y=>
   obtain ⟨s2,x⟩:=y
   have hon:=(sK T (T.length+1)).1 _ _ _ _ _ hq
   simp only [List.length_nil] at hon
   rw [q3,q4] at hon
   rw [hq] at CA
   have HQ:=aA hq
   clear hq
   have C124:=aA (fun w3 vP3 (hp:cL B w3 pb s T s2.i g vC vP3 (.map (some mg)))=>kB 124 (by decide) (by decide) (by decide) HT.out hs hp)
   rw [show cU 124=124 from rfl] at C124
   by_cases h124:(aD T s2.i).kind=124
   ·rw [if_pos h124,decide_eq_true h124] at C124
    have HR:Hid (∀vl,R=fG T k' ⟨s2.i+1,s2.vars,s2.places⟩ ((P++[((nb,x),vl)]).map Prod.fst)):=aA (fun vl=>by rw [HL.out.eq,aAw HQ.out h124,HNB.out,List.map_append,List.map_singleton])
    go_wp2_with (first
     | (go_at_call 74;refine (C124.out _ _ HZ3.out.1.pp).mono ?_;rintro e w4 ⟨rfl,hg4,hp4⟩;have HZ4:=aA (tN HZ3.out.1 HZ3.out.2.1 HZ3.out.2.2.1 HZ3.out.2.2.2 hg4 hp4);clear hg4 hp4)
     | (at_builtin;refine wpList_append_own _ rfl (.tmp 17) (.tmp 21) 24 rfl w.heap.size 74 iL (.agg #[.bool false,.slice none 0 0]) 2 32 Tryz.underlying24 hI hI0 hI1 hI2 rfl (by decide) _ _ _ rfl (HZ2.out.2.1.alloc _) ⟨_,0,none⟩ 1 1 [.bool nb,.slice la x.length lac] rfl rfl (iV w2 _ _ _ _ rfl) (qQ _ _ _ _) (by unfold maxLen;omega) (by omega) (by simp;omega) ?_;intro v3 w3 ho3 hg3 _;have HZ3:=aA (aD8 (x:=(nb,x)) HQ2.out HZ2.out.1 HZ2.out.2.1 HZ2.out.2.2.1 HZ2.out.2.2.2 ho3 hg3);obtain ⟨va3,vc3,rfl⟩:=aR ho3;clear ho3 hg3)
     | (go_at_call 104;refine (CA.out _ HZ1.out.2.1.size HZ1.out.1).mono ?_;rintro e w2 ⟨hk2,vl,vP2,rfl,hq2,hl2⟩;obtain ⟨la,lac,rfl⟩:=aR hl2;have HZ2:=aA (aD7 HZ1.out.1 HZ1.out.2.1 HZ1.out.2.2.1 HZ1.out.2.2.2 hk2 hl2);have HQ2:=aA hq2;have hz2:=HZ2.out.1.size;clear hk2 hq2 hl2)
     | (go_at_call 74;refine (aB C126).mono ?_;rintro e w1 ⟨rfl,hg1,hp1⟩;have HZ1:=aA (tN HL.out.q HL.out.kept HL.out.row HL.out.atoms hg1 hp1);clear hg1 hp1)
     | go_in)
    go_roundg k'
    case measure=>omega
    case rel=>exact ⟨⟨s2.i+1,s2.vars,s2.places⟩,P++[((nb,x),_)],_,HZ4.out.1,HZ4.out.2.1,HZ4.out.2.2.1,HZ4.out.2.2.2,HR.out _,by simp;omega,by simp;omega,by simp;omega,by simp;omega⟩
   ·rw [if_neg h124,decide_eq_false h124] at C124
    have HR:Hid (∀vl,R=.ok (s2,(P++[((nb,x),vl)]).map Prod.fst)):=aA (fun vl=>by rw [HL.out.eq,aAx HQ.out h124,HNB.out,List.map_append,List.map_singleton])
    go_wp2_with (first
     | (go_at_call 74;refine (C124.out _ _ HZ3.out.1.pp).mono ?_;rintro e w4 ⟨rfl,hg4,hp4⟩;have HZ4:=aA (tN HZ3.out.1 HZ3.out.2.1 HZ3.out.2.2.1 HZ3.out.2.2.2 hg4 hp4);clear hg4 hp4)
     | (at_builtin;refine wpList_append_own _ rfl (.tmp 17) (.tmp 21) 24 rfl w.heap.size 74 iL (.agg #[.bool false,.slice none 0 0]) 2 32 Tryz.underlying24 hI hI0 hI1 hI2 rfl (by decide) _ _ _ rfl (HZ2.out.2.1.alloc _) ⟨_,0,none⟩ 1 1 [.bool nb,.slice la x.length lac] rfl rfl (iV w2 _ _ _ _ rfl) (qQ _ _ _ _) (by unfold maxLen;omega) (by omega) (by simp;omega) ?_;intro v3 w3 ho3 hg3 _;have HZ3:=aA (aD8 (x:=(nb,x)) HQ2.out HZ2.out.1 HZ2.out.2.1 HZ2.out.2.2.1 HZ2.out.2.2.2 ho3 hg3);obtain ⟨va3,vc3,rfl⟩:=aR ho3;clear ho3 hg3)
     | (go_at_call 104;refine (CA.out _ HZ1.out.2.1.size HZ1.out.1).mono ?_;rintro e w2 ⟨hk2,vl,vP2,rfl,hq2,hl2⟩;obtain ⟨la,lac,rfl⟩:=aR hl2;have HZ2:=aA (aD7 HZ1.out.1 HZ1.out.2.1 HZ1.out.2.2.1 HZ1.out.2.2.2 hk2 hl2);have HQ2:=aA hq2;have hz2:=HZ2.out.1.size;clear hk2 hq2 hl2)
     | (go_at_call 74;refine (aB C126).mono ?_;rintro e w1 ⟨rfl,hg1,hp1⟩;have HZ1:=aA (tN HL.out.q HL.out.kept HL.out.row HL.out.atoms hg1 hp1);clear hg1 hp1)
     | go_in)
    go_ret2
    refine ⟨HZ4.out.2.1,?_⟩
    rw [HR.out]
    exact ⟨_,_,_,rfl,HZ4.out.1,HZ4.out.2.2.1,HZ4.out.2.2.2,rfl⟩
end
abbrev Pc:=(Nat×List (Lt×Value))×Value
def mY (CV:List Pc):List Value:=CV.flatMap fun p=>[.int .i64 p.1.1,p.2]
theorem aLh (CV:List Pc) (p:Pc):mY (CV++[p])=mY CV++[.int .i64 p.1.1,p.2]:=by simp [mY]
structure eO (B:Nat) (w:World) (vC:Value) (CV:List Pc):Prop where
 row:w.ownsRow B 100 2 vC CV.length (mY CV)
 each:∀p∈CV,nW w B (p.1.2,p.2)
def gJ (p:Pc):Nat×List Lt:=(p.1.1,p.1.2.map Prod.fst)
structure pO (B:Nat) (w:World) (pb:Nat) (s:ByteArray) (T:List Tk) (st:aV) (g:Nat) (vC vP:Value) (CV:List Pc):Prop where
 pp:∃vM,cL B w pb s T st.i g vC vP vM
 places:w.ownsRow B 3 1 vP st.places.length (lH st.places)
 cs:eO B w vC CV
theorem eO.keep {B:Nat} {w w':World} {vC:Value} {CV:List Pc} (h:eO B w vC CV) (k:∀e size v n xs,(e=100∨e=74∨e=106)→(e=100→v=vC)→w.ownsRow B e size v n xs→w'.ownsRow B e size v n xs):eO B w' vC CV:=
 ⟨k _ _ _ _ _ (Or.inl rfl) (fun _=>rfl) h.row,fun p hp=>⟨k _ _ _ _ _ (Or.inr (Or.inl rfl)) (fun e=>absurd e (by decide)) (h.each p hp).1,fun q hq=>k _ _ _ _ _ (Or.inr (Or.inr rfl)) (fun e=>absurd e (by decide)) ((h.each p hp).2 q hq)⟩⟩
theorem eO.below {B:Nat} {w w':World} {vC:Value} {CV:List Pc} (h:eO B w vC CV) (k:Below w.heap.size w w'):eO B w' vC CV:=
 h.keep fun _ _ _ _ _ _ _ ho=>aZ ho k (Nat.le_refl _)
theorem zB {e:TypeId} (h:e=100∨e=74∨e=106):e≠66∧e≠3:=by
 rcases h with rfl | rfl | rfl <;> decide
theorem eO.take {B:Nat} {w w':World} {vC:Value} {CV:List Pc} {pb:Nat} {left:Value} {k a:Int} {wd:ByteArray} {vC' vP vM:Value} (h:eO B w vC CV) (hb:bF w pb left k a wd vC' vP vM) (hg:w.grownBy w' (some pb)):eO B w' vC CV:=
 h.keep fun _ _ _ _ _ he _ ho=>ho.kept hg (hb.apart ho (zB he).1)
theorem eO.kept {B mg n:Nat} {w w':World} {vC:Value} {CV:List Pc} {D:DataW Unit} (h:eO B w vC CV) (hm:w.ownsMap Tryz.prog 9 kU mg n D) (hk:bH B w.heap.size mg w w'):eO B w' vC CV:=
 h.keep fun _ _ _ _ _ he _ ho=>hk.own ho ⟨(zB he).2,(zB he).1⟩ (fun _=>Nat.le_refl _) (pQ ho hm)
theorem vV {B:Nat} {w:World} {e t:TypeId} {size:Nat} {v:Value} {n:Nat} {xs:List Value} {lb:Nat} {cs:Array Value} {fr:Nat×Nat} (ho:w.ownsRow B e size v n xs) (ht:w.heap[lb]?=some (.cells cs t fr)) (he:e≠t):v.ownBlock≠some lb:=by
 intro e'
 obtain ⟨_,⟨rfl,_⟩ | ⟨g',cap,cur,rfl,_,hh,_⟩⟩:=ho
 ·simp [Value.ownBlock] at e'
 ·simp [Value.ownBlock] at e'
  subst e'
  rw [hh] at ht
  simp at ht
  exact he ht.2.1
theorem bJ.other {B:Nat} {w w':World} {pb:Nat} {s:ByteArray} {T:List Tk} {st:aV} {g mg:Nat} {vC vP:Value} {lb:Nat} {cs:Array Value} {fr:Nat×Nat} (h:bJ B w pb s T st g vC vP mg) (ht:w.heap[lb]?=some (.cells cs 100 fr)) (hg:w.grownBy w' (some lb)):bJ B w' pb s T st g vC vP mg:=by
 obtain ⟨D,h1,h2⟩:=h.map
 obtain ⟨left,hb,_⟩:=h.pp.box
 obtain ⟨cs',fr',hgl⟩:=h.pp.glyph
 refine ⟨h.pp.far hg ?_ ?_,h.places.kept hg (Or.inr (vV h.places ht (by decide))),⟨D,h1.kept hg ?_,h2⟩,h.mhigh⟩
 ·intro e
  simp at e
  subst e
  unfold bF at hb
  rw [ht] at hb
  simp at hb
 ·intro e
  simp at e
  subst e
  rw [ht] at hgl
  simp at hgl
 ·intro e
  simp at e
  subst e
  obtain ⟨es,cl,hh,_⟩:=h1
  rw [ht] at hh
  cases hh
theorem eO.other {B:Nat} {w w':World} {vC:Value} {CV:List Pc} {lb:Nat} {cs:Array Value} {fr:Nat×Nat} (h:eO B w vC CV) (ht:w.heap[lb]?=some (.cells cs 100 fr)) (hne:vC.ownBlock≠some lb) (hg:w.grownBy w' (some lb)):eO B w' vC CV:=
 h.keep fun e _ _ _ _ he hv ho=>ho.kept hg (Or.inr (by
  by_cases h5:e=100
  ·rw [hv h5];exact hne
  ·exact vV ho ht h5))
theorem bJ.setC {B:Nat} {w:World} {pb:Nat} {s:ByteArray} {T:List Tk} {st:aV} {g mg:Nat} {vC vP:Value} (h:bJ B w pb s T st g vC vP mg) (v:Value):bJ B (w.setCell ⟨pb,4,none⟩ v) pb s T st g v vP mg:=by
 obtain ⟨D,h1,h2⟩:=h.map
 obtain ⟨q,j,m,c,hP⟩:=h.pp
 have hb:=hP.sc.box
 exact ⟨⟨q,j,m,c,⟨heap_setCell_same w pb 4 _ _ _ hb,hP.sc.high,hb.row hP.sc.row (by decide) _ _,hP.sc.len,hP.sc.drop,hP.sc.le⟩,hP.lt,hP.on⟩,hb.row h.places (by decide) _ _,⟨D,h1.setCell (fun e=>vX hb h1 e.symm) _,h2⟩,h.mhigh⟩
theorem aLi {B:Nat} {w:World} {pb:Nat} {s:ByteArray} {T:List Tk} {st:aV} {g:Nat} {vC vP:Value} {CV:List Pc} (h:pO B w pb s T st g vC vP CV) (hBw:B≤w.heap.size) (cs:Array Value) {W:World} (hW:W=((w.alloc (.cells cs 100)).alloc (.map #[] 0)).setCell ⟨pb,6,none⟩ (.map (some (w.heap.size+1)))) :
  bJ B W pb s T ⟨st.i,[],st.places⟩ g vC vP (w.heap.size+1)∧eO B W vC CV∧Below B w W∧W.heap[w.heap.size]?=some (.cells cs 100):=by
 subst hW
 have hA:=((Below.refl w.heap.size w).alloc (Nat.le_refl _) (.cells cs 100)).alloc (by simp) (.map #[] 0)
 obtain ⟨vM,hp⟩:=h.pp
 obtain ⟨left0,hb0,hBp⟩:=hp.box
 have hlt:=hb0.lt
 have hp1:=hp.below hA
 obtain ⟨q,j,m,c,hP⟩:=hp1
 have hb:=hP.sc.box
 have hpl:=aZ h.places hA (Nat.le_refl _)
 have hcs:=h.cs.below hA
 have hm:((w.alloc (.cells cs 100)).alloc (.map #[] 0)).ownsMap Tryz.prog 9 kU (w.heap.size+1) 0 (.map []):=by
  have:=World.ownsMap_made (P:=Tryz.prog) (w.alloc (.cells cs 100)) 9 kU
  simpa using this
 refine ⟨⟨⟨q,j,m,c,⟨heap_setCell_same _ pb 6 _ _ _ hb,hP.sc.high,hb.row hP.sc.row (by decide) _ _,hP.sc.len,hP.sc.drop,hP.sc.le⟩,hP.lt,hP.on⟩,hb.row hpl (by decide) _ _,⟨.map [],hm.setCell (fun e=>by simp at e;omega) _,mZ.start⟩,by omega⟩,hcs.take hb (cB _ _ _),?_,?_⟩
 ·refine ⟨hA.os,hA.tape,hA.output,by simp [World.setCell];omega,fun k hk=>?_⟩
  rw [Below.heap_setCell _ _ _ _ (show k≠pb by omega)]
  exact hA.block k (by omega)
 ·rw [Below.heap_setCell _ _ _ _ (show w.heap.size≠pb by omega)]
  show ((w.heap.push _).push _)[w.heap.size]?=_
  rw [Array.getElem?_push_lt (by simp)]
  simp
theorem aD9 {B:Nat} {w w2 w3:World} {pb:Nat} {s:ByteArray} {T:List Tk} {st:aV} {g mg:Nat} {vC vP v3 vl:Value} {CV:List Pc} {X:Obj} {a:Nat} {P:List (Lt×Value)} (hq:bJ B w2 pb s T st g vC vP mg) (hc:eO B w2 vC CV) (hb:Below B w w2) (hBw:B≤w.heap.size) (hr:nW w2 B (P,vl)) (ho:w3.ownsRow B 100 2 v3 (CV.length+1) (mY CV++[.int .i64 a,vl])) (hg:(w2.alloc X).grownBy w3 vC.ownBlock) :
  w3.cell? ⟨pb,4,none⟩=some vC∧w3.frozen? ⟨pb,4,none⟩=false∧bJ B (w3.setCell ⟨pb,4,none⟩ v3) pb s T st g v3 vP mg∧eO B (w3.setCell ⟨pb,4,none⟩ v3) v3 (CV++[((a,P),vl)])∧Below B w (w3.setCell ⟨pb,4,none⟩ v3):=by
 have hA:=(Below.refl w2.heap.size w2).alloc (Nat.le_refl _) X
 have hcA:=hc.below hA
 have hqA:=hq.below hA
 have hq3:=hqA.far hcA.row (by decide) hg
 obtain ⟨left,hb3,hBp⟩:=hq3.pp.box
 have hz:=hb.size
 have e3:∀p∈CV++[((a,P),vl)],nW w3 B (p.1.2,p.2):=by
  intro p hp
  have key:nW (w2.alloc X) B (p.1.2,p.2):=by
   rcases List.mem_append.1 hp with hp | hp
   ·exact hcA.each p hp
   ·simp at hp
    subst hp
    exact ⟨aZ hr.1 hA (Nat.le_refl _),fun q hq=>aZ (hr.2 q hq) hA (Nat.le_refl _)⟩
  exact ⟨key.1.kept hg (eV key.1 hcA.row (by decide)),fun q hq=>(key.2 q hq).kept hg (eV (key.2 q hq) hcA.row (by decide))⟩
 refine ⟨hb3.c4,hb3.soft 4,hq3.setC v3,⟨?_,fun p hp=>⟨hb3.row (e3 p hp).1 (by decide) _ _,fun q hq=>hb3.row ((e3 p hp).2 q hq) (by decide) _ _⟩⟩,?_⟩
 ·refine hb3.row ?_ (by decide) _ _
  rw [aLh,List.length_append]
  exact ho
 ·have s3:=hg.size
  simp at s3
  refine ⟨hg.os.trans (hA.os.trans hb.os),hg.tape.trans (hA.tape.trans hb.tape),hg.output.trans (hA.output.trans hb.output),by simp [World.setCell];omega,fun k hk=>?_⟩
  rw [Below.heap_setCell _ _ _ _ (show k≠pb by omega),hg.block k (by simp;omega) (fun e=>by have:=(bY hcA.row k e.symm).1;omega),hA.block k (by omega),hb.block k hk]
def aDa (B pb:Nat) (w:World) (s:ByteArray) (T:List Tk) (g:Nat) (CV:List Pc) (a:Nat) (r:Except Nat (aV×List Lt)) (e:Ending) (w':World):Prop:=
 Below B w w'∧
  match r with
  | .ok (s1,c)=>∃vC vP P vl,e=.returned (.bool true)∧pO B w' pb s T s1 g vC vP (CV++[((a,P),vl)])∧P.map Prod.fst=c
  | .error p=>∃i vC vP vM,e=.returned (.bool false)∧cL B w' pb s T i g vC vP vM∧(aD T i).pos=p
section
variable {B pb:Nat} {s:ByteArray} {T:List Tk} {g:Nat} {vC vP:Value} {st:aV} {w:World} {CV:List Pc}
theorem aDb (b:Int) (a:Option Addr) (n c:Nat):∀u∈[Value.int .i64 b,Value.slice a n c],u.oneCell'=true:=by
 intro u hu
 simp at hu
 rcases hu with rfl | rfl <;> rfl
theorem aDc:(Tryz.prog.info? 100).map (fun i=>(i.zero,i.size,i.bytes))=some (some (.agg #[.int .i64 0,.slice none 0 0]),2,32):=by kernel_rfl
theorem aDd {w5 w6:World} {s2:aV} {b46:Bool} {v5 vP2 vl:Value} {mg tp:Nat} {P:List (Lt×Value)} {e:Ending} (hBw:B≤w.heap.size) (hpg:kG T st=.ok (s2,P.map Prod.fst)) (hb46:decide ((aD T s2.i).kind=46)=b46) (hq:bJ B w5 pb s T s2 g v5 vP2 mg) (hc:eO B w5 v5 (CV++[((tp,P),vl)])) (hb:Below B w w5) (hg:w5.grownBy w6 (some pb)) (hp:cL B w6 pb s T (if (aD T s2.i).kind=46 then s2.i+1 else s2.i) g v5 vP2 (.map (some mg))) (he:e=.returned (.bool b46)) :
  aDa B pb w s T g CV tp (kH T st) e w6:=by
 obtain ⟨left,hbx,hBp⟩:=hq.pp.box
 have hz:=hb.size
 refine ⟨hb.grown hg (by omega) (by simpa using hBp),?_⟩
 unfold kH
 rw [hpg]
 simp only
 by_cases h46:(aD T s2.i).kind=46
 ·rw [if_pos h46] at hp ⊢
  rw [decide_eq_true h46] at hb46
  subst hb46
  exact ⟨v5,vP2,P,vl,he,⟨⟨_,hp⟩,hq.places.kept hg (hbx.apart hq.places (by decide)),hc.take hbx hg⟩,rfl⟩
 ·rw [if_neg h46] at hp ⊢
  rw [decide_eq_false h46] at hb46
  subst hb46
  exact ⟨_,_,_,_,he,hp,rfl⟩
structure pP (B pb:Nat) (w w1:World) (s:ByteArray) (T:List Tk) (st:aV) (g:Nat) (vC vP:Value) (mg:Nat) (CV:List Pc) (lb tp:Nat) (v:Value):Prop where
 q:bJ B w1 pb s T st g vC vP mg
 cs:eO B w1 vC CV
 low:Below B w w1
 box:w1.heap[lb]?=some (.cells #[.int .i64 tp,v] 100)
 size:B≤w1.heap.size
theorem aLj {W w1:World} {mg lb tp:Nat} {v:Value} {s1:aV} (hq:bJ B W pb s T s1 g vC vP mg) (hc:eO B W vC CV) (hb:Below B w W) (hBw:B≤w.heap.size) (hx:W.heap[lb]?=some (.cells #[.int .i64 tp,v] 100)) {i':Nat} (hg:W.grownBy w1 (some pb)) (hp:cL B w1 pb s T i' g vC vP (.map (some mg))):pP B pb w w1 s T ⟨i',s1.vars,s1.places⟩ g vC vP mg CV lb tp v:=by
 obtain ⟨left,hbx,hBp⟩:=hq.pp.box
 have hz:=hb.size
 have hz1:=hg.size
 refine ⟨hq.take hg hp,hc.take hbx hg,hb.grown hg (by omega) (by simpa using hBp),?_,by omega⟩
 rw [hg.block lb (Array.getElem?_eq_some_iff.1 hx).1 ?_]
 ·exact hx
 ·intro e
  simp at e
  subst e
  unfold bF at hbx
  rw [hx] at hbx
  simp at hbx
theorem pP.boxKept {w1 w3:World} {mg lb tp:Nat} {v:Value} {s1:aV} (h:pP B pb w w1 s T s1 g vC vP mg CV lb tp v) (hk:bH B w1.heap.size mg w1 w3):w3.heap[lb]?=some (.cells #[.int .i64 tp,v] 100):=by
 rw [hk.block lb (Array.getElem?_eq_some_iff.1 h.box).1 (Or.inr ⟨?_,fun cs t fr hx=>?_⟩)]
 ·exact h.box
 ·rintro rfl
  obtain ⟨D,⟨es,cl,hh,_⟩,_⟩:=h.q.map
  have:=h.box
  rw [hh] at this
  cases this
 ·rw [h.box] at hx
  simp at hx
  obtain ⟨_,rfl,_⟩:=hx
  exact ⟨by decide,by decide,fun e=>absurd e (by decide)⟩
theorem pP.err {w1 w3:World} {mg lb tp:Nat} {v:Value} {s1:aV} (h:pP B pb w w1 s T s1 g vC vP mg CV lb tp v) (hBw:B≤w.heap.size) (hlb:B≤lb) (hk:bH B w1.heap.size mg w1 w3) {i:Nat} {vP3 vM3:Value} (hp:cL B w3 pb s T i g vC vP3 vM3) (u:Value) :
  w3.cell? ⟨lb,1,none⟩=some v∧w3.frozen? ⟨lb,1,none⟩=false∧Below B w (w3.setCell ⟨lb,1,none⟩ u)∧cL B (w3.setCell ⟨lb,1,none⟩ u) pb s T i g vC vP3 vM3:=by
 have hx:=h.boxKept hk
 obtain ⟨left,hbx,hBp⟩:=hp.box
 obtain ⟨cs,fr,hgl⟩:=hp.glyph
 have hlow:=h.low.trans (hk.below h.size)
 have hz:=hlow.size
 refine ⟨by unfold World.cell?;rw [hx];rfl,by unfold World.frozen?;rw [hx];rfl,hlow.grown (cB _ _ _) (by omega) (by simpa using hlb),hp.far (cB _ _ _) ?_ ?_⟩
 ·intro e
  simp at e
  subst e
  unfold bF at hbx
  rw [hx] at hbx
  simp at hbx
 ·intro e
  simp at e
  subst e
  rw [hx] at hgl
  simp at hgl
theorem pP.ok {w1 w3:World} {mg lb tp:Nat} {v:Value} {s1 s2:aV} (h:pP B pb w w1 s T s1 g vC vP mg CV lb tp v) (hBw:B≤w.heap.size) (hlb:B≤lb) (hne:vC.ownBlock≠some lb) (hk:bH B w1.heap.size mg w1 w3) {vP3 vc:Value} {P:List (Lt×Value)} (hq:bJ B w3 pb s T s2 g vC vP3 mg) (hr:w3.ownsRow w1.heap.size 74 2 vc P.length (aT P)) (ha:∀q∈P,w3.ownsRow w1.heap.size 106 2 q.2 q.1.2.length (aP q.1.2)) :
  w3.cell? ⟨lb,1,none⟩=some v∧w3.frozen? ⟨lb,1,none⟩=false∧pP B pb w (w3.setCell ⟨lb,1,none⟩ vc) s T s2 g vC vP3 mg CV lb tp vc∧nW (w3.setCell ⟨lb,1,none⟩ vc) B (P,vc):=by
 have hx:=h.boxKept hk
 obtain ⟨D,hm,_⟩:=h.q.map
 have hlow:=h.low.trans (hk.below h.size)
 have hz:=hlow.size
 have hg:=cB w3 ⟨lb,1,none⟩ vc
 have hs1:=h.size
 refine ⟨by unfold World.cell?;rw [hx];rfl,by unfold World.frozen?;rw [hx];rfl,⟨hq.other hx hg,(h.cs.kept hm hk).other hx hne hg,hlow.grown hg (by omega) (by simpa using hlb),heap_setCell_same w3 lb 1 _ _ _ hx,by have:=hg.size;omega⟩,(fS hr hs1).kept hg (Or.inr (vV hr hx (by decide))),fun q hq'=>(fS (ha q hq') hs1).kept hg (Or.inr (vV (ha q hq') hx (by decide)))⟩
set_option maxHeartbeats 4000000 in
theorem aLk (hT:∀i,(aD T i).kind∈fK) (hx:∀i,(aD T i).txt.size≤1000000) (hs:s.size≤3000) (hTl:T.length≤1000000) (h:pO B w pb s T st g vC vP CV) (hBw:B≤w.heap.size) (hp1:st.places.length≤st.i) (hc1:CV.length≤st.i) :
  Calls Tryz.prog 44 #[.pointer (some ⟨pb,0,none⟩)] w fun e w'=>aDa B pb w s T g CV (aD T st.i).pos (kH T st) e w':=by
 have hmm:=@run_makeMap Tryz.prog
 obtain ⟨vM,hpp⟩:=h.pp
 have hlt:=hpp.lt
 obtain ⟨left,hb,_⟩:=hpp.box
 have d2:=hb.c2
 have d2A:∀o,(w.alloc o).cell? ⟨pb,2,none⟩=some (.int .i64 (aD T st.i).pos):=fun o=>Below.at' ((Below.refl w.heap.size w).alloc (Nat.le_refl _) o) (Nat.le_refl _) d2
 have d6:=hb.c6
 have f6:=hb.soft 6
 have hpl:=hb.lt
 obtain ⟨va,vac,rfl⟩:=aR h.cs.row
 have HH:=aA h
 have HT:=aA hT
 have HX:=aA hx
 clear h hb hpp hT hx
 obtain ⟨tp,htp⟩ : ∃tp,(aD T st.i).pos=tp:=⟨_,rfl⟩
 rw [htp] at d2
 simp only [htp] at d2A ⊢
 have HTP:=aA htp
 clear htp
 go_enter Tryz.func44,Tryz.ntmps44
 go_upto_region 3 with (fail)
 have hW:((w.setCell ⟨pb,6,none⟩ (.map (some (w.heap.size+1)))).alloc (.cells #[.int .i64 tp,.slice none 0 0] 100)).alloc (.map #[] 0)=((w.alloc (.cells #[.int .i64 tp,.slice none 0 0] 100)).alloc (.map #[] 0)).setCell ⟨pb,6,none⟩ (.map (some (w.heap.size+1))):=by
  rw [World.setCell_alloc_past _ _ _ _ (by simp;omega),World.setCell_alloc_past _ _ _ _ hpl]
 have hst:=aLi HH.out hBw #[.int .i64 tp,.slice none 0 0] hW
 have hwz:w.heap.size < (((w.setCell ⟨pb,6,none⟩ (.map (some (w.heap.size+1)))).alloc (.cells #[.int .i64 tp,.slice none 0 0] 100)).alloc (.map #[] 0)).heap.size:=by simp [World.setCell];omega
 generalize ((w.setCell ⟨pb,6,none⟩ (.map (some (w.heap.size+1)))).alloc (.cells #[.int .i64 tp,.slice none 0 0] 100)).alloc (.map #[] 0)=W at *
 have hne:=pW HH.out.cs.row
 generalize w.heap.size+1=mg at *
 have hBw':=hBw
 obtain ⟨lb,hlb⟩ : ∃lb,w.heap.size=lb:=⟨_,rfl⟩
 rw [hlb] at hwz hne hst hBw hpl
 simp only [hlb]
 obtain ⟨hQ,hC,hB,hX⟩:=hst
 clear hW d2 d2A d6 f6
 have HQ:=aA hQ
 have HC:=aA hC
 have HB:=aA hB
 have HXB:=aA hX
 clear hQ hC hB hX
 have C36:=aA (kB 102 (by decide) (by decide) (by decide) HT.out hs HQ.out.pp)
 rw [show cU 102=36 from rfl] at C36
 by_cases h102:(aD T st.i).kind=102
 ·rw [if_pos h102,decide_eq_true h102] at C36
  go_upto_region 8 with (first
   | (go_at_call 74;refine (aB C36).mono ?_;rintro e w2 ⟨rfl,hg1,hp1⟩;have HG1:=aA hg1;have HP1:=aA hp1;clear hg1 hp1)
   | go_in)
  have hq1:=HQ.out.take HG1.out HP1.out
  obtain ⟨leftW,hbW,hBpW⟩:=HQ.out.pp.box
  have hc1':=HC.out.take hbW HG1.out
  have hb1:Below B w w2:=HB.out.grown HG1.out (by have:=HB.out.size;omega) (by simpa using hBpW)
  have hx1:w2.heap[lb]?=some (.cells #[.int .i64 tp,.slice none 0 0] 100):=by rw [HG1.out.block lb hwz (by simp;omega)];exact HXB.out
  have HQ2:=aA hq1
  have HC2:=aA hc1'
  have HB2:=aA hb1
  have HX2:=aA hx1
  have HPG:Hid (kG T st=.ok (⟨st.i+1,[],st.places⟩,[])):=aA (by rw [kG,if_pos h102])
  clear hq1 hbW hc1' hb1 hx1 HQ HC HB HXB HG1 HP1 C36
  obtain ⟨left2,hb2,hBp⟩:=HQ2.out.pp.box
  have p4:=hb2.c4
  have t0:w2.cell? ⟨lb,0,none⟩=some (.int .i64 tp):=by unfold World.cell?;rw [HX2.out];rfl
  have t1:w2.cell? ⟨lb,1,none⟩=some (.slice none 0 0):=by unfold World.cell?;rw [HX2.out];rfl
  have p4A:∀o,(w2.alloc o).cell? ⟨pb,4,none⟩=some (.slice va CV.length vac):=fun o=>Below.at' ((Below.refl w2.heap.size w2).alloc (Nat.le_refl _) o) (Nat.le_refl _) p4
  have hz2:=HB2.out.size
  clear hb2
  go_cut [] (fun wx=>∃v5,bJ B wx pb s T ⟨st.i+1,[],st.places⟩ g v5 vP mg∧eO B wx v5 (CV++[((tp,[]),.slice none 0 0)])∧Below B w wx)
  case first=>
   refine rF ?_
   have hq2d:=aA (HQ2.out.below (aJ (w1:=w2.drew) ⟨1,rfl⟩))
   have hc2d:=aA (HC2.out.below (aJ (w1:=w2.drew) ⟨1,rfl⟩))
   have hb2d:Hid (Below B w w2.drew):=aA ⟨HB2.out.os,HB2.out.tape,HB2.out.output,HB2.out.size,HB2.out.block⟩
   have hr2d:Hid (nW w2.drew B ([],.slice none 0 0)):=aA ⟨World.ownsRow_nil _ _ _ _,fun q hq=>by simp at hq⟩
   go_region_law (refine mI ?g1 (.tmp 30) (.tmp 32) 63 100 ?g2 (.agg #[.int .i64 0,.slice none 0 0]) 2 32 Tryz.underlying63 aDc ?g3 ?g4 ?g5 B _ CV.length (mY CV) ?g6 (hc2d.out.row.alloc _) ?g7 ?g8 w2.heap.size 1 [.int .i64 tp,.slice none 0 0] ?g9 ?g10 (iV w2.drew _ _ 100 w2.heap.size rfl) (aDb _ _ _ _) ?_;(case g1=>rfl);(case g2=>rfl);(case g3=>rfl);(case g4=>decide);(case g5=>decide);(case g6=>rfl);(case g7=>omega);(case g8=>(simp;omega));(case g9=>rfl);(case g10=>rfl);intro v3 w3 ho3 hg3;obtain ⟨c4,f4,hp3⟩:=aD9 hq2d.out hc2d.out hb2d.out hBw' hr2d.out ho3 hg3;have HP3:=aA hp3;obtain ⟨va3,vc3,rfl⟩:=aR ho3;clear ho3 hg3 hp3)
   all_goals
    refine oU ?_
    go_wp2_with fail
    go_meet
    case rel=>exact ⟨_,HP3.out⟩
  case rest=>
   obtain ⟨v5,hQ5,hC5,hB5⟩:=hcut
   have C46:=aA (kB 46 (by decide) (by decide) (by decide) HT.out hs hQ5.pp)
   rw [show cU 46=46 from rfl] at C46
   have HQ5:=aA hQ5
   have HC5:=aA hC5
   have HB5:=aA hB5
   clear hQ5 hC5 hB5 HQ2 HC2 HB2 HX2 p4 p4A t0 t1
   obtain ⟨b46,hb46⟩ : ∃b,decide ((aD T (⟨st.i+1,[],st.places⟩ : aV).i).kind=46)=b:=⟨_,rfl⟩
   rw [hb46] at C46
   go_wp2_with (first
    | (go_at_call 74;refine (aB C46).mono ?_;rintro e w6 ⟨rfl,hg6,hp6⟩;have HG6:=aA hg6;have HP6:=aA hp6;clear hg6 hp6)
    | go_in)
   go_ret
   exact aDd hBw' HPG.out hb46 HQ5.out HC5.out HB5.out HG6.out HP6.out rfl
 ·rw [if_neg h102,decide_eq_false h102] at C36
  have HPB:Hid (kG T st=fG T (T.length+1) ⟨st.i,[],st.places⟩ []):=aA (by rw [kG,if_neg h102])
  have CL:=aA (fun w1 (hq1:bJ B w1 pb s T ⟨st.i,[],st.places⟩ g (.slice va CV.length vac) vP mg) (hB1:B≤w1.heap.size)=>aLg HT.out HX.out hs hTl hq1 hB1 hp1 (Nat.zero_le _))
  have HZ0:=aA (fun w1 (hg1:W.grownBy w1 (some pb)) (hp1:cL B w1 pb s T st.i g (.slice va CV.length vac) vP (.map (some mg)))=>aLj HQ.out HC.out HB.out hBw' HXB.out hg1 hp1)
  cases hq:fG T (T.length+1) ⟨st.i,[],st.places⟩ [] with
  | error p=>
   rw [hq] at CL
   have HPG:Hid (kH T st=.error p):=aA (by rw [kH,HPB.out,hq])
   clear hq HPB HQ HC HB HXB
   go_wp2_with (first
    | (go_at_call 74;refine (aB C36).mono ?_;rintro e w1 ⟨rfl,hg1,hp1⟩;have HZ1:=aA (HZ0.out w1 hg1 hp1);clear hg1 hp1)
    | (go_at_call 75;refine (CL.out _ HZ1.out.q HZ1.out.size).mono ?_;rintro e w3 ⟨hk3,a3,n3,c3,i3,vP3,vM3,rfl,hp3,hpos⟩;obtain ⟨t1,f1,hz3⟩:=HZ1.out.err hBw' hBw hk3 hp3 (.slice a3 n3 c3);have HZ3:=aA hz3;have HPO:=aA hpos;clear hk3 hp3 hpos hz3)
    | go_in)
   go_ret
   refine ⟨HZ3.out.1,?_⟩
   rw [HPG.out]
   exact ⟨_,_,_,_,rfl,HZ3.out.2,HPO.out⟩
  | ok y=>
   obtain ⟨s2,c⟩:=y
   rw [hq] at CL
   have HPG0:Hid (kG T st=.ok (s2,c)):=aA (by rw [HPB.out,hq])
   clear hq HPB HQ HC HB HXB
   go_upto_region 8 with (first
    | (go_at_call 74;refine (aB C36).mono ?_;rintro e w1 ⟨rfl,hg1,hp1⟩;have HZ1:=aA (HZ0.out w1 hg1 hp1);clear hg1 hp1)
    | (go_at_call 75;refine (CL.out _ HZ1.out.q HZ1.out.size).mono ?_;rintro e w3 ⟨hk3,P,vcl,vP2,rfl,hq3,hr3,ha3,hPc⟩;obtain ⟨la,lac,rfl⟩:=aR hr3;obtain ⟨t1,f1,hz3,hcl3⟩:=HZ1.out.ok hBw' hBw hne hk3 hq3 hr3 ha3;have HZ3:=aA hz3;have HCL:=aA hcl3;have HPC:=aA hPc;clear hk3 hq3 hr3 ha3 hz3 hPc hcl3)
    | go_in)
   have HPG:Hid (kG T st=.ok (s2,P.map Prod.fst)):=aA (by rw [HPG0.out,HPC.out])
   clear HZ0 CL C36 HZ1 HPG0 HPC t1 f1
   generalize w3.setCell ⟨lb,1,none⟩ (.slice la P.length lac)=w2 at *
   have HQ2:=aA HZ3.out.q
   have HC2:=aA HZ3.out.cs
   have HB2:=aA HZ3.out.low
   have HX2:=aA HZ3.out.box
   have HR2:=aA HCL.out
   clear HZ3 HCL
   obtain ⟨left2,hb2,hBp⟩:=HQ2.out.pp.box
   have p4:=hb2.c4
   have t0:w2.cell? ⟨lb,0,none⟩=some (.int .i64 tp):=by unfold World.cell?;rw [HX2.out];rfl
   have t1:w2.cell? ⟨lb,1,none⟩=some (.slice la P.length lac):=by unfold World.cell?;rw [HX2.out];rfl
   have p4A:∀o,(w2.alloc o).cell? ⟨pb,4,none⟩=some (.slice va CV.length vac):=fun o=>Below.at' ((Below.refl w2.heap.size w2).alloc (Nat.le_refl _) o) (Nat.le_refl _) p4
   have hz2:=HB2.out.size
   clear hb2
   go_cut [] (fun wx=>∃v5,bJ B wx pb s T s2 g v5 vP2 mg∧eO B wx v5 (CV++[((tp,P),.slice la P.length lac)])∧Below B w wx)
   case first=>
    refine rF ?_
    have hq2d:=aA (HQ2.out.below (aJ (w1:=w2.drew) ⟨1,rfl⟩))
    have hc2d:=aA (HC2.out.below (aJ (w1:=w2.drew) ⟨1,rfl⟩))
    have hb2d:Hid (Below B w w2.drew):=aA ⟨HB2.out.os,HB2.out.tape,HB2.out.output,HB2.out.size,HB2.out.block⟩
    have hr2d:Hid (nW w2.drew B (P,.slice la P.length lac)):=aA HR2.out
    go_region_law (refine mI ?g1 (.tmp 30) (.tmp 32) 63 100 ?g2 (.agg #[.int .i64 0,.slice none 0 0]) 2 32 Tryz.underlying63 aDc ?g3 ?g4 ?g5 B _ CV.length (mY CV) ?g6 (hc2d.out.row.alloc _) ?g7 ?g8 w2.heap.size 1 [.int .i64 tp,.slice la P.length lac] ?g9 ?g10 (iV w2.drew _ _ 100 w2.heap.size rfl) (aDb _ _ _ _) ?_;(case g1=>rfl);(case g2=>rfl);(case g3=>rfl);(case g4=>decide);(case g5=>decide);(case g6=>rfl);(case g7=>omega);(case g8=>(simp;omega));(case g9=>rfl);(case g10=>rfl);intro v3 w3 ho3 hg3;obtain ⟨c4,f4,hp3⟩:=aD9 hq2d.out hc2d.out hb2d.out hBw' hr2d.out ho3 hg3;have HP3:=aA hp3;obtain ⟨va3,vc3,rfl⟩:=aR ho3;clear ho3 hg3 hp3)
    all_goals
     refine oU ?_
     go_wp2_with fail
     go_meet
     case rel=>exact ⟨_,HP3.out⟩
   case rest=>
    obtain ⟨v5,hQ5,hC5,hB5⟩:=hcut
    have C46:=aA (kB 46 (by decide) (by decide) (by decide) HT.out hs hQ5.pp)
    rw [show cU 46=46 from rfl] at C46
    have HQ5:=aA hQ5
    have HC5:=aA hC5
    have HB5:=aA hB5
    clear hQ5 hC5 hB5 HQ2 HC2 HB2 HX2 p4 p4A t0 t1
    obtain ⟨b46,hb46⟩ : ∃b,decide ((aD T (s2:aV).i).kind=46)=b:=⟨_,rfl⟩
    rw [hb46] at C46
    go_wp2_with (first
     | (go_at_call 74;refine (aB C46).mono ?_;rintro e w6 ⟨rfl,hg6,hp6⟩;have HG6:=aA hg6;have HP6:=aA hp6;clear hg6 hp6)
     | go_in)
    go_ret
    exact aDd hBw' HPG.out hb46 HQ5.out HC5.out HB5.out HG6.out HP6.out rfl
end
def aLl (B pb:Nat) (w:World) (s:ByteArray) (T:List Tk) (g:Nat) (r:Except Nat (aV×List (Nat×List Lt))) (e:Ending) (w':World):Prop:=
 Below B w w'∧
  match r with
  | .ok (s1,cs)=>∃vC vP CV,e=.returned (.bool true)∧pO B w' pb s T s1 g vC vP CV∧CV.map gJ=cs
  | .error p=>∃i vC vP vM,e=.returned (.bool false)∧cL B w' pb s T i g vC vP vM∧(aD T i).pos=p
structure TLq (B pb:Nat) (w:World) (s:ByteArray) (T:List Tk) (g:Nat) (r:Except Nat (aV×List (Nat×List Lt))) (k:Nat) (wr:World) (st:aV) (vC vP:Value) (CV:List Pc):Prop where
 t:pO B wr pb s T st g vC vP CV
 low:Below B w wr
 eq:r=gM T k st (CV.map gJ)
 fuel:T.length < st.i+k
 pl:st.places.length≤st.i
 few:CV.length≤st.i
set_option maxHeartbeats 4000000 in
theorem aLm {B pb:Nat} {w:World} {s:ByteArray} {T:List Tk} {g:Nat} {vC vP:Value} {CV:List Pc} {st:aV} (hT:∀i,(aD T i).kind∈fK) (hx:∀i,(aD T i).txt.size≤1000000) (hs:s.size≤3000) (hTl:T.length≤1000000) (hC:∀st st' c,kH T st=.ok (st',c)→st.i < T.length→st.i < st'.i∧st'.places.length≤st.places.length+(st'.i - st.i)) (h:pO B w pb s T st g vC vP CV) (hBw:B≤w.heap.size) (hp1:st.places.length≤st.i) (hc1:CV.length≤st.i) :
  Calls Tryz.prog 25 #[.pointer (some ⟨pb,0,none⟩)] w fun e w'=>aLl B pb w s T g (gM T (T.length+1) st (CV.map gJ)) e w':=by
 have H0:Hid (TLq B pb w s T g (gM T (T.length+1) st (CV.map gJ)) (T.length+1) w st vC vP CV):=aA ⟨h,Below.refl _ _,rfl,by omega,hp1,hc1⟩
 obtain ⟨R,hR⟩ : ∃R,gM T (T.length+1) st (CV.map gJ)=R:=⟨_,rfl⟩
 rw [hR] at H0
 simp only [hR]
 have HT:=aA hT
 have HX:=aA hx
 have HC:=aA hC
 clear h hR hT hx hp1 hc1 hC
 go_enter Tryz.func25,Tryz.ntmps25
 go_wp2
 go_loopg [] (T.length+1) (fun k wr=>∃st' vC' vP' CV',TLq B pb w s T g R k wr st' vC' vP' CV')
 case atStart=>exact ⟨st,vC,vP,CV,H0.out⟩
 case round=>
  clear H0
  obtain ⟨st',vC',vP',CV',hL⟩:=hrel
  obtain ⟨vM,hpp⟩:=hL.t.pp
  have hlt:=hpp.lt
  obtain ⟨left,hb,hBp⟩:=hpp.box
  have hfu:=hL.fuel
  have hpl:=hL.pl
  have hfew:=hL.few
  have hz:=hL.low.size
  have d1:=hb.c1
  obtain ⟨k',rfl⟩ : ∃k',gk=k'+1:=⟨gk - 1,by omega⟩
  by_cases h101:(aD T st'.i).kind=101
  ·rw [h101,show cU 101=-1 from rfl] at d1
   have HR:Hid (R=.ok (st',CV'.map gJ)):=aA (by rw [hL.eq,gM,if_pos h101])
   have HL:=aA hL
   clear hL hb hpp
   go_wp2_with fail
   go_ret
   refine ⟨HL.out.low,?_⟩
   rw [HR.out]
   exact ⟨_,_,_,rfl,HL.out.t,rfl⟩
  ·have hne:(cU (aD T st'.i).kind != -1)=true:=by
    simp only [bne_iff_ne]
    intro e
    exact h101 (zA _ (HT.out st'.i) 101 (by decide) (by rw [e];rfl))
   have CC:=aA (aLk HT.out HX.out hs hTl hL.t (Nat.le_trans hBw hz) hpl hfew)
   have HEQ:=aA hL.eq
   have HL:=aA hL
   clear hL hb hpp
   obtain ⟨kk,hkk⟩ : ∃kk,cU (aD T st'.i).kind=kk:=⟨_,rfl⟩
   rw [hkk] at d1 hne
   clear hkk
   cases hq:kH T st' with
   | error p=>
    rw [hq] at CC
    have HR:Hid (R=.error p):=aA (by rw [HEQ.out,gM,if_neg h101,hq])
    clear hq HEQ
    go_wp2_with (first
     | (go_at_call 44;refine (aB CC).mono ?_;rintro e w1 ⟨hb1,i1,vC1,vP1,vM1,rfl,hp1,hpos⟩;have HB1:=aA hb1;have HP1:=aA hp1;have HPO:=aA hpos;clear hb1 hp1 hpos)
     | go_in)
    go_ret
    refine ⟨HL.out.low.trans HB1.out,?_⟩
    rw [HR.out]
    exact ⟨_,_,_,_,rfl,HP1.out,HPO.out⟩
   | ok y=>
    obtain ⟨s2,c⟩:=y
    have hon:=HC.out _ _ _ hq hlt
    rw [hq] at CC
    have HR:Hid (R=gM T k' s2 (CV'.map gJ++[((aD T st'.i).pos,c)])):=aA (by rw [HEQ.out,gM,if_neg h101,hq])
    clear hq HEQ
    go_wp2_with (first
     | (go_at_call 44;refine (aB CC).mono ?_;rintro e w1 ⟨hb1,vC1,vP1,P,vl,rfl,ht1,hPc⟩;have HB1:=aA hb1;have HT1:=aA ht1;have HPC:=aA hPc;clear hb1 ht1 hPc)
     | go_in)
    go_roundg k'
    case measure=>omega
    case rel=>exact ⟨s2,vC1,vP1,_,HT1.out,HL.out.low.trans HB1.out,by rw [HR.out,List.map_append,List.map_singleton,gJ,HPC.out],by omega,by omega,by simp;omega⟩
theorem aLn {w:World} {ops:Array Oper} {rest:List Oper} {o:Oper} {a:Act} {Q:Exit→Act→World→Prop} (hgd:o.guard=none) (s x:Operand) (t:TypeId)
  (ho:o.op=.call {callee:=.builtin .append,args:=#[s,x],argTypes:=#[t,t]})
  (base:Nat) (e:TypeId) (i:TypeInfo) (z:Value) (size bytes:Nat) (ht:Tryz.prog.underlying t=some (.slice e)) (hi:Tryz.prog.info? e=some i) (hz:i.zero=some z) (hsize:i.size=size) (hby:i.bytes=bytes) (hzs:z.cells.size=size) (hsz:0 < size)
  (v:Value) (n:Nat) (xs:List Value) (hs:a.eval s=v) (hown:w.ownsRow base e size v n xs) (v2:Value) (m base2:Nat) (ys:List Value) (hx:a.eval x=v2) (hown2:w.ownsRow base2 e size v2 m ys) (h1:∀u∈ys,u.oneCell'=true) (hmax:n+m≤maxLen) (hbytes:(n+m) * bytes≤140737488355328) (hbase:base≤w.heap.size)
  (h:∀v' w',w'.ownsRow base e size v' (n+m) (xs++ys)→w.grownBy w' v.ownBlock→wpList Tryz.prog ops Q rest (a.put o.dst v') w'):wpList Tryz.prog ops Q (o :: rest) a w:=by
 have hc:=hown2
 obtain ⟨hl,⟨rfl,hm⟩ | ⟨g,cap,cur,rfl,hb,hh,hrest⟩⟩:=hown2
 ·subst hm
  have hys:ys=[]:=List.eq_nil_of_length_eq_zero (by omega)
  subst hys
  refine wpList_append_own_none hgd s x t ho base e i size ht hi v n xs hs hown hx ?_
  exact h v w (by simpa using hown) (World.grownBy.refl _ _)
 ·refine wpList_append_own w hgd s x t ho base e i z size bytes ht hi hz hsize hby hzs hsz v n xs hs hown ⟨g,0,none⟩ m cap ys hx hl (fun j u hj=>?_) h1 hmax hbytes hbase (fun v' w' r1 r2 _=>h v' w' r1 r2)
  have hjl:=(List.getElem?_eq_some_iff.1 hj).1
  have:=hc.cellAt j (by omega)
  rw [hj] at this
  cases j with
  | zero=>simpa [Addr.add] using this
  | succ j=>simpa [Addr.add] using this
theorem vW (CV:List Pc):∀k (h:k < CV.length),(mY CV)[k * 2]?=some (.int .i64 CV[k].1.1)∧(mY CV)[k * 2+1]?=some CV[k].2:=by
 induction CV with
 | nil=>intro k h;simp at h
 | cons x r ih=>
  intro k h
  cases k with
  | zero=>simp [mY]
  | succ k=>
   have:=ih k (by simpa using h)
   have e1:(k+1) * 2=k * 2+2:=by omega
   rw [e1]
   simp only [mY,List.flatMap_cons,List.cons_append,List.nil_append,List.getElem_cons_succ] at this ⊢
   have e2:k * 2+2+1=k * 2+1+2:=by omega
   rw [e2]
   simp only [List.getElem?_cons_succ]
   exact this
theorem aLo (U:List Us):∀u∈eY U,u.oneCell'=true:=by
 intro u hu
 unfold eY at hu
 rw [List.mem_flatMap] at hu
 obtain ⟨x,_,hx⟩:=hu
 simp at hx
 rcases hx with rfl | rfl | rfl <;> rfl
theorem aLp (U V:List Us):eY (U++V)=eY U++eY V:=by simp [eY]
structure zC (p:Pc):Prop where
 short:∀q∈p.1.2,dI q.1.2
 count:aN (p.1.2.map Prod.fst)≤100000
 len:p.1.2.length≤100000
def eP (CV:List Pc):List Us:=CV.flatMap fun p=>nR (p.1.2.map Prod.fst)
theorem aLq (CV:List Pc) (k:Nat) (h:k < CV.length):eP (CV.take (k+1))=eP (CV.take k)++nR (CV[k].1.2.map Prod.fst):=by
 rw [List.take_succ_eq_append_getElem h]
 unfold eP
 rw [List.flatMap_append,List.flatMap_singleton]
theorem aLr (CV:List Pc) (k:Nat):(eP (CV.take k)).length≤(eP CV).length:=by
 have:eP CV=eP (CV.take k)++eP (CV.drop k):=by
  unfold eP
  rw [←List.flatMap_append,List.take_append_drop]
 rw [this,List.length_append]
 omega
set_option maxHeartbeats 4000000 in
theorem aLs {B pb:Nat} {w:World} {vC:Value} {CV:List Pc} (h:eO B w vC CV) (hb:w.cell? ⟨pb,4,none⟩=some vC) (hs:∀p∈CV,zC p) (hl:CV.length≤1000000) (hU:(eP CV).length≤1000000) :
  Calls Tryz.prog 27 #[.pointer (some ⟨pb,0,none⟩)] w fun e w'=>∃v,e=.returned v∧w'.ownsRow w.heap.size 97 3 v (eP CV).length (eY (eP CV))∧Below w.heap.size w w':=by
 obtain ⟨iU,hI,hI0,hI1,hI2⟩:=info_parts aEe
 obtain ⟨va,vac,rfl⟩:=aR h.row
 have HH:=aA h
 have HS:=aA hs
 clear h hs
 go_enter Tryz.func27,Tryz.ntmps27
 go_wp2
 go_loopw [3,11] (fun o i wr=>∃k:Nat,k≤CV.length∧i=.int .i64 k∧wr.ownsRow w.heap.size 97 3 o (eP (CV.take k)).length (eY (eP (CV.take k)))∧Below w.heap.size w wr) (fun _ i _=>CV.length - (intOf i).toNat)
 case atStart=>exact ⟨0,Nat.zero_le _,rfl,World.ownsRow_nil _ _ _ _,Below.refl _ _⟩
 case round=>
  obtain ⟨k,hk,rfl,ho,hb2⟩:=hrel
  obtain ⟨oa,oc,rfl⟩:=aR ho
  have hz:=hb2.size
  have HB2:=aA hb2
  have HO:=aA ho
  by_cases hlt:k < CV.length
  ·have hm:CV[k]∈CV:=List.getElem_mem _
   have hsm:=HS.out _ hm
   obtain ⟨aa,cap,hv,hlit⟩:=aAu (P:=CV[k].1.2) (HH.out.each _ hm).1 (HH.out.each _ hm).2 hsm.short (by have:=hsm.count;omega) (by have:=hsm.len;omega)
   obtain ⟨gC,cC,hva⟩:=sM HH.out.row (by omega)
   simp at hva
   obtain ⟨rfl,rfl⟩:=hva
   have e1:w.cell? ⟨gC,k * 2,none⟩=some (.int .i64 CV[k].1.1):=by rw [HH.out.row.cellAt _ (by omega),(vW CV k hlt).1]
   have e2:w.cell? ⟨gC,k * 2+1,none⟩=some (.slice aa CV[k].1.2.length cap):=by rw [HH.out.row.cellAt _ (by omega),(vW CV k hlt).2,hv]
   have f1:=Below.at' hb2 (Nat.le_refl _) e1
   have f2:=Below.at' hb2 (Nat.le_refl _) e2
   have hcnt:=hsm.count
   have hus:=aLq CV k hlt
   have hul:=aLr CV (k+1)
   rw [hus,List.length_append] at hul
   have HUS:=aA hus
   have hpl:(CV[k].1.2.map Prod.fst).length=CV[k].1.2.length:=by simp
   rw [←hpl] at f2
   clear e1 e2 hv hsm hm hus hpl
   generalize CV[k].1.2.map Prod.fst=c at *
   generalize CV[k].1.1=at0 at *
   generalize eP (CV.take k)=U0 at *
   have CU:=aA (fun wx (hx:bP wx aa c)=>aO0 aa cap c wx hx hcnt)
   have HLI:=aA (hlit.below hb2 (Nat.le_refl _))
   clear ho hb2 hlit
   go_wp2_with (first
    | (go_at_call 45;refine (CU.out _ (HLI.out.below ((Below.refl _ _).alloc (Nat.le_refl _) _) (Nat.le_refl _))).mono ?_;rintro e w1 ⟨v1,rfl,ho1,hb1⟩;have hA:=(HB2.out.alloc hz (.cells #[.int .i64 at0,.slice aa c.length cap] 100));have hB1:=hA.trans (hb1.mono hA.size);have h1s:=hB1.size;have hoo:=aZ (HO.out.alloc _) hb1 (Nat.le_refl _);have HOO:=aA hoo;have HO1:=aA ho1;have HB1:=aA hB1;obtain ⟨u1,c1,rfl⟩:=aR ho1;clear hoo ho1 hb1 hA hB1)
    | (at_builtin;refine aLn rfl (.tmp 15) (.tmp 18) 68 rfl w.heap.size 97 iU (.agg #[.string ⟨#[]⟩,.bool false,.int .i64 0]) 3 32 Tryz.underlying68 hI hI0 hI1 hI2 rfl (by decide) _ _ _ rfl HOO.out _ _ _ _ rfl HO1.out (aLo _) (by unfold maxLen;omega) (by omega) h1s ?_;intro v2 w2 ho2 hg2;have HO2:=aA ho2;have HG2:=aA hg2;clear ho2 hg2)
    | go_in)
   go_roundw
   case rel=>exact ⟨k+1,by omega,by go_num,by rw [HUS.out,List.length_append,aLp];exact HO2.out,HB1.out.grown HG2.out h1s (fun j e=>(bY HOO.out j e).1)⟩
   case measure=>simp [intOf];omega
  ·have hk':k=CV.length:=by omega
   subst hk'
   clear ho hb2
   rw [List.take_length] at HO
   go_wp2
   go_ret
   exact ⟨_,rfl,by rw [List.take_length];exact HO.out,HB2.out⟩
theorem aLt {w:World} {B:Nat} {e:TypeId} {size g n m cap:Nat} {xs:List Value} (h:w.ownsRow B e size (.slice (some ⟨g,0,none⟩) n cap) m xs):n=m∧n≤cap:=by
 obtain ⟨_,⟨e,_⟩ | ⟨g',cap',cur,e,_,_,hc,_⟩⟩:=h
 ·cases e
 ·cases e
  exact ⟨rfl,hc⟩
theorem aLu {w w1:World} {s:ByteArray} {g cap:Nat} (hs:0 < (bL s 0).length) (hr:w1.ownsRow w.heap.size 128 2 (.slice (some ⟨g,0,none⟩) (bL s 0).length cap) (bL s 0).length (kW (bL s 0))) (hb:Below w.heap.size w w1) :
  ∃m c,bB w.heap.size (w1.alloc (.cells #[.slice (some ⟨g,0,none⟩) (bL s 0).length cap,.int .i32 0,.int .i64 0,.string ⟨#[]⟩,.slice none 0 0,.slice none 0 0,.map none] 66)) w1.heap.size s 0 g 0 m c 0 0 ⟨#[]⟩ (.slice none 0 0) (.slice none 0 0) (.map none):=by
 obtain ⟨_,hc⟩:=aLt hr
 have e1:(bL s 0).length - 1+1=(bL s 0).length:=by omega
 have e2:cap - 1+1=cap:=by omega
 have hz:=hb.size
 refine ⟨(bL s 0).length - 1,cap - 1,⟨?_,hz,?_,by omega,rfl,Nat.zero_le _⟩⟩
 ·rw [e1,e2]
  unfold bF
  show (w1.heap.push _)[w1.heap.size]?=_
  simp
 ·rw [Nat.zero_add,Nat.zero_add,e1,e2]
  exact aZ hr ((Below.refl w1.heap.size w1).alloc (Nat.le_refl _) _) (Nat.le_refl _)
set_option maxHeartbeats 4000000 in
theorem aLv (s:ByteArray) (w:World) (hs:s.size≤3000) :
  Calls Tryz.prog 24 #[.string s] w fun e w'=>∃pb g,e=.returned (.pointer (some ⟨pb,0,none⟩))∧Below w.heap.size w w'∧pO w.heap.size w' pb s (dR s 0) ⟨0,[],[]⟩ g (.slice none 0 0) (.slice none 0 0) []:=by
 have CG:=aA (aN6 s w hs)
 have CN:=aA (fun (W:World) (pb g m c:Nat) (h:bB w.heap.size W pb s 0 g 0 m c 0 0 ⟨#[]⟩ (.slice none 0 0) (.slice none 0 0) (.map none))=>(aD3 (s.size+1) h hs (by omega)).mono fun e w1 hr=>aD5 (T:=dR s 0) (i:=0) (Nat.zero_le _) (by omega) rfl hr)
 have hgl:0 < (bL s 0).length:=(wA s s.size 0 (by omega)).1
 generalize aD (dR s 0) 0=t at CN
 obtain ⟨tk,tx,tp⟩:=t
 simp only at CN
 go_enter Tryz.func24,Tryz.ntmps24
 go_wp2_with (first
  | (go_at_call 42;refine (aB CG).mono ?_;rintro e w1 ⟨g,cap,rfl,hr1,hb1⟩;obtain ⟨m,c,hsc⟩:=aLu hgl hr1 hb1;have HB1:=aA hb1;have HSC:=aA hsc;clear hr1 hb1 hsc)
  | (go_at_call 43;refine (CN.out _ _ _ _ _ HSC.out).mono ?_;rintro e w2 ⟨rfl,hg2,⟨left,hb2⟩,hP2⟩;have e1:=hb2.c1;have e2:=hb2.c2;have e3:=hb2.c3;have ef:=hb2.soft;have HG2:=aA hg2;have HP2:=aA hP2;clear hg2 hP2 hb2)
  | go_in)
 go_ret
 refine ⟨_,g,rfl,?_,⟨_,HP2.out⟩,World.ownsRow_nil _ _ _ _,World.ownsRow_nil _ _ _ _,fun p hp=>by simp at hp⟩
 have hz:=HB1.out.size
 have hA:=HB1.out.alloc hz (.cells #[.slice (some ⟨g,0,none⟩) (bL s 0).length cap,.int .i32 0,.int .i64 0,.string ⟨#[]⟩,.slice none 0 0,.slice none 0 0,.map none] 66)
 exact hA.grown (oT (oT (oT HG2.out _) _) _) (by simp;omega) (by simpa using hz)
end Go.Proofs.YtbddofieljiihaaGreatDoor
