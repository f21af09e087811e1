/- The program's parser: the parts of a name; and the contract of term at every fuel. The program's parser: the literals of a clause. The program's parser: the clauses that it has read, in memory. The program's parser: a clause. -/
import Derived.Test.YthicbnejchpmgaaGreatDoorGTokD
import Derived.Test.YthicbnejchpmgaaGreatDoorRTermD
namespace Go.Proofs.YthicbnejchpmgaaGreatDoor
open Go.RowKit Go.WideMaps
set_option maxRecDepth 100000
theorem qA.shape {B B' pb:Nat} {w:World} {s:ByteArray} {T:List Tk} {g:Nat} {vC:Value} {mg:Nat} {r:Except Nat (aV×List Nd)} {e:Ending} {w':World} (h:qA B B' pb w s T g vC mg r e w'):∃a n c b,e=.returned (.tuple #[.slice a n c,.bool b]):=by
 obtain ⟨_,h⟩:=h
 cases r with
 | error p=>obtain ⟨a,n,c,i,vP,vM,rfl,_⟩:=h;exact ⟨a,n,c,false,rfl⟩
 | ok y=>
  obtain ⟨s1,l1⟩:=y
  obtain ⟨vl,vP,rfl,_,h4⟩:=h
  obtain ⟨a,c,hs⟩:=aR h4
  exact ⟨a,_,c,true,by rw [hs]⟩
theorem aJo (L:List Nd) (k n:Nat) (h:k < L.length):∃x:ByteArray,(dG L k n)[k]'(by rw [tB];exact h)=(x,(n:Int)):=by
 unfold dG
 exact ⟨L[k].1,by rw [List.getElem_modify_eq]⟩
structure wA (B B' pb:Nat) (w:World) (s:ByteArray) (T:List Tk) (g:Nat) (vC:Value) (mg nm:Nat) (r:Except Nat (aV×List Nd×Nat)) (k:Nat) (vl:Value) (wr:World) (st:aV) (L:List Nd) (n:Nat) (vP:Value):Prop where
 q:bJ B wr pb s T ⟨st.i+1,st.vars,st.places⟩ g vC vP mg
 row:wr.ownsRow B' 28 2 vl L.length (aQ (dG L nm n))
 kept:bH B B' mg w wr
 eq:r=dW T k st L n
 fuel:T.length < st.i+k
 nm:nm < L.length
 len:L.length≤st.i
 pl:st.places.length≤st.i
 vs:st.vars.length≤st.i
 few:n≤st.i
theorem wA.step {B B' pb:Nat} {w:World} {s:ByteArray} {T:List Tk} {g:Nat} {vC:Value} {mg nm:Nat} {r:Except Nat (aV×List Nd×Nat)} {k:Nat} {vl:Value} {wr:World} {st:aV} {L:List Nd} {n:Nat} {vP:Value} (h:wA B B' pb w s T g vC mg nm r (k+1) vl wr st L n vP) {q:Except Nat (aV×List Nd)} (hq:cD T k false ⟨st.i+1,st.vars,st.places⟩ []=q) :
  match q with
  | .error p=>r=.error p
  | .ok (s1,x)=>r=if (aE T s1.i).kind=44 then dW T k s1 (L++x) (n+1) else if (aE T s1.i).kind=41 then .ok (⟨s1.i+1,s1.vars,s1.places⟩,L++x,n+1) else .error (aE T s1.i).pos:=by
 have he:=h.eq
 rw [dW,(aFb T k).1 false _ L,hq] at he
 cases q with
 | error p=>exact he
 | ok y=>exact he
theorem aJp {B B' pb:Nat} {w w1:World} {s:ByteArray} {T:List Tk} {g:Nat} {vC:Value} {mg nm:Nat} {s1:aV} {L x:List Nd} {n:Nat} {vP vl:Value} (hq:bJ B w1 pb s T s1 g vC vP mg) (hr:w1.ownsRow B' 28 2 vl (dG L nm n++x).length (aQ (dG L nm n++x))) (hnm:nm < L.length) (hBB:B≤B') (hk:bH B B' mg w w1) :
  ∃gn c,vl=.slice (some ⟨gn,0,none⟩) (L++x).length c∧w1.cell? ⟨gn,nm * 2+1,none⟩=some (.int .i64 n)∧w1.frozen? ⟨gn,nm * 2+1,none⟩=false∧
   bJ B (w1.setCell ⟨gn,nm * 2+1,none⟩ (.int .i64 ((n:Int)+1))) pb s T s1 g vC vP mg∧(w1.setCell ⟨gn,nm * 2+1,none⟩ (.int .i64 ((n:Int)+1))).ownsRow B' 28 2 vl (L++x).length (aQ (dG (L++x) nm (n+1)))∧bH B B' mg w (w1.setCell ⟨gn,nm * 2+1,none⟩ (.int .i64 ((n:Int)+1))):=by
 rw [←aPj L x nm n hnm,tB] at hr
 have hnx:nm < (L++x).length:=by simp;omega
 obtain ⟨gn,c,rfl⟩:=sZ hr (by omega)
 have hg:w1.grownBy (w1.setCell ⟨gn,nm * 2+1,none⟩ (.int .i64 ((n:Int)+1))) (some gn):=bZ _ _ _
 obtain ⟨y,hy⟩:=aJo (L++x) nm n hnx
 refine ⟨gn,c,rfl,?_,hr.frozenAt _,hq.far hr (by decide) hg,?_,hk.grownRow hr hBB (Or.inr ⟨rfl,Nat.le_refl _⟩) hg⟩
 ·rw [hr.cellAt _ (by omega),(sH _ nm (by rw [tB];exact hnx)).2,hy]
 ·have:=(hr.stored (nm * 2+1) (.int .i64 ((n+1:Nat):Int))).1
  rw [aPb,aPl] at this
  exact this
section
variable {B pb:Nat} {s:ByteArray} {T:List Tk} {g:Nat} {vC:Value} {mg:Nat}
set_option maxHeartbeats 4000000 in
theorem aJq (f:Nat) (hT:∀i,(aE T i).kind∈fO) (hs:s.size≤3000) (hTl:T.length≤1000000) (IH:∀k,k < f→aDi B pb s T g vC mg k):aDk B pb s T g vC mg f:=by
 intro B' st vP vl l x w h hl hBB hBw hf hl1 hp1 hv1
 have hlt:=h.pp.lt
 simp only at hlt
 obtain ⟨la,lc,rfl⟩:=aR hl
 have HIH:=aA IH
 have HT:=aA hT
 have H0:Hid (wA B B' pb w s T g vC mg l.length (dW T f st (l++[(x,0)]) 0) f (.slice la (l.length+1) lc) w st (l++[(x,0)]) 0 vP):=aA ⟨h,by rw [aPc,List.length_append];exact hl,bH.refl _ _ _ _,rfl,hf,by simp,by simp;omega,hp1,hv1,Nat.zero_le _⟩
 obtain ⟨R,hR⟩ : ∃R,dW T f st (l++[(x,0)]) 0=R:=⟨_,rfl⟩
 rw [hR] at H0
 simp only [hR]
 have hl1':l.length≤1000000:=by omega
 clear h hl IH hT hR
 generalize l.length=nm at *
 go_enter Tryz.func136,Tryz.ntmps136
 go_wp2
 go_loopg [1] f (fun k vl wr=>k≤f∧∃st' L n vP',wA B B' pb w s T g vC mg nm R k vl wr st' L n vP')
 case atStart=>exact ⟨Nat.le_refl _,st,_,0,vP,H0.out⟩
 case round=>
  clear H0
  obtain ⟨hkf,st',L,n,vP',hL⟩:=hrel
  have hlt':=hL.q.pp.lt
  simp only at hlt'
  have hfu:=hL.fuel
  have hnm:=hL.nm
  have hlen:=hL.len
  have hpl:=hL.pl
  have hvs:=hL.vs
  have hfew:=hL.few
  obtain ⟨k',rfl⟩ : ∃k',gk=k'+1:=⟨gk - 1,by omega⟩
  obtain ⟨va,vc,rfl⟩:=aR hL.row
  have CT:=aA (HIH.out k' (by omega) B' false ⟨st'.i+1,st'.vars,st'.places⟩ vP' _ (dG L nm n) wr hL.q (by rw [tB];exact hL.row) hBB (Nat.le_trans hBw hL.kept.size) (by simp) (by simp;omega) (by rw [tB];simp;omega) (by simp;omega) (by simp;omega))
  have HL:=aA hL
  have hpre:=(aFb T k').1 false ⟨st'.i+1,st'.vars,st'.places⟩ (dG L nm n)
  rw [hpre] at CT
  clear hpre
  cases hq:cD T k' false ⟨st'.i+1,st'.vars,st'.places⟩ [] with
  | error p=>
   have hst:=HL.out.step hq
   rw [hq] at CT
   have HR:Hid (R=.error p):=aA hst
   clear hq hst hL
   go_wp2_with (first
    | (go_at_call 121;refine (aB CT).mono ?_;rintro e w1 ⟨hk1,a1,n1,c1,i1,vP1,vM1,rfl,hp1,hpos⟩;have HK1:=aA hk1;have HP1:=aA hp1;have HPO:=aA hpos;clear hk1 hp1 hpos)
    | go_in)
   go_ret2
   refine ⟨HL.out.kept.trans HK1.out,?_⟩
   rw [HR.out]
   exact ⟨_,_,_,_,_,_,rfl,HP1.out,HPO.out⟩
  | ok y=>
   obtain ⟨s1,x1⟩:=y
   have hst:=HL.out.step hq
   simp only at hst
   have hon:=(sY T k').1 _ _ _ _ _ hq
   simp only [List.length_nil] at hon
   rw [hq] at CT
   obtain ⟨L2,hL2⟩ : ∃L2,L++x1=L2:=⟨_,rfl⟩
   have hl2:L2.length=L.length+x1.length:=by rw [←hL2];simp
   have HPM:=aA (fun (w1:World) (vP1 vl1:Value) (hq1:bJ B w1 pb s T s1 g vC vP1 mg) (hr1:w1.ownsRow B' 28 2 vl1 (dG L nm n++x1).length (aQ (dG L nm n++x1))) (hk1:bH B B' mg w w1)=>aJp hq1 hr1 hnm hBB hk1)
   rw [hL2] at hst HPM
   have HST:=aA hst
   have hnmi:(nm:Int) < (L2.length:Int):=by omega
   have hnm0:(0:Int)≤(nm:Int):=by omega
   have hnn:n≤1000000:=by omega
   have HL2:=aA hl2
   clear hq hst hL hL2 hl2
   have C44:=aA (fun w1 vP1 (hp:cL B w1 pb s T s1.i g vC vP1 (.map (some mg)))=>kK 44 (by decide) (by decide) (by decide) HT.out hs hp)
   rw [show cU 44=44 from rfl] at C44
   have C41:=aA (fun w1 vP1 (hp:cL B w1 pb s T s1.i g vC vP1 (.map (some mg)))=>kK 41 (by decide) (by decide) (by decide) HT.out hs hp)
   rw [show cU 41=41 from rfl] at C41
   by_cases h44:(aE T s1.i).kind=44
   ·rw [if_pos h44,decide_eq_true h44] at C44
    have HST':Hid (R=dW T k' s1 L2 (n+1)):=aA (by have:=HST.out;rw [if_pos h44] at this;exact this)
    clear HST C41
    go_wp2_with (first
     | (go_at_call 83;refine (C44.out _ _ HQ2.out.pp).mono ?_;rintro e w3 ⟨rfl,hg3,hp3⟩;obtain ⟨left2,hb2,hBp2⟩:=HQ2.out.pp.box;have HQ3:=aA (HQ2.out.take hg3 hp3);have HR3:=aA (HR2.out.kept hg3 (hb2.apart HR2.out (by decide)));have HK3:=aA (HK2.out.grownBox hb2 hBp2 hg3);clear hg3 hp3 hb2)
     | (go_at_call 121;refine (aB CT).mono ?_;rintro e w1 ⟨hk1,vl1,vP1,rfl,hq1,hr1⟩;obtain ⟨gn,cn,rfl,cc,cf,hq2,hr2,hk2⟩:=HPM.out w1 vP1 vl1 hq1 hr1 (HL.out.kept.trans hk1);have HQ2:=aA hq2;have HR2:=aA hr2;have HK2:=aA hk2;clear hk1 hq1 hr1 hq2 hr2 hk2)
     | go_in)
    go_roundg k'
    case measure=>omega
    case rel=>exact ⟨by omega,s1,L2,n+1,_,HQ3.out,HR3.out,HK3.out,HST'.out,by omega,by have:=HL2.out;omega,by have:=HL2.out;omega,by omega,by omega,by omega⟩
   ·rw [if_neg h44,decide_eq_false h44] at C44
    by_cases h41:(aE T s1.i).kind=41
    ·rw [if_pos h41,decide_eq_true h41] at C41
     have HST':Hid (R=.ok (⟨s1.i+1,s1.vars,s1.places⟩,L2,n+1)):=aA (by have:=HST.out;rw [if_neg h44,if_pos h41] at this;exact this)
     clear HST
     go_wp2_with (first
      | (go_at_call 83;refine (C41.out _ _ HQ3.out.pp).mono ?_;rintro e w4 ⟨rfl,hg4,hp4⟩;obtain ⟨left3,hb3,hBp3⟩:=HQ3.out.pp.box;have HQ4:=aA (HQ3.out.take hg4 hp4);have HR4:=aA (HR3.out.kept hg4 (hb3.apart HR3.out (by decide)));have HK4:=aA (HK3.out.grownBox hb3 hBp3 hg4);clear hg4 hp4 hb3)
      | (go_at_call 83;refine (C44.out _ _ HQ2.out.pp).mono ?_;rintro e w3 ⟨rfl,hg3,hp3⟩;obtain ⟨left2,hb2,hBp2⟩:=HQ2.out.pp.box;have HQ3:=aA (HQ2.out.take hg3 hp3);have HR3:=aA (HR2.out.kept hg3 (hb2.apart HR2.out (by decide)));have HK3:=aA (HK2.out.grownBox hb2 hBp2 hg3);clear hg3 hp3 hb2)
      | (go_at_call 121;refine (aB CT).mono ?_;rintro e w1 ⟨hk1,vl1,vP1,rfl,hq1,hr1⟩;obtain ⟨gn,cn,rfl,cc,cf,hq2,hr2,hk2⟩:=HPM.out w1 vP1 vl1 hq1 hr1 (HL.out.kept.trans hk1);have HQ2:=aA hq2;have HR2:=aA hr2;have HK2:=aA hk2;clear hk1 hq1 hr1 hq2 hr2 hk2)
      | go_in)
     go_ret2
     refine ⟨HK4.out,?_⟩
     rw [HST'.out]
     exact ⟨_,_,rfl,HQ4.out,by rw [tB];exact HR4.out⟩
    ·rw [if_neg h41,decide_eq_false h41] at C41
     have HST':Hid (R=.error (aE T s1.i).pos):=aA (by have:=HST.out;rw [if_neg h44,if_neg h41] at this;exact this)
     clear HST
     go_wp2_with (first
      | (go_at_call 83;refine (C41.out _ _ HQ3.out.pp).mono ?_;rintro e w4 ⟨rfl,hg4,hp4⟩;obtain ⟨left3,hb3,hBp3⟩:=HQ3.out.pp.box;have HP4:=aA hp4;have HK4:=aA (HK3.out.grownBox hb3 hBp3 hg4);clear hg4 hp4 hb3)
      | (go_at_call 83;refine (C44.out _ _ HQ2.out.pp).mono ?_;rintro e w3 ⟨rfl,hg3,hp3⟩;obtain ⟨left2,hb2,hBp2⟩:=HQ2.out.pp.box;have HQ3:=aA (HQ2.out.take hg3 hp3);have HK3:=aA (HK2.out.grownBox hb2 hBp2 hg3);clear hg3 hp3 hb2)
      | (go_at_call 121;refine (aB CT).mono ?_;rintro e w1 ⟨hk1,vl1,vP1,rfl,hq1,hr1⟩;obtain ⟨gn,cn,rfl,cc,cf,hq2,hr2,hk2⟩:=HPM.out w1 vP1 vl1 hq1 hr1 (HL.out.kept.trans hk1);have HQ2:=aA hq2;have HR2:=aA hr2;have HK2:=aA hk2;clear hk1 hq1 hr1 hq2 hr2 hk2)
      | go_in)
     go_ret2
     refine ⟨HK4.out,?_⟩
     rw [HST'.out]
     exact ⟨_,_,_,_,_,_,rfl,HP4.out,rfl⟩
theorem aJr (hT:∀i,(aE T i).kind∈fO) (hx:∀i,(aE T i).txt.size≤1000000) (hs:s.size≤3000) (hTl:T.length≤1000000):∀f,aDi B pb s T g vC mg f:=by
 intro f
 induction f using Nat.strongRecOn with
 | _ f ih=>
  intro B' atom st vP vl l w h hl hBB hBw hat hf hl1 hp1 hv1
  have hlt:=h.pp.lt
  obtain ⟨f',rfl⟩ : ∃f',f=f'+1:=⟨f - 1,by omega⟩
  by_cases hk:(aE T st.i).kind=110
  ·exact aLw atom f' hT hs hTl (aJq f' hT hs hTl fun k hk=>ih k (by omega)) h hl hBB hBw hk hf hl1 hp1 hv1
  ·by_cases hk2:(aE T st.i).kind=118
   ·have ha:atom=false:=by
     cases atom
     ·rfl
     ·exact absurd hk2 (hat rfl)
    exact aLs atom f' hT hx hs hTl h hl hBB hBw hk2 ha hl1 hv1
   ·exact aLt atom f' hT hs h hk2 hk
end
set_option maxHeartbeats 2000000 in
theorem aJs {B pb:Nat} {s:ByteArray} {T:List Tk} {g:Nat} {vC vP:Value} {mg:Nat} {st:aV} {w:World} (hT:∀i,(aE T i).kind∈fO) (hx:∀i,(aE T i).txt.size≤1000000) (hs:s.size≤3000) (hTl:T.length≤1000000) (h:bJ B w pb s T st g vC vP mg) (hBw:B≤w.heap.size) (hp1:st.places.length≤st.i) (hv1:st.vars.length≤st.i) :
  Calls Tryz.prog 108 #[.pointer (some ⟨pb,0,none⟩)] w fun e w'=>qA B w.heap.size pb w s T g vC mg (cD T (T.length+1) true st []) e w':=by
 have hlt:=h.pp.lt
 obtain ⟨left,hb,_⟩:=h.pp.box
 have d1:=hb.c1
 by_cases hk:(aE T st.i).kind=118
 ·have HP:Hid (cD T (T.length+1) true st []=.error (aE T st.i).pos):=aA (by rw [cD,if_neg (by simp),if_pos (by rw [hk];decide)])
  rw [hk,show cU 118=65 from rfl] at d1
  have HQ:=aA h
  clear h hb
  go_enter Tryz.func108,Tryz.ntmps108
  go_wp2
  go_ret2
  refine ⟨bH.refl _ _ _ _,?_⟩
  rw [HP.out]
  exact ⟨_,_,_,_,_,_,rfl,HQ.out.pp,rfl⟩
 ·have hne:(cU (aE T st.i).kind == 65)=false:=by
   rw [beq_eq_false_iff_ne]
   exact fun e=>hk (zH _ (hT st.i) 118 (by decide) (by rw [e];rfl))
  have CT:=aA (aJr (B:=B) (pb:=pb) (g:=g) (vC:=vC) (mg:=mg) hT hx hs hTl (T.length+1) w.heap.size true st vP (.slice none 0 0) [] w h (World.ownsRow_nil _ _ _ _) hBw (Nat.le_refl _) (fun _=>hk) (by omega) (Nat.zero_le _) hp1 hv1)
  generalize cU (aE T st.i).kind=K at *
  clear h hb hk hT hx
  go_enter Tryz.func108,Tryz.ntmps108
  go_wp2_with (first
   | (go_at_call 121;refine (aB CT).mono ?_;intro e w1 hQ1;obtain ⟨a1,n1,c1,b1,he1⟩:=hQ1.shape;subst he1;have HQ1:=aA hQ1;clear hQ1)
   | go_in)
  go_ret2
  exact HQ1.out
def aJt (B pb:Nat) (w:World) (s:ByteArray) (T:List Tk) (g:Nat) (vC:Value) (mg:Nat) (r:Except Nat (aV×List Lt)) (e:Ending) (w':World):Prop:=
 bH B w.heap.size mg w w'∧
  match r with
  | .ok (s1,c)=>∃P vc vP,e=.returned (.tuple #[vc,.bool true])∧bJ B w' pb s T s1 g vC vP mg∧w'.ownsRow w.heap.size 66 2 vc P.length (aU P)∧(∀q∈P,w'.ownsRow w.heap.size 28 2 q.2 q.1.2.length (aQ q.1.2))∧P.map Prod.fst=c
  | .error p=>∃a n c i vP vM,e=.returned (.tuple #[.slice a n c,.bool false])∧cL B w' pb s T i g vC vP vM∧(aE T i).pos=p
structure LLq (B pb:Nat) (w:World) (s:ByteArray) (T:List Tk) (g:Nat) (vC:Value) (mg:Nat) (r:Except Nat (aV×List Lt)) (k:Nat) (vc:Value) (wr:World) (st:aV) (P:List (Lt×Value)) (vP:Value):Prop where
 q:bJ B wr pb s T st g vC vP mg
 kept:bH B w.heap.size mg w wr
 row:wr.ownsRow w.heap.size 66 2 vc P.length (aU P)
 atoms:∀q∈P,wr.ownsRow w.heap.size 28 2 q.2 q.1.2.length (aQ q.1.2)
 eq:r=gL T k st (P.map Prod.fst)
 fuel:T.length < st.i+k
 pl:st.places.length≤st.i
 vs:st.vars.length≤st.i
 few:P.length≤st.i
section
variable {B pb:Nat} {w w1 w2 w3:World} {s:ByteArray} {T:List Tk} {g:Nat} {vC vP vc:Value} {mg:Nat} {st:aV} {P:List (Lt×Value)}
theorem tQ {st1:aV} (hq:bJ B w1 pb s T st1 g vC vP mg) (hk:bH B w.heap.size mg w w1) (hr:w1.ownsRow w.heap.size 66 2 vc P.length (aU P)) (ha:∀q∈P,w1.ownsRow w.heap.size 28 2 q.2 q.1.2.length (aQ q.1.2)) {i':Nat} (hg:w1.grownBy w2 (some pb)) (hp:cL B w2 pb s T i' g vC vP (.map (some mg))) :
  bJ B w2 pb s T ⟨i',st1.vars,st1.places⟩ g vC vP mg∧bH B w.heap.size mg w w2∧w2.ownsRow w.heap.size 66 2 vc P.length (aU P)∧(∀q∈P,w2.ownsRow w.heap.size 28 2 q.2 q.1.2.length (aQ q.1.2)):=by
 obtain ⟨left,hb,hBp⟩:=hq.pp.box
 exact ⟨hq.take hg hp,hk.grownBox hb hBp hg,hr.kept hg (hb.apart hr (by decide)),fun q hq'=>(ha q hq').kept hg (hb.apart (ha q hq') (by decide))⟩
theorem aCu {st1:aV} {vl:Value} {l:List Nd} (hq:bJ B w1 pb s T st1 g vC vP mg) (hk:bH B w.heap.size mg w w1) (hr:w1.ownsRow w.heap.size 66 2 vc P.length (aU P)) (ha:∀q∈P,w1.ownsRow w.heap.size 28 2 q.2 q.1.2.length (aQ q.1.2)) (hk2:bH B w1.heap.size mg w1 w2) (hl:w2.ownsRow w1.heap.size 28 2 vl l.length (aQ l)) :
  bH B w.heap.size mg w w2∧w2.ownsRow w.heap.size 66 2 vc P.length (aU P)∧(∀q∈P,w2.ownsRow w.heap.size 28 2 q.2 q.1.2.length (aQ q.1.2))∧w2.ownsRow w.heap.size 28 2 vl l.length (aQ l):=by
 obtain ⟨D,hm,_⟩:=hq.map
 exact ⟨hk.trans (hk2.mono hk.size),hk2.own hr (by decide) (by intro e;exact absurd e (by decide)) (pZ hr hm),fun q hq'=>hk2.own (ha q hq') (by decide) (fun _=>Nat.le_refl _) (pZ (ha q hq') hm),fG hl hk.size⟩
theorem aCv {st2:aV} {vl v3:Value} {x:Lt} {X:Obj} (hq:bJ B w2 pb s T st2 g vC vP mg) (hk:bH B w.heap.size mg w w2) (hr:w2.ownsRow w.heap.size 66 2 vc P.length (aU P)) (ha:∀q∈P,w2.ownsRow w.heap.size 28 2 q.2 q.1.2.length (aQ q.1.2)) (hl:w2.ownsRow w.heap.size 28 2 vl x.2.length (aQ x.2))
  (ho:w3.ownsRow w.heap.size 66 2 v3 (P.length+1) (aU P++[.bool x.1,vl])) (hg:(w2.alloc X).grownBy w3 vc.ownBlock) :
  bJ B w3 pb s T st2 g vC vP mg∧bH B w.heap.size mg w w3∧w3.ownsRow w.heap.size 66 2 v3 (P++[(x,vl)]).length (aU (P++[(x,vl)]))∧(∀q∈P++[(x,vl)],w3.ownsRow w.heap.size 28 2 q.2 q.1.2.length (aQ q.1.2)):=by
 have hA:=(Below.refl w2.heap.size w2).alloc (Nat.le_refl _) X
 have hrA:=aY hr hA (Nat.le_refl _)
 have haA:=fun q hq'=>aY (ha q hq') hA (Nat.le_refl _)
 have hlA:=aY hl hA (Nat.le_refl _)
 refine ⟨(hq.below hA).far hrA (by decide) hg,?_,by rw [vY,List.length_append];exact ho,fun q hq'=>?_⟩
 ·have hkA:=hk.trans (bH.of_below (B:=B) (B':=w.heap.size) (mg:=mg) hA)
  exact ⟨hg.os.trans hkA.os,hg.tape.trans hkA.tape,hg.output.trans hkA.output,Nat.le_trans hkA.size hg.size,fun k hk' hc=>by
   rw [hg.block k (Nat.lt_of_lt_of_le hk' hkA.size) (fun e=>by have:=(bU hrA k e.symm).1;omega),hkA.block k hk' hc]⟩
 ·rcases List.mem_append.1 hq' with hq' | hq'
  ·exact (haA q hq').kept hg (eZ (haA q hq') hrA (by decide))
  ·simp at hq'
   subst hq'
   exact hlA.kept hg (eZ hlA hrA (by decide))
set_option maxHeartbeats 4000000 in
theorem aJu (hT:∀i,(aE T i).kind∈fO) (hx:∀i,(aE T i).txt.size≤1000000) (hs:s.size≤3000) (hTl:T.length≤1000000) (h:bJ B w pb s T st g vC vP mg) (hBw:B≤w.heap.size) (hp1:st.places.length≤st.i) (hv1:st.vars.length≤st.i) :
  Calls Tryz.prog 84 #[.pointer (some ⟨pb,0,none⟩)] w fun e w'=>aJt B pb w s T g vC mg (gL T (T.length+1) st []) e w':=by
 obtain ⟨iL,hI,hI0,hI1,hI2⟩:=info_parts rA
 have H0:Hid (LLq B pb w s T g vC mg (gL T (T.length+1) st []) (T.length+1) (.slice none 0 0) w st [] vP):=aA ⟨h,bH.refl _ _ _ _,World.ownsRow_nil _ _ _ _,fun q hq=>by simp at hq,rfl,by omega,hp1,hv1,by simp⟩
 obtain ⟨R,hR⟩ : ∃R,gL T (T.length+1) st []=R:=⟨_,rfl⟩
 rw [hR] at H0
 simp only [hR]
 have HT:=aA hT
 have HX:=aA hx
 clear h hR hT hx hp1 hv1
 go_enter Tryz.func84,Tryz.ntmps84
 go_wp2
 go_loopg [4] (T.length+1) (fun k vc wr=>∃st' P vP',LLq B pb w s T g vC mg R k vc wr st' P vP')
 case atStart=>exact ⟨st,[],vP,H0.out⟩
 case round=>
  clear H0
  obtain ⟨st',P,vP',hL⟩:=hrel
  have hlt':=hL.q.pp.lt
  have hfu:=hL.fuel
  have hpl:=hL.pl
  have hvs:=hL.vs
  have hfew:=hL.few
  obtain ⟨k',rfl⟩ : ∃k',gk=k'+1:=⟨gk - 1,by omega⟩
  obtain ⟨va,vcc,rfl⟩:=aR hL.row
  obtain ⟨q1,q2,q3,q4⟩:=aAo T st'
  have C126:=aA (kK 126 (by decide) (by decide) (by decide) HT.out hs hL.q.pp)
  rw [show cU 126=126 from rfl] at C126
  have CA:=aA (fun w1 (hk1:w.heap.size≤w1.heap.size) (hq1:bJ B w1 pb s T (iS T st') g vC vP' mg)=>aJs HT.out HX.out hs hTl hq1 (Nat.le_trans hBw hk1) (by rw [q4];omega) (by rw [q3];omega))
  have HL:=aA hL
  obtain ⟨nb,hnb⟩ : ∃nb,decide ((aE T st'.i).kind=126)=nb:=⟨_,rfl⟩
  rw [hnb] at C126
  have HNB:=aA hnb
  clear hL hnb
  cases hq:cD T (T.length+1) true (iS T st') [] with
  | error p=>
   rw [hq] at CA
   have HR:Hid (R=.error p):=aA (by rw [HL.out.eq,aAl hq])
   clear hq
   go_wp2_with (first
    | (go_at_call 108;refine (CA.out _ HZ1.out.2.1.size HZ1.out.1).mono ?_;rintro e w2 ⟨hk2,a2,n2,c2,i2,vP2,vM2,rfl,hp2,hpos⟩;have HK2:=aA (HZ1.out.2.1.trans (hk2.mono HZ1.out.2.1.size));have HP2:=aA hp2;have HPO:=aA hpos;clear hk2 hp2 hpos)
    | (go_at_call 83;refine (aB C126).mono ?_;rintro e w1 ⟨rfl,hg1,hp1⟩;have HZ1:=aA (tQ HL.out.q HL.out.kept HL.out.row HL.out.atoms hg1 hp1);clear hg1 hp1)
    | go_in)
   go_ret2
   refine ⟨HK2.out,?_⟩
   rw [HR.out]
   exact ⟨_,_,_,_,_,_,rfl,HP2.out,HPO.out⟩
  | ok y=>
   obtain ⟨s2,x⟩:=y
   have hon:=(sY T (T.length+1)).1 _ _ _ _ _ hq
   simp only [List.length_nil] at hon
   rw [q3,q4] at hon
   rw [hq] at CA
   have HQ:=aA hq
   clear hq
   have C124:=aA (fun w3 vP3 (hp:cL B w3 pb s T s2.i g vC vP3 (.map (some mg)))=>kK 124 (by decide) (by decide) (by decide) HT.out hs hp)
   rw [show cU 124=124 from rfl] at C124
   by_cases h124:(aE T s2.i).kind=124
   ·rw [if_pos h124,decide_eq_true h124] at C124
    have HR:Hid (∀vl,R=gL T k' ⟨s2.i+1,s2.vars,s2.places⟩ ((P++[((nb,x),vl)]).map Prod.fst)):=aA (fun vl=>by rw [HL.out.eq,aAm HQ.out h124,HNB.out,List.map_append,List.map_singleton])
    go_wp2_with (first
     | (go_at_call 83;refine (C124.out _ _ HZ3.out.1.pp).mono ?_;rintro e w4 ⟨rfl,hg4,hp4⟩;have HZ4:=aA (tQ HZ3.out.1 HZ3.out.2.1 HZ3.out.2.2.1 HZ3.out.2.2.2 hg4 hp4);clear hg4 hp4)
     | (at_builtin;refine wpList_append_own _ rfl (.tmp 17) (.tmp 21) 52 rfl w.heap.size 66 iL (.agg #[.bool false,.slice none 0 0]) 2 32 Tryz.underlying52 hI hI0 hI1 hI2 rfl (by decide) _ _ _ rfl (HZ2.out.2.1.alloc _) ⟨_,0,none⟩ 1 1 [.bool nb,.slice la x.length lac] rfl rfl (iB w2 _ _ _ _ rfl) (rB _ _ _ _) (by unfold maxLen;omega) (by omega) (by simp;omega) ?_;intro v3 w3 ho3 hg3 _;have HZ3:=aA (aCv (x:=(nb,x)) HQ2.out HZ2.out.1 HZ2.out.2.1 HZ2.out.2.2.1 HZ2.out.2.2.2 ho3 hg3);obtain ⟨va3,vc3,rfl⟩:=aR ho3;clear ho3 hg3)
     | (go_at_call 108;refine (CA.out _ HZ1.out.2.1.size HZ1.out.1).mono ?_;rintro e w2 ⟨hk2,vl,vP2,rfl,hq2,hl2⟩;obtain ⟨la,lac,rfl⟩:=aR hl2;have HZ2:=aA (aCu HZ1.out.1 HZ1.out.2.1 HZ1.out.2.2.1 HZ1.out.2.2.2 hk2 hl2);have HQ2:=aA hq2;have hz2:=HZ2.out.1.size;clear hk2 hq2 hl2)
     | (go_at_call 83;refine (aB C126).mono ?_;rintro e w1 ⟨rfl,hg1,hp1⟩;have HZ1:=aA (tQ HL.out.q HL.out.kept HL.out.row HL.out.atoms hg1 hp1);clear hg1 hp1)
     | go_in)
    go_roundg k'
    case measure=>omega
    case rel=>exact ⟨⟨s2.i+1,s2.vars,s2.places⟩,P++[((nb,x),_)],_,HZ4.out.1,HZ4.out.2.1,HZ4.out.2.2.1,HZ4.out.2.2.2,HR.out _,by simp;omega,by simp;omega,by simp;omega,by simp;omega⟩
   ·rw [if_neg h124,decide_eq_false h124] at C124
    have HR:Hid (∀vl,R=.ok (s2,(P++[((nb,x),vl)]).map Prod.fst)):=aA (fun vl=>by rw [HL.out.eq,aAn HQ.out h124,HNB.out,List.map_append,List.map_singleton])
    go_wp2_with (first
     | (go_at_call 83;refine (C124.out _ _ HZ3.out.1.pp).mono ?_;rintro e w4 ⟨rfl,hg4,hp4⟩;have HZ4:=aA (tQ HZ3.out.1 HZ3.out.2.1 HZ3.out.2.2.1 HZ3.out.2.2.2 hg4 hp4);clear hg4 hp4)
     | (at_builtin;refine wpList_append_own _ rfl (.tmp 17) (.tmp 21) 52 rfl w.heap.size 66 iL (.agg #[.bool false,.slice none 0 0]) 2 32 Tryz.underlying52 hI hI0 hI1 hI2 rfl (by decide) _ _ _ rfl (HZ2.out.2.1.alloc _) ⟨_,0,none⟩ 1 1 [.bool nb,.slice la x.length lac] rfl rfl (iB w2 _ _ _ _ rfl) (rB _ _ _ _) (by unfold maxLen;omega) (by omega) (by simp;omega) ?_;intro v3 w3 ho3 hg3 _;have HZ3:=aA (aCv (x:=(nb,x)) HQ2.out HZ2.out.1 HZ2.out.2.1 HZ2.out.2.2.1 HZ2.out.2.2.2 ho3 hg3);obtain ⟨va3,vc3,rfl⟩:=aR ho3;clear ho3 hg3)
     | (go_at_call 108;refine (CA.out _ HZ1.out.2.1.size HZ1.out.1).mono ?_;rintro e w2 ⟨hk2,vl,vP2,rfl,hq2,hl2⟩;obtain ⟨la,lac,rfl⟩:=aR hl2;have HZ2:=aA (aCu HZ1.out.1 HZ1.out.2.1 HZ1.out.2.2.1 HZ1.out.2.2.2 hk2 hl2);have HQ2:=aA hq2;have hz2:=HZ2.out.1.size;clear hk2 hq2 hl2)
     | (go_at_call 83;refine (aB C126).mono ?_;rintro e w1 ⟨rfl,hg1,hp1⟩;have HZ1:=aA (tQ HL.out.q HL.out.kept HL.out.row HL.out.atoms hg1 hp1);clear hg1 hp1)
     | go_in)
    go_ret2
    refine ⟨HZ4.out.2.1,?_⟩
    rw [HR.out]
    exact ⟨_,_,_,rfl,HZ4.out.1,HZ4.out.2.2.1,HZ4.out.2.2.2,rfl⟩
end
abbrev Pc:=(Nat×List (Lt×Value))×Value
def nF (CV:List Pc):List Value:=CV.flatMap fun p=>[.int .i64 p.1.1,p.2]
theorem aJv (CV:List Pc) (p:Pc):nF (CV++[p])=nF CV++[.int .i64 p.1.1,p.2]:=by simp [nF]
structure eN (B:Nat) (w:World) (vC:Value) (CV:List Pc):Prop where
 row:w.ownsRow B 111 2 vC CV.length (nF CV)
 each:∀p∈CV,oD w B (p.1.2,p.2)
def gS (p:Pc):Nat×List Lt:=(p.1.1,p.1.2.map Prod.fst)
structure pW (B:Nat) (w:World) (pb:Nat) (s:ByteArray) (T:List Tk) (st:aV) (g:Nat) (vC vP:Value) (CV:List Pc):Prop where
 pp:∃vM,cL B w pb s T st.i g vC vP vM
 places:w.ownsRow B 3 1 vP st.places.length (lL st.places)
 cs:eN B w vC CV
theorem eN.keep {B:Nat} {w w':World} {vC:Value} {CV:List Pc} (h:eN B w vC CV) (k:∀e size v n xs,(e=111∨e=66∨e=28)→(e=111→v=vC)→w.ownsRow B e size v n xs→w'.ownsRow B e size v n xs):eN B w' vC CV:=
 ⟨k _ _ _ _ _ (Or.inl rfl) (fun _=>rfl) h.row,fun p hp=>⟨k _ _ _ _ _ (Or.inr (Or.inl rfl)) (fun e=>absurd e (by decide)) (h.each p hp).1,fun q hq=>k _ _ _ _ _ (Or.inr (Or.inr rfl)) (fun e=>absurd e (by decide)) ((h.each p hp).2 q hq)⟩⟩
theorem eN.below {B:Nat} {w w':World} {vC:Value} {CV:List Pc} (h:eN B w vC CV) (k:Below w.heap.size w w'):eN B w' vC CV:=
 h.keep fun _ _ _ _ _ _ _ ho=>aY ho k (Nat.le_refl _)
theorem yW {e:TypeId} (h:e=111∨e=66∨e=28):e≠78∧e≠3:=by
 rcases h with rfl | rfl | rfl <;> decide
theorem eN.take {B:Nat} {w w':World} {vC:Value} {CV:List Pc} {pb:Nat} {left:Value} {k a:Int} {wd:ByteArray} {vC' vP vM:Value} (h:eN B w vC CV) (hb:bF w pb left k a wd vC' vP vM) (hg:w.grownBy w' (some pb)):eN B w' vC CV:=
 h.keep fun _ _ _ _ _ he _ ho=>ho.kept hg (hb.apart ho (yW he).1)
theorem eN.kept {B mg n:Nat} {w w':World} {vC:Value} {CV:List Pc} {D:DataW Unit} (h:eN B w vC CV) (hm:w.ownsMap Tryz.prog 9 lB mg n D) (hk:bH B w.heap.size mg w w'):eN B w' vC CV:=
 h.keep fun _ _ _ _ _ he _ ho=>hk.own ho ⟨(yW he).2,(yW he).1⟩ (fun _=>Nat.le_refl _) (pZ ho hm)
theorem wB {B:Nat} {w:World} {e t:TypeId} {size:Nat} {v:Value} {n:Nat} {xs:List Value} {lb:Nat} {cs:Array Value} {fr:Nat×Nat} (ho:w.ownsRow B e size v n xs) (ht:w.heap[lb]?=some (.cells cs t fr)) (he:e≠t):v.ownBlock≠some lb:=by
 intro e'
 obtain ⟨_,⟨rfl,_⟩ | ⟨g',cap,cur,rfl,_,hh,_⟩⟩:=ho
 ·simp [Value.ownBlock] at e'
 ·simp [Value.ownBlock] at e'
  subst e'
  rw [hh] at ht
  simp at ht
  exact he ht.2.1
theorem bJ.other {B:Nat} {w w':World} {pb:Nat} {s:ByteArray} {T:List Tk} {st:aV} {g mg:Nat} {vC vP:Value} {lb:Nat} {cs:Array Value} {fr:Nat×Nat} (h:bJ B w pb s T st g vC vP mg) (ht:w.heap[lb]?=some (.cells cs 111 fr)) (hg:w.grownBy w' (some lb)):bJ B w' pb s T st g vC vP mg:=by
 obtain ⟨D,h1,h2⟩:=h.map
 obtain ⟨left,hb,_⟩:=h.pp.box
 obtain ⟨cs',fr',hgl⟩:=h.pp.glyph
 refine ⟨h.pp.far hg ?_ ?_,h.places.kept hg (Or.inr (wB h.places ht (by decide))),⟨D,h1.kept hg ?_,h2⟩,h.mhigh⟩
 ·intro e
  simp at e
  subst e
  unfold bF at hb
  rw [ht] at hb
  simp at hb
 ·intro e
  simp at e
  subst e
  rw [ht] at hgl
  simp at hgl
 ·intro e
  simp at e
  subst e
  obtain ⟨es,cl,hh,_⟩:=h1
  rw [ht] at hh
  cases hh
theorem eN.other {B:Nat} {w w':World} {vC:Value} {CV:List Pc} {lb:Nat} {cs:Array Value} {fr:Nat×Nat} (h:eN B w vC CV) (ht:w.heap[lb]?=some (.cells cs 111 fr)) (hne:vC.ownBlock≠some lb) (hg:w.grownBy w' (some lb)):eN B w' vC CV:=
 h.keep fun e _ _ _ _ he hv ho=>ho.kept hg (Or.inr (by
  by_cases h5:e=111
  ·rw [hv h5];exact hne
  ·exact wB ho ht h5))
theorem bJ.setC {B:Nat} {w:World} {pb:Nat} {s:ByteArray} {T:List Tk} {st:aV} {g mg:Nat} {vC vP:Value} (h:bJ B w pb s T st g vC vP mg) (v:Value):bJ B (w.setCell ⟨pb,4,none⟩ v) pb s T st g v vP mg:=by
 obtain ⟨D,h1,h2⟩:=h.map
 obtain ⟨q,j,m,c,hP⟩:=h.pp
 have hb:=hP.sc.box
 exact ⟨⟨q,j,m,c,⟨heap_setCell_same w pb 4 _ _ _ hb,hP.sc.high,hb.row hP.sc.row (by decide) _ _,hP.sc.len,hP.sc.drop,hP.sc.le⟩,hP.lt,hP.on⟩,hb.row h.places (by decide) _ _,⟨D,h1.setCell (fun e=>wJ hb h1 e.symm) _,h2⟩,h.mhigh⟩
theorem aJw {B:Nat} {w:World} {pb:Nat} {s:ByteArray} {T:List Tk} {st:aV} {g:Nat} {vC vP:Value} {CV:List Pc} (h:pW B w pb s T st g vC vP CV) (hBw:B≤w.heap.size) (cs:Array Value) {W:World} (hW:W=((w.alloc (.cells cs 111)).alloc (.map #[] 0)).setCell ⟨pb,6,none⟩ (.map (some (w.heap.size+1)))) :
  bJ B W pb s T ⟨st.i,[],st.places⟩ g vC vP (w.heap.size+1)∧eN B W vC CV∧Below B w W∧W.heap[w.heap.size]?=some (.cells cs 111):=by
 subst hW
 have hA:=((Below.refl w.heap.size w).alloc (Nat.le_refl _) (.cells cs 111)).alloc (by simp) (.map #[] 0)
 obtain ⟨vM,hp⟩:=h.pp
 obtain ⟨left0,hb0,hBp⟩:=hp.box
 have hlt:=hb0.lt
 have hp1:=hp.below hA
 obtain ⟨q,j,m,c,hP⟩:=hp1
 have hb:=hP.sc.box
 have hpl:=aY h.places hA (Nat.le_refl _)
 have hcs:=h.cs.below hA
 have hm:((w.alloc (.cells cs 111)).alloc (.map #[] 0)).ownsMap Tryz.prog 9 lB (w.heap.size+1) 0 (.map []):=by
  have:=World.ownsMap_made (P:=Tryz.prog) (w.alloc (.cells cs 111)) 9 lB
  simpa using this
 refine ⟨⟨⟨q,j,m,c,⟨heap_setCell_same _ pb 6 _ _ _ hb,hP.sc.high,hb.row hP.sc.row (by decide) _ _,hP.sc.len,hP.sc.drop,hP.sc.le⟩,hP.lt,hP.on⟩,hb.row hpl (by decide) _ _,⟨.map [],hm.setCell (fun e=>by simp at e;omega) _,nG.start⟩,by omega⟩,hcs.take hb (bZ _ _ _),?_,?_⟩
 ·refine ⟨hA.os,hA.tape,hA.output,by simp [World.setCell];omega,fun k hk=>?_⟩
  rw [Below.heap_setCell _ _ _ _ (show k≠pb by omega)]
  exact hA.block k (by omega)
 ·rw [Below.heap_setCell _ _ _ _ (show w.heap.size≠pb by omega)]
  show ((w.heap.push _).push _)[w.heap.size]?=_
  rw [Array.getElem?_push_lt (by simp)]
  simp
theorem aCw {B:Nat} {w w2 w3:World} {pb:Nat} {s:ByteArray} {T:List Tk} {st:aV} {g mg:Nat} {vC vP v3 vl:Value} {CV:List Pc} {X:Obj} {a:Nat} {P:List (Lt×Value)} (hq:bJ B w2 pb s T st g vC vP mg) (hc:eN B w2 vC CV) (hb:Below B w w2) (hBw:B≤w.heap.size) (hr:oD w2 B (P,vl)) (ho:w3.ownsRow B 111 2 v3 (CV.length+1) (nF CV++[.int .i64 a,vl])) (hg:(w2.alloc X).grownBy w3 vC.ownBlock) :
  w3.cell? ⟨pb,4,none⟩=some vC∧w3.frozen? ⟨pb,4,none⟩=false∧bJ B (w3.setCell ⟨pb,4,none⟩ v3) pb s T st g v3 vP mg∧eN B (w3.setCell ⟨pb,4,none⟩ v3) v3 (CV++[((a,P),vl)])∧Below B w (w3.setCell ⟨pb,4,none⟩ v3):=by
 have hA:=(Below.refl w2.heap.size w2).alloc (Nat.le_refl _) X
 have hcA:=hc.below hA
 have hqA:=hq.below hA
 have hq3:=hqA.far hcA.row (by decide) hg
 obtain ⟨left,hb3,hBp⟩:=hq3.pp.box
 have hz:=hb.size
 have e3:∀p∈CV++[((a,P),vl)],oD w3 B (p.1.2,p.2):=by
  intro p hp
  have key:oD (w2.alloc X) B (p.1.2,p.2):=by
   rcases List.mem_append.1 hp with hp | hp
   ·exact hcA.each p hp
   ·simp at hp
    subst hp
    exact ⟨aY hr.1 hA (Nat.le_refl _),fun q hq=>aY (hr.2 q hq) hA (Nat.le_refl _)⟩
  exact ⟨key.1.kept hg (eZ key.1 hcA.row (by decide)),fun q hq=>(key.2 q hq).kept hg (eZ (key.2 q hq) hcA.row (by decide))⟩
 refine ⟨hb3.c4,hb3.soft 4,hq3.setC v3,⟨?_,fun p hp=>⟨hb3.row (e3 p hp).1 (by decide) _ _,fun q hq=>hb3.row ((e3 p hp).2 q hq) (by decide) _ _⟩⟩,?_⟩
 ·refine hb3.row ?_ (by decide) _ _
  rw [aJv,List.length_append]
  exact ho
 ·have s3:=hg.size
  simp at s3
  refine ⟨hg.os.trans (hA.os.trans hb.os),hg.tape.trans (hA.tape.trans hb.tape),hg.output.trans (hA.output.trans hb.output),by simp [World.setCell];omega,fun k hk=>?_⟩
  rw [Below.heap_setCell _ _ _ _ (show k≠pb by omega),hg.block k (by simp;omega) (fun e=>by have:=(bU hcA.row k e.symm).1;omega),hA.block k (by omega),hb.block k hk]
def aCx (B pb:Nat) (w:World) (s:ByteArray) (T:List Tk) (g:Nat) (CV:List Pc) (a:Nat) (r:Except Nat (aV×List Lt)) (e:Ending) (w':World):Prop:=
 Below B w w'∧
  match r with
  | .ok (s1,c)=>∃vC vP P vl,e=.returned (.bool true)∧pW B w' pb s T s1 g vC vP (CV++[((a,P),vl)])∧P.map Prod.fst=c
  | .error p=>∃i vC vP vM,e=.returned (.bool false)∧cL B w' pb s T i g vC vP vM∧(aE T i).pos=p
section
variable {B pb:Nat} {s:ByteArray} {T:List Tk} {g:Nat} {vC vP:Value} {st:aV} {w:World} {CV:List Pc}
theorem aCy (b:Int) (a:Option Addr) (n c:Nat):∀u∈[Value.int .i64 b,Value.slice a n c],u.oneCell'=true:=by
 intro u hu
 simp at hu
 rcases hu with rfl | rfl <;> rfl
theorem aCz:(Tryz.prog.info? 111).map (fun i=>(i.zero,i.size,i.bytes))=some (some (.agg #[.int .i64 0,.slice none 0 0]),2,32):=by kernel_rfl
theorem aD0 {w5 w6:World} {s2:aV} {b46:Bool} {v5 vP2 vl:Value} {mg tp:Nat} {P:List (Lt×Value)} {e:Ending} (hBw:B≤w.heap.size) (hpg:mJ T st=.ok (s2,P.map Prod.fst)) (hb46:decide ((aE T s2.i).kind=46)=b46) (hq:bJ B w5 pb s T s2 g v5 vP2 mg) (hc:eN B w5 v5 (CV++[((tp,P),vl)])) (hb:Below B w w5) (hg:w5.grownBy w6 (some pb)) (hp:cL B w6 pb s T (if (aE T s2.i).kind=46 then s2.i+1 else s2.i) g v5 vP2 (.map (some mg))) (he:e=.returned (.bool b46)) :
  aCx B pb w s T g CV tp (mK T st) e w6:=by
 obtain ⟨left,hbx,hBp⟩:=hq.pp.box
 have hz:=hb.size
 refine ⟨hb.grown hg (by omega) (by simpa using hBp),?_⟩
 unfold mK
 rw [hpg]
 simp only
 by_cases h46:(aE T s2.i).kind=46
 ·rw [if_pos h46] at hp ⊢
  rw [decide_eq_true h46] at hb46
  subst hb46
  exact ⟨v5,vP2,P,vl,he,⟨⟨_,hp⟩,hq.places.kept hg (hbx.apart hq.places (by decide)),hc.take hbx hg⟩,rfl⟩
 ·rw [if_neg h46] at hp ⊢
  rw [decide_eq_false h46] at hb46
  subst hb46
  exact ⟨_,_,_,_,he,hp,rfl⟩
structure pX (B pb:Nat) (w w1:World) (s:ByteArray) (T:List Tk) (st:aV) (g:Nat) (vC vP:Value) (mg:Nat) (CV:List Pc) (lb tp:Nat) (v:Value):Prop where
 q:bJ B w1 pb s T st g vC vP mg
 cs:eN B w1 vC CV
 low:Below B w w1
 box:w1.heap[lb]?=some (.cells #[.int .i64 tp,v] 111)
 size:B≤w1.heap.size
theorem aJx {W w1:World} {mg lb tp:Nat} {v:Value} {s1:aV} (hq:bJ B W pb s T s1 g vC vP mg) (hc:eN B W vC CV) (hb:Below B w W) (hBw:B≤w.heap.size) (hx:W.heap[lb]?=some (.cells #[.int .i64 tp,v] 111)) {i':Nat} (hg:W.grownBy w1 (some pb)) (hp:cL B w1 pb s T i' g vC vP (.map (some mg))):pX B pb w w1 s T ⟨i',s1.vars,s1.places⟩ g vC vP mg CV lb tp v:=by
 obtain ⟨left,hbx,hBp⟩:=hq.pp.box
 have hz:=hb.size
 have hz1:=hg.size
 refine ⟨hq.take hg hp,hc.take hbx hg,hb.grown hg (by omega) (by simpa using hBp),?_,by omega⟩
 rw [hg.block lb (Array.getElem?_eq_some_iff.1 hx).1 ?_]
 ·exact hx
 ·intro e
  simp at e
  subst e
  unfold bF at hbx
  rw [hx] at hbx
  simp at hbx
theorem pX.boxKept {w1 w3:World} {mg lb tp:Nat} {v:Value} {s1:aV} (h:pX B pb w w1 s T s1 g vC vP mg CV lb tp v) (hk:bH B w1.heap.size mg w1 w3):w3.heap[lb]?=some (.cells #[.int .i64 tp,v] 111):=by
 rw [hk.block lb (Array.getElem?_eq_some_iff.1 h.box).1 (Or.inr ⟨?_,fun cs t fr hx=>?_⟩)]
 ·exact h.box
 ·rintro rfl
  obtain ⟨D,⟨es,cl,hh,_⟩,_⟩:=h.q.map
  have:=h.box
  rw [hh] at this
  cases this
 ·rw [h.box] at hx
  simp at hx
  obtain ⟨_,rfl,_⟩:=hx
  exact ⟨by decide,by decide,fun e=>absurd e (by decide)⟩
theorem pX.err {w1 w3:World} {mg lb tp:Nat} {v:Value} {s1:aV} (h:pX B pb w w1 s T s1 g vC vP mg CV lb tp v) (hBw:B≤w.heap.size) (hlb:B≤lb) (hk:bH B w1.heap.size mg w1 w3) {i:Nat} {vP3 vM3:Value} (hp:cL B w3 pb s T i g vC vP3 vM3) (u:Value) :
  w3.cell? ⟨lb,1,none⟩=some v∧w3.frozen? ⟨lb,1,none⟩=false∧Below B w (w3.setCell ⟨lb,1,none⟩ u)∧cL B (w3.setCell ⟨lb,1,none⟩ u) pb s T i g vC vP3 vM3:=by
 have hx:=h.boxKept hk
 obtain ⟨left,hbx,hBp⟩:=hp.box
 obtain ⟨cs,fr,hgl⟩:=hp.glyph
 have hlow:=h.low.trans (hk.below h.size)
 have hz:=hlow.size
 refine ⟨by unfold World.cell?;rw [hx];rfl,by unfold World.frozen?;rw [hx];rfl,hlow.grown (bZ _ _ _) (by omega) (by simpa using hlb),hp.far (bZ _ _ _) ?_ ?_⟩
 ·intro e
  simp at e
  subst e
  unfold bF at hbx
  rw [hx] at hbx
  simp at hbx
 ·intro e
  simp at e
  subst e
  rw [hx] at hgl
  simp at hgl
theorem pX.ok {w1 w3:World} {mg lb tp:Nat} {v:Value} {s1 s2:aV} (h:pX B pb w w1 s T s1 g vC vP mg CV lb tp v) (hBw:B≤w.heap.size) (hlb:B≤lb) (hne:vC.ownBlock≠some lb) (hk:bH B w1.heap.size mg w1 w3) {vP3 vc:Value} {P:List (Lt×Value)} (hq:bJ B w3 pb s T s2 g vC vP3 mg) (hr:w3.ownsRow w1.heap.size 66 2 vc P.length (aU P)) (ha:∀q∈P,w3.ownsRow w1.heap.size 28 2 q.2 q.1.2.length (aQ q.1.2)) :
  w3.cell? ⟨lb,1,none⟩=some v∧w3.frozen? ⟨lb,1,none⟩=false∧pX B pb w (w3.setCell ⟨lb,1,none⟩ vc) s T s2 g vC vP3 mg CV lb tp vc∧oD (w3.setCell ⟨lb,1,none⟩ vc) B (P,vc):=by
 have hx:=h.boxKept hk
 obtain ⟨D,hm,_⟩:=h.q.map
 have hlow:=h.low.trans (hk.below h.size)
 have hz:=hlow.size
 have hg:=bZ w3 ⟨lb,1,none⟩ vc
 have hs1:=h.size
 refine ⟨by unfold World.cell?;rw [hx];rfl,by unfold World.frozen?;rw [hx];rfl,⟨hq.other hx hg,(h.cs.kept hm hk).other hx hne hg,hlow.grown hg (by omega) (by simpa using hlb),heap_setCell_same w3 lb 1 _ _ _ hx,by have:=hg.size;omega⟩,(fG hr hs1).kept hg (Or.inr (wB hr hx (by decide))),fun q hq'=>(fG (ha q hq') hs1).kept hg (Or.inr (wB (ha q hq') hx (by decide)))⟩
set_option maxHeartbeats 4000000 in
theorem aJy (hT:∀i,(aE T i).kind∈fO) (hx:∀i,(aE T i).txt.size≤1000000) (hs:s.size≤3000) (hTl:T.length≤1000000) (h:pW B w pb s T st g vC vP CV) (hBw:B≤w.heap.size) (hp1:st.places.length≤st.i) (hc1:CV.length≤st.i) :
  Calls Tryz.prog 52 #[.pointer (some ⟨pb,0,none⟩)] w fun e w'=>aCx B pb w s T g CV (aE T st.i).pos (mK T st) e w':=by
 have hmm:=@run_makeMap Tryz.prog
 obtain ⟨vM,hpp⟩:=h.pp
 have hlt:=hpp.lt
 obtain ⟨left,hb,_⟩:=hpp.box
 have d2:=hb.c2
 have d2A:∀o,(w.alloc o).cell? ⟨pb,2,none⟩=some (.int .i64 (aE T st.i).pos):=fun o=>Below.at' ((Below.refl w.heap.size w).alloc (Nat.le_refl _) o) (Nat.le_refl _) d2
 have d6:=hb.c6
 have f6:=hb.soft 6
 have hpl:=hb.lt
 obtain ⟨va,vac,rfl⟩:=aR h.cs.row
 have HH:=aA h
 have HT:=aA hT
 have HX:=aA hx
 clear h hb hpp hT hx
 obtain ⟨tp,htp⟩ : ∃tp,(aE T st.i).pos=tp:=⟨_,rfl⟩
 rw [htp] at d2
 simp only [htp] at d2A ⊢
 have HTP:=aA htp
 clear htp
 go_enter Tryz.func52,Tryz.ntmps52
 go_upto_region 3 with (fail)
 have hW:((w.setCell ⟨pb,6,none⟩ (.map (some (w.heap.size+1)))).alloc (.cells #[.int .i64 tp,.slice none 0 0] 111)).alloc (.map #[] 0)=((w.alloc (.cells #[.int .i64 tp,.slice none 0 0] 111)).alloc (.map #[] 0)).setCell ⟨pb,6,none⟩ (.map (some (w.heap.size+1))):=by
  rw [World.setCell_alloc_past _ _ _ _ (by simp;omega),World.setCell_alloc_past _ _ _ _ hpl]
 have hst:=aJw HH.out hBw #[.int .i64 tp,.slice none 0 0] hW
 have hwz:w.heap.size < (((w.setCell ⟨pb,6,none⟩ (.map (some (w.heap.size+1)))).alloc (.cells #[.int .i64 tp,.slice none 0 0] 111)).alloc (.map #[] 0)).heap.size:=by simp [World.setCell];omega
 generalize ((w.setCell ⟨pb,6,none⟩ (.map (some (w.heap.size+1)))).alloc (.cells #[.int .i64 tp,.slice none 0 0] 111)).alloc (.map #[] 0)=W at *
 have hne:=qI HH.out.cs.row
 generalize w.heap.size+1=mg at *
 have hBw':=hBw
 obtain ⟨lb,hlb⟩ : ∃lb,w.heap.size=lb:=⟨_,rfl⟩
 rw [hlb] at hwz hne hst hBw hpl
 simp only [hlb]
 obtain ⟨hQ,hC,hB,hX⟩:=hst
 clear hW d2 d2A d6 f6
 have HQ:=aA hQ
 have HC:=aA hC
 have HB:=aA hB
 have HXB:=aA hX
 clear hQ hC hB hX
 have C36:=aA (kK 102 (by decide) (by decide) (by decide) HT.out hs HQ.out.pp)
 rw [show cU 102=36 from rfl] at C36
 by_cases h102:(aE T st.i).kind=102
 ·rw [if_pos h102,decide_eq_true h102] at C36
  go_upto_region 8 with (first
   | (go_at_call 83;refine (aB C36).mono ?_;rintro e w2 ⟨rfl,hg1,hp1⟩;have HG1:=aA hg1;have HP1:=aA hp1;clear hg1 hp1)
   | go_in)
  have hq1:=HQ.out.take HG1.out HP1.out
  obtain ⟨leftW,hbW,hBpW⟩:=HQ.out.pp.box
  have hc1':=HC.out.take hbW HG1.out
  have hb1:Below B w w2:=HB.out.grown HG1.out (by have:=HB.out.size;omega) (by simpa using hBpW)
  have hx1:w2.heap[lb]?=some (.cells #[.int .i64 tp,.slice none 0 0] 111):=by rw [HG1.out.block lb hwz (by simp;omega)];exact HXB.out
  have HQ2:=aA hq1
  have HC2:=aA hc1'
  have HB2:=aA hb1
  have HX2:=aA hx1
  have HPG:Hid (mJ T st=.ok (⟨st.i+1,[],st.places⟩,[])):=aA (by rw [mJ,if_pos h102])
  clear hq1 hbW hc1' hb1 hx1 HQ HC HB HXB HG1 HP1 C36
  obtain ⟨left2,hb2,hBp⟩:=HQ2.out.pp.box
  have p4:=hb2.c4
  have t0:w2.cell? ⟨lb,0,none⟩=some (.int .i64 tp):=by unfold World.cell?;rw [HX2.out];rfl
  have t1:w2.cell? ⟨lb,1,none⟩=some (.slice none 0 0):=by unfold World.cell?;rw [HX2.out];rfl
  have p4A:∀o,(w2.alloc o).cell? ⟨pb,4,none⟩=some (.slice va CV.length vac):=fun o=>Below.at' ((Below.refl w2.heap.size w2).alloc (Nat.le_refl _) o) (Nat.le_refl _) p4
  have hz2:=HB2.out.size
  clear hb2
  go_cut [] (fun wx=>∃v5,bJ B wx pb s T ⟨st.i+1,[],st.places⟩ g v5 vP mg∧eN B wx v5 (CV++[((tp,[]),.slice none 0 0)])∧Below B w wx)
  case first=>
   refine rM ?_
   have hq2d:=aA (HQ2.out.below (aN (w1:=w2.drew) ⟨1,rfl⟩))
   have hc2d:=aA (HC2.out.below (aN (w1:=w2.drew) ⟨1,rfl⟩))
   have hb2d:Hid (Below B w w2.drew):=aA ⟨HB2.out.os,HB2.out.tape,HB2.out.output,HB2.out.size,HB2.out.block⟩
   have hr2d:Hid (oD w2.drew B ([],.slice none 0 0)):=aA ⟨World.ownsRow_nil _ _ _ _,fun q hq=>by simp at hq⟩
   go_region_law (refine mL ?g1 (.tmp 30) (.tmp 32) 75 111 ?g2 (.agg #[.int .i64 0,.slice none 0 0]) 2 32 Tryz.underlying75 aCz ?g3 ?g4 ?g5 B _ CV.length (nF CV) ?g6 (hc2d.out.row.alloc _) ?g7 ?g8 w2.heap.size 1 [.int .i64 tp,.slice none 0 0] ?g9 ?g10 (iB w2.drew _ _ 111 w2.heap.size rfl) (aCy _ _ _ _) ?_;(case g1=>rfl);(case g2=>rfl);(case g3=>rfl);(case g4=>decide);(case g5=>decide);(case g6=>rfl);(case g7=>omega);(case g8=>(simp;omega));(case g9=>rfl);(case g10=>rfl);intro v3 w3 ho3 hg3;obtain ⟨c4,f4,hp3⟩:=aCw hq2d.out hc2d.out hb2d.out hBw' hr2d.out ho3 hg3;have HP3:=aA hp3;obtain ⟨va3,vc3,rfl⟩:=aR ho3;clear ho3 hg3 hp3)
   all_goals
    refine oZ ?_
    go_wp2_with fail
    go_meet
    case rel=>exact ⟨_,HP3.out⟩
  case rest=>
   obtain ⟨v5,hQ5,hC5,hB5⟩:=hcut
   have C46:=aA (kK 46 (by decide) (by decide) (by decide) HT.out hs hQ5.pp)
   rw [show cU 46=46 from rfl] at C46
   have HQ5:=aA hQ5
   have HC5:=aA hC5
   have HB5:=aA hB5
   clear hQ5 hC5 hB5 HQ2 HC2 HB2 HX2 p4 p4A t0 t1
   obtain ⟨b46,hb46⟩ : ∃b,decide ((aE T (⟨st.i+1,[],st.places⟩ : aV).i).kind=46)=b:=⟨_,rfl⟩
   rw [hb46] at C46
   go_wp2_with (first
    | (go_at_call 83;refine (aB C46).mono ?_;rintro e w6 ⟨rfl,hg6,hp6⟩;have HG6:=aA hg6;have HP6:=aA hp6;clear hg6 hp6)
    | go_in)
   go_ret
   exact aD0 hBw' HPG.out hb46 HQ5.out HC5.out HB5.out HG6.out HP6.out rfl
 ·rw [if_neg h102,decide_eq_false h102] at C36
  have HPB:Hid (mJ T st=gL T (T.length+1) ⟨st.i,[],st.places⟩ []):=aA (by rw [mJ,if_neg h102])
  have CL:=aA (fun w1 (hq1:bJ B w1 pb s T ⟨st.i,[],st.places⟩ g (.slice va CV.length vac) vP mg) (hB1:B≤w1.heap.size)=>aJu HT.out HX.out hs hTl hq1 hB1 hp1 (Nat.zero_le _))
  have HZ0:=aA (fun w1 (hg1:W.grownBy w1 (some pb)) (hp1:cL B w1 pb s T st.i g (.slice va CV.length vac) vP (.map (some mg)))=>aJx HQ.out HC.out HB.out hBw' HXB.out hg1 hp1)
  cases hq:gL T (T.length+1) ⟨st.i,[],st.places⟩ [] with
  | error p=>
   rw [hq] at CL
   have HPG:Hid (mK T st=.error p):=aA (by rw [mK,HPB.out,hq])
   clear hq HPB HQ HC HB HXB
   go_wp2_with (first
    | (go_at_call 83;refine (aB C36).mono ?_;rintro e w1 ⟨rfl,hg1,hp1⟩;have HZ1:=aA (HZ0.out w1 hg1 hp1);clear hg1 hp1)
    | (go_at_call 84;refine (CL.out _ HZ1.out.q HZ1.out.size).mono ?_;rintro e w3 ⟨hk3,a3,n3,c3,i3,vP3,vM3,rfl,hp3,hpos⟩;obtain ⟨t1,f1,hz3⟩:=HZ1.out.err hBw' hBw hk3 hp3 (.slice a3 n3 c3);have HZ3:=aA hz3;have HPO:=aA hpos;clear hk3 hp3 hpos hz3)
    | go_in)
   go_ret
   refine ⟨HZ3.out.1,?_⟩
   rw [HPG.out]
   exact ⟨_,_,_,_,rfl,HZ3.out.2,HPO.out⟩
  | ok y=>
   obtain ⟨s2,c⟩:=y
   rw [hq] at CL
   have HPG0:Hid (mJ T st=.ok (s2,c)):=aA (by rw [HPB.out,hq])
   clear hq HPB HQ HC HB HXB
   go_upto_region 8 with (first
    | (go_at_call 83;refine (aB C36).mono ?_;rintro e w1 ⟨rfl,hg1,hp1⟩;have HZ1:=aA (HZ0.out w1 hg1 hp1);clear hg1 hp1)
    | (go_at_call 84;refine (CL.out _ HZ1.out.q HZ1.out.size).mono ?_;rintro e w3 ⟨hk3,P,vcl,vP2,rfl,hq3,hr3,ha3,hPc⟩;obtain ⟨la,lac,rfl⟩:=aR hr3;obtain ⟨t1,f1,hz3,hcl3⟩:=HZ1.out.ok hBw' hBw hne hk3 hq3 hr3 ha3;have HZ3:=aA hz3;have HCL:=aA hcl3;have HPC:=aA hPc;clear hk3 hq3 hr3 ha3 hz3 hPc hcl3)
    | go_in)
   have HPG:Hid (mJ T st=.ok (s2,P.map Prod.fst)):=aA (by rw [HPG0.out,HPC.out])
   clear HZ0 CL C36 HZ1 HPG0 HPC t1 f1
   generalize w3.setCell ⟨lb,1,none⟩ (.slice la P.length lac)=w2 at *
   have HQ2:=aA HZ3.out.q
   have HC2:=aA HZ3.out.cs
   have HB2:=aA HZ3.out.low
   have HX2:=aA HZ3.out.box
   have HR2:=aA HCL.out
   clear HZ3 HCL
   obtain ⟨left2,hb2,hBp⟩:=HQ2.out.pp.box
   have p4:=hb2.c4
   have t0:w2.cell? ⟨lb,0,none⟩=some (.int .i64 tp):=by unfold World.cell?;rw [HX2.out];rfl
   have t1:w2.cell? ⟨lb,1,none⟩=some (.slice la P.length lac):=by unfold World.cell?;rw [HX2.out];rfl
   have p4A:∀o,(w2.alloc o).cell? ⟨pb,4,none⟩=some (.slice va CV.length vac):=fun o=>Below.at' ((Below.refl w2.heap.size w2).alloc (Nat.le_refl _) o) (Nat.le_refl _) p4
   have hz2:=HB2.out.size
   clear hb2
   go_cut [] (fun wx=>∃v5,bJ B wx pb s T s2 g v5 vP2 mg∧eN B wx v5 (CV++[((tp,P),.slice la P.length lac)])∧Below B w wx)
   case first=>
    refine rM ?_
    have hq2d:=aA (HQ2.out.below (aN (w1:=w2.drew) ⟨1,rfl⟩))
    have hc2d:=aA (HC2.out.below (aN (w1:=w2.drew) ⟨1,rfl⟩))
    have hb2d:Hid (Below B w w2.drew):=aA ⟨HB2.out.os,HB2.out.tape,HB2.out.output,HB2.out.size,HB2.out.block⟩
    have hr2d:Hid (oD w2.drew B (P,.slice la P.length lac)):=aA HR2.out
    go_region_law (refine mL ?g1 (.tmp 30) (.tmp 32) 75 111 ?g2 (.agg #[.int .i64 0,.slice none 0 0]) 2 32 Tryz.underlying75 aCz ?g3 ?g4 ?g5 B _ CV.length (nF CV) ?g6 (hc2d.out.row.alloc _) ?g7 ?g8 w2.heap.size 1 [.int .i64 tp,.slice la P.length lac] ?g9 ?g10 (iB w2.drew _ _ 111 w2.heap.size rfl) (aCy _ _ _ _) ?_;(case g1=>rfl);(case g2=>rfl);(case g3=>rfl);(case g4=>decide);(case g5=>decide);(case g6=>rfl);(case g7=>omega);(case g8=>(simp;omega));(case g9=>rfl);(case g10=>rfl);intro v3 w3 ho3 hg3;obtain ⟨c4,f4,hp3⟩:=aCw hq2d.out hc2d.out hb2d.out hBw' hr2d.out ho3 hg3;have HP3:=aA hp3;obtain ⟨va3,vc3,rfl⟩:=aR ho3;clear ho3 hg3 hp3)
    all_goals
     refine oZ ?_
     go_wp2_with fail
     go_meet
     case rel=>exact ⟨_,HP3.out⟩
   case rest=>
    obtain ⟨v5,hQ5,hC5,hB5⟩:=hcut
    have C46:=aA (kK 46 (by decide) (by decide) (by decide) HT.out hs hQ5.pp)
    rw [show cU 46=46 from rfl] at C46
    have HQ5:=aA hQ5
    have HC5:=aA hC5
    have HB5:=aA hB5
    clear hQ5 hC5 hB5 HQ2 HC2 HB2 HX2 p4 p4A t0 t1
    obtain ⟨b46,hb46⟩ : ∃b,decide ((aE T (s2:aV).i).kind=46)=b:=⟨_,rfl⟩
    rw [hb46] at C46
    go_wp2_with (first
     | (go_at_call 83;refine (aB C46).mono ?_;rintro e w6 ⟨rfl,hg6,hp6⟩;have HG6:=aA hg6;have HP6:=aA hp6;clear hg6 hp6)
     | go_in)
    go_ret
    exact aD0 hBw' HPG.out hb46 HQ5.out HC5.out HB5.out HG6.out HP6.out rfl
end
end Go.Proofs.YthicbnejchpmgaaGreatDoor
