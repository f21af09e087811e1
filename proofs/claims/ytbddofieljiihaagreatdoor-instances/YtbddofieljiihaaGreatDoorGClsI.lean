/- Pure: what is read is clauses in order. Pure: what is read is clauses in order: their order. Conclusions from atoms without parts; from p(a) and p(X). Covers, of two clauses of one literal each whose signs are not alike, and of a longer clause than the other: it does not. The search at the text 'p. ~p.'. Covers, of any clauses in memory. Clauses of atoms without parts: what follows from them, and what they cover, reckoned. The search at two texts: 'p. ~p | q. ~q.' and 'p. ~p | q.'. -/
import Derived.Test.YtbddofieljiihaaGreatDoorGOrdI
import Derived.Test.YtbddofieljiihaaGreatDoorXIResI
import Derived.Test.YtbddofieljiihaaGreatDoorXSr4I
namespace Go.Proofs.YtbddofieljiihaaGreatDoor
open Go.RowKit
set_option maxRecDepth 100000
theorem aK3 (s:ByteArray):∀f name p n e,eI s f name p=some (n,e)→dW n=true:=by
 intro f
 induction f with
 | zero=>intro name p n e h;simp [eI] at h
 | succ f ih=>
  intro name p n e h
  rw [eI] at h
  split at h
  ·split at h
   ·split at h
    ·rename_i hn
     simp only [Option.some.injEq,Prod.mk.injEq] at h
     rw [←h.1]
     exact hn
    ·simp at h
   ·split at h
    ·split at h
     ·exact ih _ _ _ _ h
     ·simp at h
    ·split at h
     ·simp at h
     ·exact ih _ _ _ _ h
  ·simp at h
theorem aK4 (s:ByteArray):∀f p i,p≤i→i < nU s f p→fA (aC s i)=true:=by
 intro f
 induction f with
 | zero=>intro p i h1 h2;simp [nU] at h2;omega
 | succ f ih=>
  intro p i h1 h2
  rw [nU] at h2
  split at h2
  ·rename_i h
   by_cases hi:i=p
   ·subst hi;exact h.2
   ·exact ih (p+1) i (by omega) h2
  ·omega
theorem aK5 {c:Int} (h:fA c=true):c < 128∧c≠10∧0≤c:=by
 unfold fA eH eD pZ at h
 simp at h
 omega
theorem aK6 (n:ByteArray) (h:∀i,i < n.size→aC n i < 128∧aC n i≠10) (h20:n.size≤20):∀f p m,n.size - p≤f→p≤n.size→p=m→1≤n.size→eW n f p m=true:=by
 intro f
 induction f with
 | zero=>
  intro p m h1 h2 h3 h4
  simp [eW]
  omega
 | succ f ih=>
  intro p m h1 h2 h3 h4
  rw [eW]
  split
  ·rename_i hp
   obtain ⟨k1,k2⟩:=h p hp
   have hz:cK (aC n p)=1:=by unfold cK;rw [if_pos k1]
   have hc:bD n p=1:=by rw [qL n p (by omega),hz]
   rw [if_neg (by rw [hc];omega),hc]
   exact ih (p+1) (m+1) (by omega) (by omega) (by omega) h4
  ·simp
   omega
theorem aK7 {s:ByteArray} {a b i:Nat} (hb:b≤s.size) (hi:i < b - a):aC (s.extract a b) i=aC s (a+i):=by
 have h1:i < (s.extract a b).size:=by rw [ByteArray.size_extract];omega
 have h2:a+i < s.size:=by omega
 rw [kR _ _ h1,kR _ _ h2]
 congr 1
 exact ByteArray.getElem_extract h1
theorem aK8 {s:ByteArray} {k e:Nat} {t:Tk} (hk:k < s.size) (h:dZ s k=.tok t e) (h110:t.kind=110):dW t.txt=true:=by
 unfold dZ at h
 split at h
 ·rename_i hl
  split at h
  ·cases h
  ·rename_i h20
   simp only [Nx.tok.injEq] at h
   rw [←h.1]
   simp only
   have hin:=yZ hl
   have hr:=wQ hk hin
   have hb2:k+1≤dH s (k+1):=aF1 s (k+1)
   have hle:dH s k≤s.size:=aF2 (by omega)
   have hsz:(s.extract k (dH s k)).size=dH s k - k:=by rw [ByteArray.size_extract];omega
   refine aK6 _ (fun i hi=>?_) (by omega) _ 0 0 (by omega) (by omega) rfl (by omega)
   rw [hsz] at hi
   rw [aK7 hle hi]
   have:=aK5 (aK4 s _ k (k+i) (by omega) (by show k+i < dH s k;omega))
   omega
 ·split at h
  ·split at h
   ·rename_i n e' hq
    simp only [Nx.tok.injEq] at h
    rw [←h.1]
    exact aK3 s _ _ _ _ _ hq
   ·cases h
  ·split at h
   ·split at h
    ·simp only [Nx.tok.injEq] at h
     rw [←h.1] at h110
     simp at h110
    ·cases h
   ·split at h
    ·rename_i hm
     simp only [Nx.tok.injEq] at h
     rw [←h.1] at h110
     simp only at h110
     rw [h110] at hm
     simp [nF] at hm
    ·cases h
theorem aK9 (s:ByteArray):∀f k,∀t∈(bU s f k).1,t.kind=110→dW t.txt=true:=by
 intro f
 induction f with
 | zero=>intro k;simp [bU]
 | succ f ih=>
  intro k
  rw [bU]
  split
  ·rename_i hk
   split
   ·exact ih _
   ·split
    ·exact ih _
    ·split
     ·rename_i t e ht
      intro u hu
      rcases List.mem_cons.1 hu with rfl | hu
      ·exact aK8 hk ht
      ·exact ih _ u hu
     ·simp
  ·intro t ht h110
   simp at ht
   rw [ht] at h110
   simp at h110
theorem aKa (s:ByteArray) (f q i:Nat) (h:(aD (dM (bU s f q)) i).kind=110):dW (aD (dM (bU s f q)) i).txt=true:=by
 have key:∀t∈dM (bU s f q),t.kind=110→dW t.txt=true:=by
  intro t ht
  unfold dM at ht
  rcases List.mem_append.1 ht with ht | ht
  ·exact aK9 s _ _ t ht
  ·generalize (bU s f q).2=b at ht
   cases b with
   | none=>simp at ht
   | some p=>
    simp at ht
    rw [ht]
    intro h
    simp at h
 unfold aD at h ⊢
 by_cases hl:i < (dM (bU s f q)).length
 ·rw [List.getD_eq_getElem?_getD,List.getElem?_eq_getElem hl,Option.getD_some] at h ⊢
  exact key _ (List.getElem_mem _) h
 ·rw [List.getD_eq_getElem?_getD,List.getElem?_eq_none (by omega)] at h
  simp [rD] at h
structure PT (k:Nat) (st st':aV) (l l':List Nd) (Q:List Pl) (M:List Nd):Prop where
 pl:st'.places=st.places++Q
 nd:l'=l++M
 tm:lL M k
 nm:∀n∈M,aH n=false→dW n.1=true∧0≤n.2∧∃p∈Q,p.2.2.1=n.2
 vs:∀n∈M,aH n=true→0≤n.2
 ps:∀p∈Q,0≤p.2.2.2
theorem aKb {T:List Tk} (hN:∀i,(aD T i).kind=110→dW (aD T i).txt=true):∀f,(∀atom st l st' l',bZ T f atom st l=.ok (st',l')→∃Q M,PT 1 st st' l l' Q M∧(atom=true→aH (M.headD (⟨#[]⟩,0))=false))∧
  (∀st l n st' l' n',dN T f st l n=.ok (st',l',n')→∃Q M k,n'=n+k∧PT k st st' l l' Q M):=by
 intro f
 induction f with
 | zero=>exact ⟨fun atom st l st' l' h=>by simp [bZ] at h,fun st l n st' l' n' h=>by simp [dN] at h⟩
 | succ f ih=>
  obtain ⟨ih1,ih2⟩:=ih
  constructor
  ·intro atom st l st' l' h
   rw [bZ] at h
   split at h
   ·rename_i hk
    simp only [Except.ok.injEq,Prod.mk.injEq] at h
    obtain ⟨rfl,rfl⟩:=h
    have hw:=lG (rE (kF st.vars (aD T st.i).txt))
    refine ⟨[],[(⟨#[]⟩,kF st.vars (aD T st.i).txt)],⟨by simp,rfl,⟨by simp [dL,hw],by simp [aF,hw]⟩,fun n hn hv=>?_,fun n hn _=>?_,fun p hp=>by simp at hp⟩,fun ha=>?_⟩
    ·simp at hn
     subst hn
     rw [rE] at hv
     cases hv
    ·simp at hn
     subst hn
     exact (aDo _ _).1
    ·rw [ha] at hk
     cases hk.2
   ·split at h
    ·simp at h
    ·rename_i hk110
     simp only [ne_eq,Decidable.not_not] at hk110
     have hnm:=hN _ hk110
     have hne:=aDu (aDv hnm)
     have hvar:∀m:Int,aH ((aD T st.i).txt,m)=false:=fun m=>hne
     split at h
     ·split at h
      ·simp at h
      ·rename_i st1 l1 n1 hq
       simp only [Except.ok.injEq,Prod.mk.injEq] at h
       obtain ⟨rfl,rfl⟩:=h
       obtain ⟨Q,M,k,hk,hp⟩:=ih2 _ _ _ _ _ _ hq
       have hpl:=hp.pl
       have hnd:=hp.nd
       simp only at hpl
       have hn1:n1=k:=by omega
       subst hn1
       have hw:aX ((aD T st.i).txt,(n1:Int))=n1:=by unfold aX;rw [hvar];simp
       refine ⟨((aD T st.i).txt,atom,(n1:Int),((aD T st.i).pos:Int)) :: Q,((aD T st.i).txt,(n1:Int)) :: M,⟨?_,?_,⟨?_,?_⟩,fun n hn hv=>?_,fun n hn hv=>?_,fun p hpm=>?_⟩,fun _=>hvar _⟩
       ·simp only
        rw [hpl,aDq]
        simp
       ·rw [hnd,aDr]
        simp
       ·simp only [dL,hw,Nat.zero_add]
        exact hp.tm.1
       ·have:=hp.tm.2
        simp only [aF,hw,Nat.zero_add,List.length_cons]
        omega
       ·rcases List.mem_cons.1 hn with rfl | hn
        ·exact ⟨hnm,by simp,_,List.mem_cons_self,rfl⟩
        ·obtain ⟨a,b,p,p1,p2⟩:=hp.nm n hn hv
         exact ⟨a,b,p,by simp [p1],p2⟩
       ·rcases List.mem_cons.1 hn with rfl | hn
        ·rw [hvar] at hv;cases hv
        ·exact hp.vs n hn hv
       ·rcases List.mem_cons.1 hpm with rfl | hpm
        ·simp
        ·exact hp.ps p hpm
     ·simp only [Except.ok.injEq,Prod.mk.injEq] at h
      obtain ⟨rfl,rfl⟩:=h
      have hw:aX ((aD T st.i).txt,(0:Int))=0:=by unfold aX;rw [hvar];simp
      refine ⟨[((aD T st.i).txt,atom,0,((aD T st.i).pos:Int))],[((aD T st.i).txt,0)],⟨rfl,rfl,⟨by simp [dL,hw],by simp [aF,hw]⟩,fun n hn _=>?_,fun n hn hv=>?_,fun p hp=>by simp at hp;subst hp;simp⟩,fun _=>hvar _⟩
      ·simp at hn
       subst hn
       exact ⟨hnm,Int.le_refl _,_,List.mem_singleton.2 rfl,rfl⟩
      ·simp at hn
       subst hn
       rw [hvar] at hv
       cases hv
  ·intro st l n st' l' n' h
   rw [dN] at h
   split at h
   ·simp at h
   ·rename_i st1 l1 hp
    obtain ⟨Q,M,q,_⟩:=ih1 _ _ _ _ _ hp
    have q1:=q.pl
    have q2:=q.nd
    simp only at q1
    split at h
    ·obtain ⟨Q2,M2,k2,e2,r⟩:=ih2 _ _ _ _ _ _ h
     refine ⟨Q++Q2,M++M2,1+k2,by omega,by rw [r.pl,q1,List.append_assoc],by rw [r.nd,q2,List.append_assoc],aGa q.tm r.tm,fun m hm hv=>?_,fun m hm hv=>?_,fun p hp=>(List.mem_append.1 hp).elim (q.ps p) (r.ps p)⟩
     ·rcases List.mem_append.1 hm with hm | hm
      ·obtain ⟨a,b,p,p1,p2⟩:=q.nm m hm hv
       exact ⟨a,b,p,by simp [p1],p2⟩
      ·obtain ⟨a,b,p,p1,p2⟩:=r.nm m hm hv
       exact ⟨a,b,p,by simp [p1],p2⟩
     ·rcases List.mem_append.1 hm with hm | hm
      ·exact q.vs m hm hv
      ·exact r.vs m hm hv
    ·split at h
     ·simp only [Except.ok.injEq,Prod.mk.injEq] at h
      obtain ⟨rfl,rfl,rfl⟩:=h
      exact ⟨Q,M,1,rfl,q1,q2,q.tm,q.nm,q.vs,q.ps⟩
     ·simp at h
structure mV (Q:List Pl) (l:List Nd):Prop where
 tm:lL l 1
 nm:∀n∈l,aH n=false→dW n.1=true∧0≤n.2∧∃p∈Q,p.2.2.1=n.2
 vs:∀n∈l,aH n=true→0≤n.2
 hd:aH (l.headD (⟨#[]⟩,0))=false
theorem mV.more {Q Q':List Pl} {l:List Nd} (h:mV Q l) (k:∀p∈Q,p∈Q'):mV Q' l:=
 ⟨h.tm,fun n hn hv=>by obtain ⟨a,b,p,p1,p2⟩:=h.nm n hn hv;exact ⟨a,b,p,k p p1,p2⟩,h.vs,h.hd⟩
theorem aKc {T:List Tk} (hN:∀i,(aD T i).kind=110→dW (aD T i).txt=true):∀f st c st' c',fG T f st c=.ok (st',c')→(∀x∈c,mV st.places x.2)→(∃Q,st'.places=st.places++Q∧∀p∈Q,0≤p.2.2.2)∧∀x∈c',mV st'.places x.2:=by
 intro f
 induction f with
 | zero=>intro st c st' c' h;simp [fG] at h
 | succ f ih=>
  intro st c st' c' h hc
  rw [fG] at h
  split at h
  ·simp at h
  ·rename_i s1 a hp
   obtain ⟨Q,M,q,hd⟩:=(aKb hN _).1 _ _ _ _ _ hp
   have q1:=q.pl
   have q2:=q.nd
   simp only at q1
   simp only [List.nil_append] at q2
   subst q2
   have ha:mV s1.places a:=⟨q.tm,fun n hn hv=>by obtain ⟨x,y,p,p1,p2⟩:=q.nm n hn hv;exact ⟨x,y,p,by rw [q1];simp [p1],p2⟩,q.vs,hd rfl⟩
   have hc1:∀b:Bool,∀x∈c++[(b,a)],mV s1.places x.2:=by
    intro b x hx
    rcases List.mem_append.1 hx with hx | hx
    ·exact (hc x hx).more fun p hp=>by rw [q1];simp [hp]
    ·simp at hx
     subst hx
     exact ha
   split at h
   ·obtain ⟨⟨Q2,r1,r3⟩,r2⟩:=ih _ _ _ _ h (hc1 _)
    exact ⟨⟨Q++Q2,by rw [r1];simp only;rw [q1,List.append_assoc],fun p hp=>(List.mem_append.1 hp).elim (q.ps p) (r3 p)⟩,r2⟩
   ·simp only [Except.ok.injEq,Prod.mk.injEq] at h
    obtain ⟨rfl,rfl⟩:=h
    exact ⟨⟨Q,q1,q.ps⟩,hc1 _⟩
theorem aKd {T:List Tk} (hN:∀i,(aD T i).kind=110→dW (aD T i).txt=true) {st st':aV} {c:List Lt} (h:kH T st=.ok (st',c)):(∃Q,st'.places=st.places++Q∧∀p∈Q,0≤p.2.2.2)∧∀x∈c,mV st'.places x.2:=by
 unfold kH at h
 cases hq:kG T st with
 | error p=>rw [hq] at h;simp at h
 | ok r=>
  obtain ⟨s1,c1⟩:=r
  rw [hq] at h
  simp only at h
  split at h
  ·simp only [Except.ok.injEq,Prod.mk.injEq] at h
   obtain ⟨rfl,rfl⟩:=h
   unfold kG at hq
   split at hq
   ·simp only [Except.ok.injEq,Prod.mk.injEq] at hq
    obtain ⟨rfl,rfl⟩:=hq
    exact ⟨⟨[],by simp,fun p hp=>by simp at hp⟩,fun x hx=>by simp at hx⟩
   ·obtain ⟨⟨Q,q1,q3⟩,q2⟩:=aKc hN _ _ _ _ _ hq (fun x hx=>by simp at hx)
    exact ⟨⟨Q,q1,q3⟩,q2⟩
  ·simp at h
theorem aKe {T:List Tk} (hN:∀i,(aD T i).kind=110→dW (aD T i).txt=true):∀f st cs st' cs',gM T f st cs=.ok (st',cs')→(∀p∈st.places,0≤p.2.2.2)→(∀p∈cs,∀x∈p.2,mV st.places x.2)→(∀p∈st'.places,0≤p.2.2.2)∧∀p∈cs',∀x∈p.2,mV st'.places x.2:=by
 intro f
 induction f with
 | zero=>intro st cs st' cs' h;simp [gM] at h
 | succ f ih=>
  intro st cs st' cs' h h0 hc
  rw [gM] at h
  split at h
  ·simp only [Except.ok.injEq,Prod.mk.injEq] at h
   obtain ⟨rfl,rfl⟩:=h
   exact ⟨h0,hc⟩
  ·split at h
   ·simp at h
   ·rename_i s1 c hq
    obtain ⟨⟨Q,q1,q3⟩,q2⟩:=aKd hN hq
    refine ih _ _ _ _ h (fun p hp=>by rw [q1] at hp;exact (List.mem_append.1 hp).elim (h0 p) (q3 p)) fun p hp x hx=>?_
    rcases List.mem_append.1 hp with hp | hp
    ·exact (hc p hp x hx).more fun r hr=>by rw [q1];simp [hr]
    ·simp at hp
     subst hp
     exact q2 x hx
theorem aCn:∀(l:List Nd) (st:List Nd×List Int),∃t,(l.foldl bV st).2=st.2++t
 | [],st=>⟨[],by simp⟩
 | n :: l,st=>by
  obtain ⟨t,ht⟩:=aCn l (bV st n)
  rw [List.foldl_cons,ht]
  unfold bV
  split
  ·split
   ·exact ⟨[n.2]++t,by simp⟩
   ·exact ⟨t,rfl⟩
  ·exact ⟨t,rfl⟩
theorem hH.more {s t:List Int} {a b:Int} (h:hH s a b):hH (s++t) a b:=by
 obtain ⟨k,k1,k2⟩:=h
 exact ⟨k,by rw [List.getElem?_append_left (List.getElem?_eq_some_iff.1 k1).1];exact k1,k2⟩
theorem aKf:∀(c p:List Lt) (st:List Lt×List Int),st.2.Nodup→aL (gZ (hH st.2)) p st.1→(c.foldl cS st).2.Nodup∧aL (gZ (hH (c.foldl cS st).2)) (p++c) (c.foldl cS st).1:=by
 intro c
 induction c with
 | nil=>intro p st h1 h2;simpa using ⟨h1,h2⟩
 | cons x c ih=>
  intro p st h1 h2
  rw [List.foldl_cons]
  have hr:=aSl x.2 [] ([],st.2) h1 aL.nil
  obtain ⟨t,ht⟩:=aCn x.2 ([],st.2)
  simp only at ht
  have key:(cS st x).2.Nodup∧aL (gZ (hH (cS st x).2)) (p++[x]) (cS st x).1:=by
   refine ⟨hr.1,aL.snoc (h2.mono fun a b k=>⟨k.1,k.2.mono fun n m q=>aGd (fun a b hs=>?_) q⟩) ⟨rfl,?_⟩⟩
   ·show hH (dC x.2 st.2).2 a b
    unfold dC
    rw [ht]
    exact hs.more
   ·have h':=hr.2
    rw [List.nil_append] at h'
    exact h'
  have:=ih (p++[x]) (cS st x) key.1 key.2
  rwa [List.append_assoc,List.singleton_append] at this
theorem aCo (c:List Lt):(cH (bQ c)).2.Nodup∧aL (gZ (hH (cH (bQ c)).2)) (bQ c) (aS c):=aKf (bQ c) [] ([],[]) (by simp) aL.nil
theorem aKg:∀(c acc:List Lt),acc.Nodup→(c.foldl dK acc).Nodup:=by
 intro c
 induction c with
 | nil=>intro acc h;exact h
 | cons x c ih=>
  intro acc h
  rw [List.foldl_cons]
  refine ih _ ?_
  unfold dK
  split
  ·exact h
  ·rename_i hm
   rw [List.nodup_append]
   refine ⟨h,by simp,fun a ha b hb=>?_⟩
   simp at hb
   subst hb
   rintro rfl
   exact hm ((vI _ _).2 ha)
theorem aKh:∀(c acc:List Lt),(acc++c).Nodup→c.foldl dK acc=acc++c:=by
 intro c
 induction c with
 | nil=>intro acc _;simp
 | cons x c ih=>
  intro acc h
  rw [List.foldl_cons]
  have hx:dK acc x=acc++[x]:=by
   unfold dK
   rw [if_neg]
   intro hm
   have h1:=(vI _ _).1 hm
   rw [List.nodup_append] at h
   exact h.2.2 x h1 x (by simp) rfl
  rw [hx,ih (acc++[x]) (by simpa using h)]
  simp
theorem aKi (c:List Lt):bQ (bQ c)=bQ c:=by
 have:=aKh (bQ c) [] (by simpa [bQ] using aKg c [] (by simp))
 simpa [bQ] using this
theorem aKj (c:List Lt):aS (aS c)=aS c:=by
 obtain ⟨h1,h2⟩:=aCo c
 have h3:=aFg (hH.pairs h1) h2
 rw [←h3]
 show (cH (bQ (bQ c))).1=(cH (bQ c)).1
 rw [aKi]
theorem aCp {V:Int→Int→Prop} {n m:Nd} (h:gN V n m):aX n=aX m∧aH n=aH m:=by
 rcases h with ⟨a,b,_,_⟩ | ⟨_,rfl⟩
 ·exact ⟨by rw [lG a,lG b],by rw [a,b]⟩
 ·exact ⟨rfl,rfl⟩
theorem aKk {V:Int→Int→Prop} {l m:List Nd} (h:aL (gN V) l m):∀k,lL l k→lL m k:=by
 induction h with
 | nil=>intro k h;exact h
 | @cons n n' l m h1 h2 ih=>
  intro k hk
  cases k with
  | zero=>have:=hk.2;simp at this
  | succ k=>
   have i1:=ih (k+aX n) ⟨by have:=hk.1;simpa [dL] using this,by have:=hk.2;simp [aF] at this;omega⟩
   rw [(aCp h1).1] at i1
   refine ⟨by simpa [dL] using i1.1,?_⟩
   have:=i1.2
   simp only [aF,List.length_cons]
   omega
theorem aCq {α β:Type} {R:α→β→Prop} {l:List α} {m:List β} (h:aL R l m):∀b∈m,∃a∈l,R a b:=by
 induction h with
 | nil=>intro b hb;simp at hb
 | cons h1 _ ih=>
  intro b hb
  rcases List.mem_cons.1 hb with rfl | hb
  ·exact ⟨_,by simp,h1⟩
  ·obtain ⟨a,ha,r⟩:=ih b hb
   exact ⟨a,by simp [ha],r⟩
theorem aKl {V:Int→Int→Prop} {c d:List Lt} (h:aL (gZ V) c d):aN c=aN d:=by
 induction h with
 | nil=>rfl
 | cons h1 _ ih=>
  have:=h1.2.length
  simp [aN] at ih ⊢
  omega
theorem aKm {V:Int→Int→Prop} {l m:List Nd} (h:aL (gN V) l m) (d:Nd):aH (l.headD d)=aH (m.headD d):=by
 cases h with
 | nil=>rfl
 | cons q _=>exact (aCp q).2
theorem aKn {c:List Lt} {Q:List Pl} (h:∀x∈c,mV Q x.2) (hQ:∀p∈Q,p.2.2.1≤5) (hf:dQ (aS c)=true):bG (aS c)=true:=by
 obtain ⟨h1,h2⟩:=aCo c
 have hcnt:aN (aS c)≤60:=by
  unfold dQ at hf
  simp at hf
  exact hf.2
 have hs:(cH (bQ c)).2.length≤60:=by
  have:=(pM (bQ c)).2
  rw [aKl h2] at this
  omega
 unfold bG
 rw [hf,aKj,Bool.true_and,Bool.and_eq_true,List.all_eq_true]
 refine ⟨fun y hy=>?_,by simp⟩
 obtain ⟨x,hx,_,hl⟩:=aCq h2 y hy
 have ha:=h x ((qO c).2.2 x hx)
 have hok:∀m∈y.2,dG m=true:=by
  intro m hm
  obtain ⟨n,hn,hnm⟩:=aCq hl m hm
  unfold dG
  rcases hnm with ⟨_,b,_,k,k1,k2⟩ | ⟨a,rfl⟩
  ·rw [if_pos b]
   have:=(List.getElem?_eq_some_iff.1 k1).1
   simp
   omega
  ·obtain ⟨n1,n2,p,p1,p2⟩:=ha.nm n hn a
   have:=hQ p p1
   rw [if_neg (by simp [a])]
   simp [n1]
   omega
 have ht:=aGb _ 1 (aKk hl 1 ha.tm) hok
 have hlen:=vJ (aS c) y hy
 unfold iD iA
 have hd:=ha.hd
 have hdy:aH (y.2.headD (⟨#[]⟩,0))=false:=by rw [←aKm hl];exact hd
 rw [ht,hdy]
 simp
 omega
theorem aKo {s:ByteArray} {out:List (List Lt)} {at':Int} (h:nY s out at' 0):∀c∈out,bG c=true:=by
 rcases h with ⟨_,_,_,h⟩ | ⟨_,h⟩
 ·cases h
 ·cases hp:sJ s with
  | error p=>rw [hp] at h;have:=h.2.2;omega
  | ok r=>
   obtain ⟨st,cs⟩:=r
   rw [hp] at h
   obtain ⟨r,hr,⟨_,_,_,h⟩ | ⟨hneg,h⟩⟩:=h
   ·omega
   ·rcases h with ⟨_,_,_,_,_,_,h⟩ | ⟨hbad,rfl,_,_⟩
    ·omega
    ·obtain ⟨h0,hat⟩:=aKe (aKa s _ _) _ _ _ _ _ hp (fun p hp=>by simp at hp) (fun p hp=>by simp at hp)
     have hpl:∀i hi,¬nG st.places i hi:=by
      rcases hr with ⟨_,hr⟩ | ⟨i,hi,_,_,e⟩
      ·exact hr
      ·have:=h0 _ (List.getElem_mem hi)
       omega
     intro c hc
     obtain ⟨p,hpm,rfl⟩:=List.mem_map.1 hc
     obtain ⟨k,hk,rfl⟩:=List.getElem_of_mem hpm
     refine aKn (hat _ hpm) (fun q hq=>?_) ?_
     ·obtain ⟨i,hi,rfl⟩:=List.getElem_of_mem hq
      have:=hpl i hi
      unfold nG at this
      rw [not_or] at this
      omega
     ·have:=hbad k hk
      unfold nX at this
      rw [not_or] at this
      simpa using this.2
end Go.Proofs.YtbddofieljiihaaGreatDoor
namespace Go.Proofs.YtbddofieljiihaaGreatDoor
open Go.RowKit Go.Shelf Go.WideMaps
set_option maxRecDepth 100000
theorem aKp {R:Nat→Nat→Prop} (hr:∀i,R i i) (hs:∀i j,R i j→R j i) (ht:∀i j k,R i j→R j k→R i k):∃rep:Nat→Nat,∀p q,rep p=rep q↔R p q:=by
 refine ⟨fun p=>Classical.epsilon (R p),fun p q=>⟨fun h=>?_,fun h=>?_⟩⟩
 ·have h1:R p (Classical.epsilon (R p)):=Classical.epsilon_spec ⟨p,hr p⟩
  have h2:R q (Classical.epsilon (R q)):=Classical.epsilon_spec ⟨q,hr q⟩
  have h:Classical.epsilon (R p)=Classical.epsilon (R q):=h
  rw [h] at h1
  exact ht _ _ _ h1 (hs _ _ h2)
 ·have:R p=R q:=funext fun k=>propext ⟨fun hk=>ht _ _ _ (hs _ _ h) hk,fun hk=>ht _ _ _ h hk⟩
  show Classical.epsilon (R p)=Classical.epsilon (R q)
  rw [this]
theorem aKq (M:List Tg) (a b:Nat):∃rep:Nat→Nat,∀p q,rep p=rep q↔eE M a b p q:=
 aKp (fun i=>Cl.refl i) (fun _ _ h=>Cl.symm h) (fun _ _ _ h k=>Cl.trans h k)
def oJ (n:Nd):Prop:=aH n=false∧aX n=0
theorem vN {n:Nd} (hn:oJ n) (o1 o2:Int) (rest:List (Int×Lt)) (hr:∀r∈rest,∃m,r.2.2=[m]∧oJ m) (hc:aN (aS (rest.map Prod.snd))≤500):gR [(o1,n),(o2,n)] 0 1 rest (aS (rest.map Prod.snd)) true 0:=by
 have hall:∀x∈[(o1,n),(o2,n)]++bE rest,oJ x.2:=by
  intro x hx
  rcases List.mem_append.1 hx with hx | hx
  ·simp at hx
   rcases hx with rfl | rfl <;> exact hn
  ·obtain ⟨r,hr1,hr2⟩:=List.mem_flatMap.1 hx
   obtain ⟨m,e,hm⟩:=hr r hr1
   rw [e] at hr2
   simp at hr2
   subst hr2
   exact hm
 obtain ⟨M,hM⟩ : ∃M,[(o1,n),(o2,n)]++bE rest=M:=⟨_,rfl⟩
 have hch:∀i,(aE (M.map Prod.snd)).ch i=[]:=by
  intro i
  unfold aE
  simp only
  cases hi:(M.map Prod.snd)[i]? with
  | none=>rfl
  | some m=>
   simp only
   have hm:m∈M.map Prod.snd:=List.mem_of_getElem? hi
   obtain ⟨x,hx,rfl⟩:=List.mem_map.1 hm
   rw [←hM] at hx
   rw [(hall x hx).2]
   rfl
 have hrt:∀i,aY M i=i:=by
  intro i
  cases hi:M[i]? with
  | none=>exact oA (List.getElem?_eq_none_iff.1 hi)
  | some x=>exact mL hi (hall x (by rw [hM];exact List.mem_of_getElem? hi)).1
 have hlab:∀i j,eE M 0 1 i j→(aE (M.map Prod.snd)).lab i=(aE (M.map Prod.snd)).lab j:=by
  intro i j h
  induction h with
  | refl=>rfl
  | base h=>
   rcases h with h | ⟨rfl,rfl⟩
   ·rw [hrt,hrt] at h
    rw [h]
   ·unfold aE
    rw [←hM]
    rfl
  | symm _ ih=>exact ih.symm
  | trans _ _ ih1 ih2=>exact ih1.trans ih2
  | down _ _ _ h=>rw [hch] at h;simp at h
 obtain ⟨rep,hrep⟩:=aKq M 0 1
 refine Or.inr ⟨⟨fun i j h _ _=>?_,fun p _=>⟨p,fun j _ _ q hq=>?_⟩⟩,rep,rest.map (fun r=>r.2.2),?_,?_,Or.inr ⟨?_,?_,rfl,rfl⟩⟩
 ·rw [hM] at h ⊢
  exact hlab i j h
 ·rw [hM,hch] at hq
  cases hq
 ·rw [hM]
  exact hrep
 ·rw [hM]
  have key:∀(rs:List (Int×Lt)) (pre:List Tg),pre++bE rs=M→(∀r∈rs,∃m,r.2.2=[m]∧oJ m)→aL (fun p l=>aO (aE (M.map Prod.snd)) (eE M 0 1) rep [p] l) (dO pre.length rs) (rs.map (fun r=>r.2.2)):=by
   intro rs
   induction rs with
   | nil=>intro _ _ _;exact aL.nil
   | cons r rs ih=>
    intro pre hp hrr
    obtain ⟨m,e,hm⟩:=hrr r (by simp)
    have hput:bE (r :: rs)=(r.1,m) :: bE rs:=by simp [bE,e]
    rw [hput] at hp
    have hat:(M.map Prod.snd)[pre.length]?=some m:=by rw [←hp];simp
    refine aL.cons ?_ ?_
    ·show aO _ _ _ _ r.2.2
     rw [e]
     have hl:(aE (M.map Prod.snd)).lab pre.length=m:=by unfold aE;simp only [hat,Option.getD_some]
     have:=aO.name (G:=aE (M.map Prod.snd)) (R:=eE M 0 1) (rep:=rep) (i:=pre.length) (j:=pre.length) (r:=[]) (l:=[]) (Cl.refl _) (by unfold Gr.named;rw [hl];exact hm.1) (by rw [hch];exact aO.nil)
     rwa [hl] at this
    ·have:=ih (pre++[(r.1,m)]) (by rw [←hp];simp) (fun r' h'=>hrr r' (by simp [h']))
     simpa [e] using this
  exact key rest [(o1,n),(o2,n)] hM hr
 ·have:cE rest (rest.map fun r=>r.2.2)=rest.map Prod.snd:=by
   unfold cE
   clear hall hM hch hrt hlab hrep hr hc
   induction rest with
   | nil=>rfl
   | cons r rs ih=>simp at ih ⊢;exact ih
  rw [this]
  exact hc
 ·have:cE rest (rest.map fun r=>r.2.2)=rest.map Prod.snd:=by
   unfold cE
   clear hall hM hch hrt hlab hrep hr hc
   induction rest with
   | nil=>rfl
   | cons r rs ih=>simp at ih ⊢;exact ih
  rw [this]
theorem bR.push {x:aG×Int} {r:List (aG×Int)} {L L':List Cd} {n n':Nat} {b b':Bool} (h:bR (x :: r) L n b L' n' b') (h1:x.2=0) (h2:dQ x.1.c=true) (h3:oE x.1.c=false):∃ad cp,bR r (gF L.length (L++[dP x.1 ad cp n]) L.length) (n+1) b L' n' b':=by
 unfold bR at h
 rw [if_neg (by simp [h1,h2]),if_neg (by simp [h3])] at h
 exact h
theorem aKr:oJ pN:=⟨by kernel_rfl,by kernel_rfl⟩
theorem aKs (B:Nat) (a1 a2:Option Addr) (c1 c2:Nat) (c d:List Lt) (w:World) (h1:bK B w (.slice a1 c.length c1) c) (h2:bK B w (.slice a2 d.length c2) d) (i1:bG c=true) (i2:bG d=true) :
  Calls Tryz.prog 19 #[.slice a1 c.length c1,.slice a2 d.length c2] w fun e w'=>e=.returned (.bool (bX c d))∧Below w.heap.size w w':=by
 obtain ⟨a,cp,e,hcp,L1,K1⟩:=h1.lits (jI i1)
 cases e
 obtain ⟨a',cp',e,hcp',L2,K2⟩:=h2.lits (jI i2)
 cases e
 refine (aCj a1 a2 c1 c2 c d w L1 L2 K1 K2 hcp i1 i2).mono ?_
 rintro e w' ⟨r,rfl,hr,hb⟩
 exact ⟨by rw [aIf hr],hb⟩
theorem yO {c d:List Lt} (i1:bG c=true) (i2:bG d=true):kQ c d:=fun B a1 a2 c1 c2 w h1 h2=>aKs B a1 a2 c1 c2 c d w h1 h2 i1 i2
def kA (c:List Lt):Bool:=c.all fun l=>match l.2 with | [n]=>!aH n && aX n == 0 | _=>false
theorem tH {c:List Lt} (h:kA c=true) {l:Lt} (hl:l∈c):∃n,l.2=[n]∧oJ n:=by
 have:=List.all_eq_true.1 h l hl
 split at this
 ·rename_i n e
  simp at this
  exact ⟨n,e,this.1,this.2⟩
 ·cases this
def tI (c d:List Lt):Bool:=decide (c.length≤d.length) && c.all fun l=>d.any fun m=>decide (m=l)
theorem aCr {d:List Lt} {l:Lt}:(d.any fun m=>decide (m=l))=true↔l∈d:=by
 rw [List.any_eq_true]
 constructor
 ·rintro ⟨m,hm,e⟩
  have:=of_decide_eq_true e
  subst this
  exact hm
 ·intro h
  exact ⟨l,h,decide_eq_true rfl⟩
theorem yP {c d:List Lt} (h:kA c=true):bX c d=tI c d:=by
 refine (aIf ?_).symm
 unfold tI
 rw [Bool.and_eq_true,decide_eq_true_eq,List.all_eq_true]
 refine and_congr Iff.rfl ⟨fun hc=>?_,fun ⟨σ,_,_,hc⟩ l hl=>?_⟩
 ·refine ⟨fun _=>[(⟨#[]⟩,0)],fun _=>by kernel_rfl,fun x t hx=>by simp [look] at hx,fun l hl=>?_⟩
  obtain ⟨n,e,hn⟩:=tH h hl
  have:=aCr.1 (hc l hl)
  rw [e,mG]
  simp only [hn.1,Bool.false_eq_true,if_false]
  rw [show ([n]++subst _ []:List Nd)=l.2 by rw [e];rfl]
  exact this
 ·obtain ⟨n,e,hn⟩:=tH h hl
  have:=hc l hl
  rw [e,mG] at this
  simp only [hn.1,Bool.false_eq_true,if_false] at this
  rw [show ([n]++subst σ []:List Nd)=l.2 by rw [e];rfl] at this
  exact aCr.2 this
theorem aCs {c d:List Lt} {p:Nat×Nat} (h:p∈fR c d):p.1 < c.length∧p.2 < d.length∧iS c p.1=iS d p.2:=by
 obtain ⟨i,j⟩:=p
 obtain ⟨k,hk,e⟩:=List.getElem_of_mem h
 have h1:=aBp (k:=k) (by rw [List.getElem?_eq_getElem hk,e])
 unfold fR lR at h
 obtain ⟨a,_,h2⟩:=List.mem_flatMap.1 h
 unfold kP at h2
 obtain ⟨b,h3,h4⟩:=List.mem_map.1 h2
 have h5:=(List.mem_filter.1 h3).2
 simp at h4 h5
 obtain ⟨rfl,rfl⟩:=h4
 exact ⟨h1.1,h1.2,h5⟩
theorem aCt {c d:List Lt} (hc:kA c=true) (hd:kA d=true) {i j:Nat} (hi:i < c.length) (hj:j < d.length) (h:iS c i=iS d j):∃n,c[i].2=[n]∧d[j].2=[n]∧oJ n:=by
 obtain ⟨n,e,hn⟩:=tH hc (List.getElem_mem hi)
 obtain ⟨m,f,_⟩:=tH hd (List.getElem_mem hj)
 unfold iS at h
 rw [List.getElem?_eq_getElem hi,List.getElem?_eq_getElem hj] at h
 simp [e,f] at h
 subst h
 exact ⟨n,e,f,hn⟩
theorem yQ {c:List Lt} (hc:kA c=true) (o:Int) (i:Nat):∀r∈(c.eraseIdx i).map (fun l=>(o,l)),∃m,r.2.2=[m]∧oJ m:=by
 intro r hr
 obtain ⟨l,hl,rfl⟩:=List.mem_map.1 hr
 exact tH hc (List.mem_of_mem_eraseIdx hl)
def yR (c:List Lt) (a:Nat) (d:List Lt) (b:Nat) (p:Nat×Nat):Option (aG×Int):=if jE c p.1≠jE d p.2 then some (⟨2,a,b,p.1,p.2,aS (c.eraseIdx p.1++d.eraseIdx p.2)⟩,0) else none
def yS (c:List Lt) (a:Nat) (p:Nat×Nat):Option (aG×Int):=if p.1 < p.2∧jE c p.1=jE c p.2 then some (⟨3,a,0,p.1,p.2,aS (c.eraseIdx p.2)⟩,0) else none
def aCu (c d:List Lt):Bool:=(fR c d).all fun p=>decide (aN (aS (c.eraseIdx p.1++d.eraseIdx p.2))≤500)
def aCv (c:List Lt):Bool:=(fR c c).all fun p=>decide (aN (aS (c.eraseIdx p.2))≤500)
theorem yT {α β:Type} {f g:α→Option β}:∀(l:List α),(∀x∈l,f x=g x)→l.filterMap f=l.filterMap g
 | [],_=>rfl
 | x :: l,h=>by rw [List.filterMap_cons,List.filterMap_cons,h x (by simp),yT l fun y hy=>h y (by simp [hy])]
theorem aKt {c d:List Lt} (a b:Nat) (hc:kA c=true) (hd:kA d=true) (hs:aCu c d=true):jF c a d b=(fR c d).filterMap (yR c a d b):=by
 unfold jF
 refine yT _ fun p hp=>?_
 obtain ⟨hi,hj,hh⟩:=aCs hp
 obtain ⟨n,e,f,hn⟩:=aCt hc hd hi hj hh
 have hcnt:=of_decide_eq_true (List.all_eq_true.1 hs p hp)
 have hr:aW 0 [(c,p.1),(d,p.2)]=(c.eraseIdx p.1).map (fun l=>((0:Int),l))++(d.eraseIdx p.2).map (fun l=>((1:Int),l)):=by simp [aW]
 have hm:(aW 0 [(c,p.1),(d,p.2)]).map Prod.snd=c.eraseIdx p.1++d.eraseIdx p.2:=by
  rw [hr,List.map_append,List.map_map,List.map_map]
  congr 1
  ·exact List.map_id _
  ·exact List.map_id _
 have h1:gR (aQ 0 c[p.1].2++aQ 1 d[p.2].2) 0 c[p.1].2.length (aW 0 [(c,p.1),(d,p.2)]) (aS (c.eraseIdx p.1++d.eraseIdx p.2)) true 0:=by
  have:=vN hn 0 1 (aW 0 [(c,p.1),(d,p.2)]) (by
   rw [hr]
   intro r hr
   rcases List.mem_append.1 hr with hr | hr
   ·exact yQ hc 0 _ r hr
   ·exact yQ hd 1 _ r hr) (by rw [hm];exact hcnt)
  rw [hm] at this
  rw [e,f]
  exact this
 have h2:=aHb hi hj h1
 unfold mQ yR
 rw [h2]
 simp
theorem aKu {c:List Lt} (a:Nat) (hc:kA c=true) (hs:aCv c=true):qG c a=(fR c c).filterMap (yS c a):=by
 unfold qG
 refine yT _ fun p hp=>?_
 obtain ⟨hi,hj,hh⟩:=aCs hp
 obtain ⟨n,e,f,hn⟩:=aCt hc hc hi hj hh
 have hcnt:=of_decide_eq_true (List.all_eq_true.1 hs p hp)
 have hr:aW 0 [(c,p.2)]=(c.eraseIdx p.2).map (fun l=>((0:Int),l)):=by simp [aW]
 have hm:(aW 0 [(c,p.2)]).map Prod.snd=c.eraseIdx p.2:=by
  rw [hr,List.map_map]
  exact List.map_id _
 have h1:gR (aQ 0 c[p.1].2++aQ 0 c[p.2].2) 0 c[p.1].2.length (aW 0 [(c,p.2)]) (aS (c.eraseIdx p.2)) true 0:=by
  have:=vN hn 0 0 (aW 0 [(c,p.2)]) (by rw [hr];exact yQ hc 0 _) (by rw [hm];exact hcnt)
  rw [hm] at this
  rw [e,f]
  exact this
 have h2:=aHa hi hj h1
 unfold lN yS
 rw [h2]
 simp
def yU (cs:List (List Lt)) (a:Nat) (os:List Nat):List (aG×Int):=(fR (cs.getD a []) (cs.getD a [])).filterMap (yS (cs.getD a []) a)++os.flatMap fun b=>(fR (cs.getD a []) (cs.getD b [])).filterMap (yR (cs.getD a []) a (cs.getD b []) b)
def yV (cs:List (List Lt)) (a:Nat) (os:List Nat):Bool:=kA (cs.getD a []) && aCv (cs.getD a []) && os.all fun b=>kA (cs.getD b []) && aCu (cs.getD a []) (cs.getD b [])
theorem aCw {α β:Type} {f g:α→List β}:∀(l:List α),(∀x∈l,f x=g x)→l.flatMap f=l.flatMap g
 | [],_=>rfl
 | x :: l,h=>by rw [List.flatMap_cons,List.flatMap_cons,h x (by simp),aCw l fun y hy=>h y (by simp [hy])]
theorem aKv {T:List (aG×Value)} {cs:List (List Lt)} {a:Nat} {os:List Nat} (hT:∀k,aK T k=cs.getD k []) (h:yV cs a os=true):jG T a os=yU cs a os:=by
 unfold yV at h
 rw [Bool.and_eq_true,Bool.and_eq_true,List.all_eq_true] at h
 obtain ⟨⟨h1,h2⟩,h3⟩:=h
 unfold jG yU
 rw [hT a,aKu a h1 h2]
 congr 1
 refine aCw _ fun b hb=>?_
 have h4:=h3 b hb
 rw [Bool.and_eq_true] at h4
 rw [hT b,aKt a b h1 h4.1 h4.2]
def yW (cs:List (List Lt)) (ks:List Nat) (c:List Lt):List Nat:=(ks.filter fun k=>!tI c (cs.getD k []))++[cs.length]
theorem aKw {T:List (aG×Value)} {cs:List (List Lt)} {ks:List Nat} {c:List Lt} (hT:∀k,aK T k=cs.getD k []) (hl:T.length=cs.length) (h:kA c=true):cN T ks c=yW cs ks c:=by
 unfold cN yW
 rw [hl]
 congr 2
 funext k
 rw [hT,yP h]
theorem aCx {T:List (aG×Value)} {cs:List (List Lt)} {ks:List Nat} (hT:∀k,aK T k=cs.getD k []) (h:ks.all (fun k=>kA (cs.getD k []))=true):(fun c=>ks.any fun k=>bX (aK T k) c)=fun c=>ks.any fun k=>tI (cs.getD k []) c:=by
 funext c
 rw [Bool.eq_iff_iff,List.any_eq_true,List.any_eq_true]
 constructor
 ·rintro ⟨k,hk,h2⟩
  refine ⟨k,hk,?_⟩
  rwa [hT,yP (List.all_eq_true.1 h k hk)] at h2
 ·rintro ⟨k,hk,h2⟩
  refine ⟨k,hk,?_⟩
  rwa [hT,yP (List.all_eq_true.1 h k hk)]
theorem tJ (T:List (aG×Value)) (k:Nat):aK T k=(T.map fun p=>p.1.c).getD k []:=by
 unfold aK
 rw [List.getD_eq_getElem?_getD,List.getElem?_map]
theorem cW.takeF {lim:Nat} {Q:Nat→List (aG×Value)→List Nat→Bool→Prop} {L L':List Cd} {n:Nat} {T:List (aG×Value)} {ks ks':List Nat} {b:Bool} {x:Cd} {F:List (aG×Int)} (cs:List (List Lt)) (s:aG) (hs:vD x s.r s.a s.b s.i s.j∧x.c=s.c) (hT:(T.map fun p=>p.1.c)=cs) (hcl:(∀x∈L,bG x.c=true)) (hkc:ks.all (fun k=>bG (cs.getD k []) && kA (cs.getD k []))=true) (hsc:bG s.c=true) (hsf:kA s.c=true)
  (h:jL (fun c=>ks.any fun k=>tI (cs.getD k []) c) L.length L=some (x,L')) (hc:s.c≠[]) (hl:T.length≠lim) (hk:yW cs ks s.c=ks') (hok:yV (cs++[s.c]) cs.length ks'=true) (hF:yU (cs++[s.c]) cs.length ks'=F)
  (hFc:F.all (fun y=>decide (y.2=0) && bG y.1.c)=true) (hW:∀y∈F,rS y.1.c) (hLF:L'.length+F.length≤1000000) (hnF:n+F.length≤1000000)
  (next:∀L2 n2 b2,bR F L' n b L2 n2 b2→cW lim Q L2 n2 (T++[(s,.slice x.ad x.ln x.cp)]) ks' b2):cW lim Q L n T ks b:=by
 have hTk:∀k,aK T k=cs.getD k []:=fun k=>by rw [tJ,hT]
 have hTl:T.length=cs.length:=by rw [←hT];simp
 have hkk:=List.all_eq_true.1 hkc
 have hk2:cN T ks s.c=ks':=by rw [aKw hTk hTl hsf,hk]
 have hf2:jG (T++[(s,.slice x.ad x.ln x.cp)]) T.length ks'=F:=by
  rw [hTl,aKv (cs:=cs++[s.c]) (fun k=>by rw [tJ,List.map_append,hT];rfl) hok,hF]
 refine cW.take s hs (fun x hx k hk=>?_) (by rw [aCx hTk (List.all_eq_true.2 fun k hk=>(Bool.and_eq_true _ _▸hkk k hk).2)];exact h) hc hl (fun k hk=>?_) ?_ ?_ ?_ ?_
 ·rw [hTk]
  exact yO (Bool.and_eq_true _ _▸hkk k hk).1 (hcl x hx)
 ·rw [hTk]
  exact yO hsc (Bool.and_eq_true _ _▸hkk k hk).1
 all_goals rw [hk2,hf2]
 ·intro y hy
  have:=List.all_eq_true.1 hFc y hy
  rw [Bool.and_eq_true] at this
  exact ⟨hW y hy,fun _ _=>this.2⟩
 ·exact hLF
 ·exact hnF
 ·exact next
theorem aCy {l:List Pl} (h:∀x∈l,x.2.1=true∧x.2.2.1=0):∀i hi,¬nG l i hi:=by
 intro i hi
 unfold nG aAi
 have h1:=h l[i] (List.getElem_mem hi)
 rintro (h2 | ⟨k,hk,_,h3⟩)
 ·rw [h1.2] at h2
  omega
 ·have h4:=h _ (List.getElem_mem (Nat.lt_trans hk hi))
  rcases h3 with h3 | h3
  ·exact h3 (h4.1.trans h1.1.symm)
  ·exact h3 (h4.2.trans h1.2.symm)
theorem aCz {cs:List (Nat×List Lt)} (hl:cs.length≤40) (h:cs.all (fun p=>dQ (aS p.2))=true):∀i hi,¬nX cs i hi:=by
 intro i hi
 unfold nX
 rintro (h1 | h1)
 ·omega
 ·have:=List.all_eq_true.1 h _ (List.getElem_mem hi)
  rw [h1] at this
  cases this
def qN:Nd:=(⟨#[113]⟩,0)
def cQ:List Lt:=[(false,[qN])]
def lV:List Lt:=[(true,[qN])]
def iB:List Lt:=[(true,[pN]),(false,[qN])]
abbrev vO:ByteArray:=⟨#[112,46,32,126,112,32,124,32,113,46,32,126,113,46]⟩
abbrev yX:ByteArray:=⟨#[112,46,32,126,112,32,124,32,113,46]⟩
theorem aKx:sJ vO=.ok (⟨10,[],[(⟨#[112]⟩,true,0,0),(⟨#[112]⟩,true,0,4),(⟨#[113]⟩,true,0,8),(⟨#[113]⟩,true,0,12)]⟩,[(0,[(false,[pN])]),(3,[(true,[pN]),(false,[qN])]),(11,[(true,[qN])])]):=by kernel_rfl
theorem aKy:sJ yX=.ok (⟨7,[],[(⟨#[112]⟩,true,0,0),(⟨#[112]⟩,true,0,4),(⟨#[113]⟩,true,0,8)]⟩,[(0,[(false,[pN])]),(3,[(true,[pN]),(false,[qN])])]):=by kernel_rfl
theorem vQ {out:List (List Lt)} {at' er:Int} (h:nY vO out at' er):out=[cP,iB,lV]∧at'=0∧er=0:=by
 have:=aFs h (by decide) aKx (aCy (by simp)) (aCz (by decide) (by kernel_rfl))
 rw [show [cP,iB,lV]=[(0,[(false,[pN])]),(3,[(true,[pN]),(false,[qN])]),(11,[(true,[qN])])].map (fun p:Nat×List Lt=>aS p.2) by kernel_rfl]
 exact this
theorem aD0 {out:List (List Lt)} {at' er:Int} (h:nY yX out at' er):out=[cP,iB]∧at'=0∧er=0:=by
 have:=aFs h (by decide) aKy (aCy (by simp)) (aCz (by decide) (by kernel_rfl))
 rw [show [cP,iB]=[(0,[(false,[pN])]),(3,[(true,[pN]),(false,[qN])])].map (fun p:Nat×List Lt=>aS p.2) by kernel_rfl]
 exact this
def iX:aG:=⟨1,0,0,0,0,cP⟩
def gI:aG:=⟨1,1,0,0,0,iB⟩
def lW:aG:=⟨1,2,0,0,0,lV⟩
def mW:aG:=⟨2,2,0,0,0,cQ⟩
def tK:aG:=⟨2,2,1,1,0,cNp⟩
def mX:aG:=⟨2,3,1,0,0,[]⟩
def tL:aG:=⟨2,1,0,0,0,cQ⟩
theorem aKz {c:List Lt} (h:bG c=true):rS c:=by
 have n:=jI h
 refine ⟨by have:=n.len;omega,fun x hx=>⟨by have:=(n.term x hx).2;omega,fun k hk=>?_⟩⟩
 have:=aI5 (aBz _ _ (n.term x hx).1 _ (List.getElem_mem hk))
 omega
theorem yY {F:List (aG×Int)} (h:F.all (fun y=>decide (y.2=0) && bG y.1.c)=true):∀y∈F,rS y.1.c:=fun y hy=>by
 have:=List.all_eq_true.1 h y hy
 rw [Bool.and_eq_true] at this
 exact aKz this.2
def tM (vd:Nat) (T:List (aG×Value)) (_:List Nat) (b:Bool):Prop:=vd=1∧T.map Prod.fst=[iX,lW,gI,mW,mX]∧b=false
def vR (vd:Nat) (_:List (aG×Value)) (_:List Nat) (b:Bool):Prop:=vd=2∧b=false
theorem aL0 {L:List Cd} {n:Nat} (h:bR (iY [cP,iB,lV]) [] 0 false L n false):cW 100 tM L n [] [] false:=by
 have e:iY [cP,iB,lV]=[(iX,0),(gI,0),(lW,0)]:=rfl
 rw [e] at h
 obtain ⟨ad0,cp0,h⟩:=h.push rfl (by kernel_rfl) (by kernel_rfl)
 obtain ⟨ad1,cp1,h⟩:=h.push rfl (by kernel_rfl) (by kernel_rfl)
 obtain ⟨ad2,cp2,h⟩:=h.push rfl (by kernel_rfl) (by kernel_rfl)
 obtain ⟨rfl,rfl,_⟩:=h
 refine (show ∀L n,L=[dP iX ad0 cp0 0,dP gI ad1 cp1 1,dP lW ad2 cp2 2]→n=3→cW 100 tM L n [] [] false from ?_) _ _ (by kernel_rfl) rfl
 rintro L n rfl rfl
 refine cW.takeF [] iX (x:=dP iX ad0 cp0 0) (L':=[dP lW ad2 cp2 2,dP gI ad1 cp1 1]) (ks':=[0]) (F:=[]) ⟨⟨rfl,rfl,rfl,rfl,rfl⟩,rfl⟩ rfl ?_ rfl (by kernel_rfl) (by kernel_rfl) (by kernel_rfl) (by simp [iX,cP]) (by decide) (by kernel_rfl) (by kernel_rfl) (by kernel_rfl) rfl (by simp) (by simp) (by simp) ?_
 ·intro x hx
  simp at hx
  rcases hx with rfl | rfl | rfl <;> kernel_rfl
 rintro L2 n2 b2 ⟨rfl,rfl,rfl⟩
 refine cW.takeF [cP] lW (x:=dP lW ad2 cp2 2) (L':=[dP gI ad1 cp1 1]) (ks':=[0,1]) (F:=[]) ⟨⟨rfl,rfl,rfl,rfl,rfl⟩,rfl⟩ rfl ?_ (by kernel_rfl) (by kernel_rfl) (by kernel_rfl) (by kernel_rfl) (by simp [lW,lV]) (by simp) (by kernel_rfl) (by kernel_rfl) (by kernel_rfl) rfl (by simp) (by simp) (by simp) ?_
 ·intro x hx
  simp at hx
  rcases hx with rfl | rfl <;> kernel_rfl
 rintro L2 n2 b2 ⟨rfl,rfl,rfl⟩
 refine cW.takeF [cP,lV] gI (x:=dP gI ad1 cp1 1) (L':=[]) (ks':=[0,1,2]) (F:=[(mW,0),(tK,0)]) ⟨⟨rfl,rfl,rfl,rfl,rfl⟩,rfl⟩ rfl ?_ (by kernel_rfl) (by kernel_rfl) (by kernel_rfl) (by kernel_rfl) (by simp [gI,iB]) (by simp) (by kernel_rfl) (by kernel_rfl) (by kernel_rfl) (by kernel_rfl) (yY (by kernel_rfl)) (by simp) (by simp) ?_
 ·intro x hx
  simp at hx
  subst hx
  kernel_rfl
 intro L2 n2 b2 h
 obtain ⟨ad3,cp3,h⟩:=h.push rfl (by kernel_rfl) (by kernel_rfl)
 obtain ⟨ad4,cp4,h⟩:=h.push rfl (by kernel_rfl) (by kernel_rfl)
 obtain ⟨rfl,rfl,rfl⟩:=h
 refine (show ∀L n,L=[dP mW ad3 cp3 3,dP tK ad4 cp4 4]→n=5→cW 100 tM L n _ _ _ from ?_) _ _ (by kernel_rfl) rfl
 rintro L n rfl rfl
 refine cW.takeF [cP,lV,iB] mW (x:=dP mW ad3 cp3 3) (L':=[dP tK ad4 cp4 4]) (ks':=[0,1,3]) (F:=[(mX,0)]) ⟨⟨rfl,rfl,rfl,rfl,rfl⟩,rfl⟩ rfl ?_ (by kernel_rfl) (by kernel_rfl) (by kernel_rfl) (by kernel_rfl) (by simp [mW,cQ]) (by simp) (by kernel_rfl) (by kernel_rfl) (by kernel_rfl) (by kernel_rfl) (yY (by kernel_rfl)) (by simp) (by simp) ?_
 ·intro x hx
  simp at hx
  rcases hx with rfl | rfl <;> kernel_rfl
 intro L2 n2 b2 h
 obtain ⟨ad5,cp5,h⟩:=h.push rfl (by kernel_rfl) (by kernel_rfl)
 obtain ⟨rfl,rfl,rfl⟩:=h
 refine (show ∀L n,L=[dP mX ad5 cp5 5,dP tK ad4 cp4 4]→n=6→cW 100 tM L n _ _ _ from ?_) _ _ (by kernel_rfl) rfl
 rintro L n rfl rfl
 refine cW.unsat mX (x:=dP mX ad5 cp5 5) (L':=[dP tK ad4 cp4 4]) ⟨⟨rfl,rfl,rfl,rfl,rfl⟩,rfl⟩ (fun x hx k hk=>?_) ?_ rfl ⟨rfl,rfl,rfl⟩
 ·rw [tJ]
  simp at hx hk
  rcases hx with rfl | rfl <;> rcases hk with rfl | rfl | rfl <;> exact yO (by kernel_rfl) (by kernel_rfl)
 ·rw [aCx (cs:=[cP,lV,iB,cQ]) (fun k=>by rw [tJ];rfl) (by kernel_rfl)]
  kernel_rfl
theorem aL1 {L:List Cd} {n:Nat} (h:bR (iY [cP,iB]) [] 0 false L n false):cW 100 vR L n [] [] false:=by
 have e:iY [cP,iB]=[(iX,0),(gI,0)]:=rfl
 rw [e] at h
 obtain ⟨ad0,cp0,h⟩:=h.push rfl (by kernel_rfl) (by kernel_rfl)
 obtain ⟨ad1,cp1,h⟩:=h.push rfl (by kernel_rfl) (by kernel_rfl)
 obtain ⟨rfl,rfl,_⟩:=h
 refine (show ∀L n,L=[dP iX ad0 cp0 0,dP gI ad1 cp1 1]→n=2→cW 100 vR L n [] [] false from ?_) _ _ (by kernel_rfl) rfl
 rintro L n rfl rfl
 refine cW.takeF [] iX (x:=dP iX ad0 cp0 0) (L':=[dP gI ad1 cp1 1]) (ks':=[0]) (F:=[]) ⟨⟨rfl,rfl,rfl,rfl,rfl⟩,rfl⟩ rfl ?_ rfl (by kernel_rfl) (by kernel_rfl) (by kernel_rfl) (by simp [iX,cP]) (by decide) (by kernel_rfl) (by kernel_rfl) (by kernel_rfl) rfl (by simp) (by simp) (by simp) ?_
 ·intro x hx
  simp at hx
  rcases hx with rfl | rfl <;> kernel_rfl
 rintro L2 n2 b2 ⟨rfl,rfl,rfl⟩
 refine cW.takeF [cP] gI (x:=dP gI ad1 cp1 1) (L':=[]) (ks':=[0,1]) (F:=[(tL,0)]) ⟨⟨rfl,rfl,rfl,rfl,rfl⟩,rfl⟩ rfl ?_ (by kernel_rfl) (by kernel_rfl) (by kernel_rfl) (by kernel_rfl) (by simp [gI,iB]) (by simp) (by kernel_rfl) (by kernel_rfl) (by kernel_rfl) (by kernel_rfl) (yY (by kernel_rfl)) (by simp) (by simp) ?_
 ·intro x hx
  simp at hx
  subst hx
  kernel_rfl
 intro L2 n2 b2 h
 obtain ⟨ad2,cp2,h⟩:=h.push rfl (by kernel_rfl) (by kernel_rfl)
 obtain ⟨rfl,rfl,rfl⟩:=h
 refine (show ∀L n,L=[dP tL ad2 cp2 2]→n=3→cW 100 vR L n _ _ _ from ?_) _ _ (by kernel_rfl) rfl
 rintro L n rfl rfl
 refine cW.takeF [cP,iB] tL (x:=dP tL ad2 cp2 2) (L':=[]) (ks':=[0,2]) (F:=[]) ⟨⟨rfl,rfl,rfl,rfl,rfl⟩,rfl⟩ rfl ?_ (by kernel_rfl) (by kernel_rfl) (by kernel_rfl) (by kernel_rfl) (by simp [tL,cQ]) (by simp) (by kernel_rfl) (by kernel_rfl) (by kernel_rfl) rfl (by simp) (by simp) (by simp) ?_
 ·intro x hx
  simp at hx
  subst hx
  kernel_rfl
 rintro L2 n2 b2 ⟨rfl,rfl,rfl⟩
 exact cW.sat (fun x hx=>by simp at hx) rfl ⟨rfl,rfl⟩
end Go.Proofs.YtbddofieljiihaaGreatDoor
