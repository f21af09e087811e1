/- The program's parser: the token at hand, and how it goes past one. The program's parser: its state, take, and how it is made. The program: the number of a variable, by its name. The program's parser in memory, and what stays while it reads. The program's parser: a variable, or what begins no term. The program's parser: a term that begins with a name. -/
import Derived.Test.YthicbnejchpmgaaGreatDoorGEmpD
import Derived.Test.YthicbnejchpmgaaGreatDoorONum0D
import Derived.StringKeys
namespace Go.Proofs.YthicbnejchpmgaaGreatDoor
open Go.RowKit
set_option maxRecDepth 100000
theorem aLh {s:ByteArray} {k p:Nat} (h:eE s k=.bad p):p=k:=by
 unfold eE at h
 repeat' split at h
 all_goals first | (cases h;done) | (simp only [Nx.bad.injEq] at h;exact h.symm)
theorem aLi {s:ByteArray} {k p:Nat}:eE s k≠.stop p:=by
 intro h
 unfold eE at h
 repeat' split at h
 all_goals cases h
theorem aDe {s:ByteArray} {k e:Nat} {t:Tk} (hp:k < s.size) (h:eE s k=.tok t e):k < e∧e≤s.size:=by
 unfold eE at h
 split at h
 ·rename_i hl
  split at h
  ·cases h
  ·simp only [Nx.tok.injEq] at h
   rw [←h.2]
   exact ⟨aOx hp hl,aOu (by omega)⟩
 ·split at h
  ·split at h
   ·rename_i n e' hq
    simp only [Nx.tok.injEq] at h
    rw [←h.2]
    have:=aOw hq
    omega
   ·cases h
  ·split at h
   ·split at h
    ·rename_i hc
     simp only [Nx.tok.injEq] at h
     rw [←h.2]
     omega
    ·cases h
   ·split at h
    ·simp only [Nx.tok.injEq] at h
     rw [←h.2]
     omega
    ·cases h
theorem aLj (s:ByteArray):∀n f g q,s.size+1 - q≤n→q≤s.size→s.size < q+f→s.size < q+g→cB s f q=cB s g q:=by
 intro n
 induction n with
 | zero=>intro f g q h hq;omega
 | succ n ih=>
  intro f g q h hq hf hg
  obtain ⟨f',rfl⟩ : ∃f',f=f'+1:=⟨f - 1,by omega⟩
  obtain ⟨g',rfl⟩ : ∃g',g=g'+1:=⟨g - 1,by omega⟩
  rw [cB,cB]
  by_cases hp:q < s.size
  ·rw [if_pos hp,if_pos hp]
   by_cases hgp:mH (aC s q)=true
   ·rw [if_pos hgp,if_pos hgp]
    exact ih _ _ _ (by omega) (by omega) (by omega) (by omega)
   ·rw [if_neg hgp,if_neg hgp]
    by_cases h37:aC s q=37
    ·rw [if_pos h37,if_pos h37]
     have h1:=wY hp h37
     have h2:=aAg (s:=s) (p:=q) hq
     exact ih _ _ _ (by omega) h2 (by omega) (by omega)
    ·rw [if_neg h37,if_neg h37]
     cases ht:eE s q with
     | tok t e=>
      obtain ⟨h1,h2⟩:=aDe hp ht
      simp only
      rw [ih f' g' e (by omega) h2 (by omega) (by omega)]
     | bad p=>rfl
     | stop p=>rfl
  ·rw [if_neg hp,if_neg hp]
def dN (s:ByteArray) (q:Nat):List Tk:=eF (cB s (s.size+1 - q) q)
theorem wI {s:ByteArray} {q f:Nat} (hq:q≤s.size) (hf:s.size < q+f):eF (cB s f q)=dN s q:=by
 unfold dN
 rw [aLj s _ f (s.size+1 - q) q (Nat.le_refl _) hq hf (by omega)]
theorem aLk (s:ByteArray):∀n f q,s.size+1 - q≤n→q≤s.size→s.size < q+f→
  match oX s f q with
  | .tok t e=>dN s q=t :: dN s e∧e≤s.size∧t.kind≠101∧t.kind≠63
  | .bad p=>dN s q=[⟨63,⟨#[]⟩,p⟩]∧p≤s.size
  | .stop p=>dN s q=[⟨101,⟨#[]⟩,p⟩]∧p≤s.size:=by
 intro n
 induction n with
 | zero=>intro f q h hq;omega
 | succ n ih=>
  intro f q h hq hf
  obtain ⟨f',rfl⟩ : ∃f',f=f'+1:=⟨f - 1,by omega⟩
  rw [oX,←wI hq hf,cB]
  by_cases hp:q < s.size
  ·rw [if_pos hp,if_pos hp]
   by_cases hgp:mH (aC s q)=true
   ·rw [if_pos hgp,if_pos hgp,wI (q:=q+1) (by omega) (by omega)]
    exact ih _ _ (by omega) (by omega) (by omega)
   ·rw [if_neg hgp,if_neg hgp]
    by_cases h37:aC s q=37
    ·rw [if_pos h37,if_pos h37]
     have h1:=wY hp h37
     have h2:=aAg (s:=s) (p:=q) hq
     rw [wI h2 (by omega)]
     exact ih _ _ (by omega) h2 (by omega)
    ·rw [if_neg h37,if_neg h37]
     cases ht:eE s q with
     | tok t e=>
      obtain ⟨h1,h2⟩:=aDe hp ht
      simp only
      refine ⟨?_,h2,aF6 ht⟩
      rw [←wI h2 (show s.size < e+f' by omega)]
      rfl
     | bad p=>
      have hpq:p=q:=aLh ht
      subst hpq
      exact ⟨rfl,hq⟩
     | stop p=>exact absurd ht aLi
  ·rw [if_neg hp,if_neg hp]
   exact ⟨rfl,hq⟩
def fO:List Nat:=[110,118,102,101,63,124,126,40,41,44,46]
theorem zH:∀a∈fO,∀b∈fO,cU a=cU b→a=b:=by decide
theorem aLl {s:ByteArray} {k e:Nat} {t:Tk} (h:eE s k=.tok t e):t.kind∈fO:=by
 unfold eE at h
 split at h
 ·split at h
  ·cases h
  ·simp only [Nx.tok.injEq] at h
   rw [←h.1]
   simp only
   split <;> decide
 ·split at h
  ·split at h
   ·simp only [Nx.tok.injEq] at h
    rw [←h.1]
    show (110:Nat)∈fO
    decide
   ·cases h
  ·split at h
   ·split at h
    ·simp only [Nx.tok.injEq] at h
     rw [←h.1]
     show (102:Nat)∈fO
     decide
    ·cases h
   ·split at h
    ·rename_i hm
     simp only [Nx.tok.injEq] at h
     rw [←h.1]
     simp only
     generalize aC s k=b at hm ⊢
     have hor:b=124∨b=126∨b=40∨b=41∨b=44∨b=46:=by unfold oB at hm;simp at hm;omega
     rcases hor with rfl | rfl | rfl | rfl | rfl | rfl <;> decide
    ·cases h
theorem aLm (s:ByteArray):∀f k,∀t∈(cB s f k).1,t.kind∈fO:=by
 intro f
 induction f with
 | zero=>intro k;simp [cB]
 | succ f ih=>
  intro k
  rw [cB]
  split
  ·split
   ·exact ih _
   ·split
    ·exact ih _
    ·split
     ·rename_i t e ht
      intro u hu
      rcases List.mem_cons.1 hu with rfl | hu
      ·exact aLl ht
      ·exact ih _ u hu
     ·simp
  ·intro t ht
   simp at ht
   rw [ht]
   show (101:Nat)∈fO
   decide
theorem aLn {r:List Tk×Option Nat} (h:∀t∈r.1,t.kind∈fO):∀t∈eF r,t.kind∈fO:=by
 obtain ⟨L,b⟩:=r
 intro t ht
 unfold eF at ht
 rcases List.mem_append.1 ht with ht | ht
 ·exact h t ht
 ·cases b with
  | none=>simp at ht
  | some p=>
   simp at ht
   rw [ht]
   show (63:Nat)∈fO
   decide
theorem aLo (s:ByteArray) (q i:Nat):(aE (dN s q) i).kind∈fO:=by
 unfold aE
 by_cases h:i < (dN s q).length
 ·rw [List.getD_eq_getElem?_getD,List.getElem?_eq_getElem h,Option.getD_some]
  exact aLn (aLm s _ _) _ (List.getElem_mem _)
 ·rw [List.getD_eq_getElem?_getD,List.getElem?_eq_none (by omega)]
  decide
theorem aLp {T r:List Tk} {i:Nat} {t:Tk} (h:T.drop i=t :: r):i < T.length∧aE T i=t∧T.drop (i+1)=r:=by
 have hl:i < T.length:=Classical.byContradiction fun hn=>by rw [List.drop_of_length_le (by omega)] at h;cases h
 rw [List.drop_eq_getElem_cons hl] at h
 simp only [List.cons.injEq] at h
 exact ⟨hl,by unfold aE;rw [List.getD_eq_getElem?_getD,List.getElem?_eq_getElem hl];exact h.1,h.2⟩
section
variable {w:World} {pb:Nat} {left:Value} {k a:Int} {wd:ByteArray} {vC vP vM:Value}
theorem bF.setTok (h:bF w pb left k a wd vC vP vM) (k' a':Int) (wd':ByteArray):bF (((w.setCell ⟨pb,1,none⟩ (.int .i32 k')).setCell ⟨pb,2,none⟩ (.int .i64 a')).setCell ⟨pb,3,none⟩ (.string wd')) pb left k' a' wd' vC vP vM:=by
 have h1:bF (w.setCell ⟨pb,1,none⟩ (.int .i32 k')) pb left k' a wd vC vP vM:=heap_setCell_same w pb 1 _ _ _ h
 have h2:bF ((w.setCell ⟨pb,1,none⟩ (.int .i32 k')).setCell ⟨pb,2,none⟩ (.int .i64 a')) pb left k' a' wd vC vP vM:=heap_setCell_same _ pb 2 _ _ _ h1
 exact heap_setCell_same _ pb 3 _ _ _ h2
theorem bF.rows (h:bF w pb left k a wd vC vP vM) (k' a':Int) (wd':ByteArray) {B:Nat} {e:TypeId} {size:Nat} {v:Value} {n:Nat} {xs:List Value} (ho:w.ownsRow B e size v n xs) (he:e≠78):(((w.setCell ⟨pb,1,none⟩ (.int .i32 k')).setCell ⟨pb,2,none⟩ (.int .i64 a')).setCell ⟨pb,3,none⟩ (.string wd')).ownsRow B e size v n xs:=by
 have h1:bF (w.setCell ⟨pb,1,none⟩ (.int .i32 k')) pb left k' a wd vC vP vM:=heap_setCell_same w pb 1 _ _ _ h
 have h2:bF ((w.setCell ⟨pb,1,none⟩ (.int .i32 k')).setCell ⟨pb,2,none⟩ (.int .i64 a')) pb left k' a' wd vC vP vM:=heap_setCell_same _ pb 2 _ _ _ h1
 exact h2.row (h1.row (h.row ho he 1 _) he 2 _) he 3 _
end
structure PP (B:Nat) (w:World) (pb:Nat) (s:ByteArray) (T:List Tk) (i g q j m c:Nat) (vC vP vM:Value):Prop where
 sc:bB B w pb s q g j m c (cU (aE T i).kind) (aE T i).pos (aE T i).txt vC vP vM
 lt:i < T.length
 on:(aE T i).kind≠101→(aE T i).kind≠63→dN s q=T.drop (i+1)
def cL (B:Nat) (w:World) (pb:Nat) (s:ByteArray) (T:List Tk) (i g:Nat) (vC vP vM:Value):Prop:=∃q j m c,PP B w pb s T i g q j m c vC vP vM
theorem aDf {B:Nat} {w w1:World} {pb:Nat} {s:ByteArray} {T:List Tk} {i g q:Nat} {k a:Int} {wd:ByteArray} {vC vP vM:Value} {e:Ending} {f:Nat} (hq:q≤s.size) (hf:s.size < q+f) (hT:dN s q=T.drop i) (hr:oP B pb s q f g k a wd vC vP vM w e w1) :
  e=.returned (.agg #[.int .i32 (cU (aE T i).kind),.int .i64 (aE T i).pos,.string (aE T i).txt])∧w.grownBy w1 (some pb)∧(∃left,bF w1 pb left k a wd vC vP vM)∧
  cL B (((w1.setCell ⟨pb,1,none⟩ (.int .i32 (cU (aE T i).kind))).setCell ⟨pb,2,none⟩ (.int .i64 (aE T i).pos)).setCell ⟨pb,3,none⟩ (.string (aE T i).txt)) pb s T i g vC vP vM:=by
 obtain ⟨hg,hr⟩:=hr
 have hn:=aLk s _ f q (Nat.le_refl _) hq hf
 have fin:∀(t:Tk) (q':Nat) (r:List Tk),T.drop i=t :: r→(t.kind≠101→t.kind≠63→dN s q'=r)→e=.returned (eS (cU t.kind) t.pos t.txt)→(∃j m c,bB B w1 pb s q' g j m c k a wd vC vP vM)→e=.returned (.agg #[.int .i32 (cU (aE T i).kind),.int .i64 (aE T i).pos,.string (aE T i).txt])∧w.grownBy w1 (some pb)∧(∃left,bF w1 pb left k a wd vC vP vM)∧cL B (((w1.setCell ⟨pb,1,none⟩ (.int .i32 (cU (aE T i).kind))).setCell ⟨pb,2,none⟩ (.int .i64 (aE T i).pos)).setCell ⟨pb,3,none⟩ (.string (aE T i).txt)) pb s T i g vC vP vM:=by
  intro t q' r hd hon he hS
  obtain ⟨hl,htk,hdr⟩:=aLp hd
  obtain ⟨j,m,c,hS⟩:=hS
  rw [htk]
  refine ⟨he,hg,⟨_,hS.box⟩,q',j,m,c,⟨?_,hl,?_⟩⟩
  ·rw [htk]
   exact ⟨hS.box.setTok _ _ _,hS.high,hS.box.rows _ _ _ hS.row (by decide),hS.len,hS.drop,hS.le⟩
  ·rw [htk,hdr];exact hon
 cases hx:oX s f q with
 | tok t e'=>
  rw [hx] at hr hn
  obtain ⟨n1,_,_,_⟩:=hn
  exact fin t e' _ (by rw [←hT,n1]) (fun _ _=>rfl) hr.1 hr.2
 | bad p=>
  rw [hx] at hr hn
  exact fin ⟨63,⟨#[]⟩,p⟩ p [] (by rw [←hT,hn.1]) (fun _ h=>absurd rfl h) hr.1 hr.2
 | stop p=>
  rw [hx] at hr hn
  exact fin ⟨101,⟨#[]⟩,p⟩ p [] (by rw [←hT,hn.1]) (fun h _=>absurd rfl h) hr.1 hr.2
set_option maxHeartbeats 2000000 in
theorem kK {B:Nat} {w:World} {pb:Nat} {s:ByteArray} {T:List Tk} {i g:Nat} {vC vP vM:Value} (kd:Nat) (hkd:kd∈fO) (h101:kd≠101) (h63:kd≠63) (hT:∀i,(aE T i).kind∈fO) (hs:s.size≤3000) (h:cL B w pb s T i g vC vP vM) :
  Calls Tryz.prog 83 #[.pointer (some ⟨pb,0,none⟩),.int .i32 (cU kd)] w fun e w'=>e=.returned (.bool (decide ((aE T i).kind=kd)))∧w.grownBy w' (some pb)∧cL B w' pb s T (if (aE T i).kind=kd then i+1 else i) g vC vP vM:=by
 obtain ⟨q,j,m,c,hP⟩:=h
 have d1:=hP.sc.box.c1
 by_cases hk:(aE T i).kind=kd
 ·rw [if_pos hk,decide_eq_true hk]
  have CN:=aA ((aCs (s.size+1) hP.sc hs (by omega)).mono fun e w1 hr=>aDf hP.sc.le (by omega) (hP.on (by rw [hk];exact h101) (by rw [hk];exact h63)) hr)
  rw [hk] at d1 CN
  clear hk hP
  generalize cU kd=K at *
  generalize aE T (i+1)=t at CN
  obtain ⟨tk,tx,tp⟩:=t
  simp only at CN
  go_enter Tryz.func83,Tryz.ntmps83
  go_wp2_with (first
   | (go_at_call 51;refine (aB CN).mono ?_;rintro e w1 ⟨rfl,hg1,⟨left,hb1⟩,hP1⟩;have e1:=hb1.c1;have e2:=hb1.c2;have e3:=hb1.c3;have ef:=hb1.soft;have HG1:=aA hg1;have HP1:=aA hP1;clear hg1 hP1 hb1)
   | go_in)
  go_ret
  exact ⟨rfl,oY (oY (oY HG1.out _) _) _,HP1.out⟩
 ·rw [if_neg hk,decide_eq_false hk]
  have hne:(cU (aE T i).kind != cU kd)=true:=by simp;exact fun e=>hk (zH _ (hT i) _ hkd e)
  have HP:=aA hP
  clear hP
  go_enter Tryz.func83,Tryz.ntmps83
  go_wp2
  go_ret
  exact ⟨rfl,World.grownBy.refl _ _,q,j,m,c,HP.out⟩
end Go.Proofs.YthicbnejchpmgaaGreatDoor
namespace Go.Proofs.YthicbnejchpmgaaGreatDoor
open Go.RowKit Go.WideMaps
set_option maxRecDepth 100000
def lB (v:Value):Option (DataW Unit×List MemPlace):=
 match v with
 | .int .i64 x=>some (.lit (.int .i64 x),[])
 | _=>none
theorem aDg {v:Value} {x:Int} {ps:List MemPlace} (h:lB v=some (.lit (.int .i64 x),ps)):v=.int .i64 x:=by
 unfold lB at h
 split at h
 ·simp at h;rw [h.1]
 ·simp at h
theorem aDh {s t:ByteArray} (h:s.data.toList=t.data.toList):s=t:=by
 obtain ⟨⟨x⟩⟩:=s
 obtain ⟨⟨y⟩⟩:=t
 simp at h
 rw [h]
structure nG (D:DataW Unit) (sn:List ByteArray):Prop where
 tidy:Maps.Tidy D
 size:Maps.size D=sn.length
 old:∀x,0≤jF sn x→Maps.has D (.string x.data.toList)=true∧∀z,D.atKey (.string x.data.toList) z=.lit (.int .i64 (jF sn x))
 new:∀x,jF sn x < 0→Maps.has D (.string x.data.toList)=false
theorem nG.start:nG (.map []) []:=⟨⟨[],rfl,by simp⟩,rfl,fun x h=>by rw [aP2] at h;omega,fun x _=>rfl⟩
theorem nG.put {D:DataW Unit} {sn:List ByteArray} {x:ByteArray} (h:nG D sn) (hx:jF sn x < 0):nG (D.put (.string x.data.toList) (.lit (.int .i64 sn.length))) (sn++[x]):=by
 have hkey:WideAt.IsKeyLit (.string x.data.toList):=trivial
 refine ⟨h.tidy.put hkey _,?_,fun y hy=>?_,fun y hy=>?_⟩
 ·rw [Maps.size_put h.tidy,h.new x hx,h.size];simp
 ·rw [aF2] at hy ⊢
  by_cases he:x=y
  ·subst he
   rw [if_pos rfl]
   exact ⟨Maps.has_put_same h.tidy.isMap hkey _,fun z=>Maps.atKey_put_same h.tidy.isMap hkey _ _⟩
  ·rw [if_neg he] at hy ⊢
   have hne:(Lit.string y.data.toList)≠.string x.data.toList:=fun e=>he (aDh (by simpa using e.symm))
   have ho:=h.old y hy
   exact ⟨by rw [Maps.has_put_other hne];exact ho.1,fun z=>by rw [Maps.atKey_put_other hne];exact ho.2 z⟩
 ·rw [aF2] at hy
  by_cases he:x=y
  ·rw [if_pos he] at hy;omega
  ·rw [if_neg he] at hy
   have hne:(Lit.string y.data.toList)≠.string x.data.toList:=fun e=>he (aDh (by simpa using e.symm))
   rw [Maps.has_put_other hne]
   exact h.new y hy
set_option maxHeartbeats 1000000 in
theorem aLq (g:Nat) (D:DataW Unit) (sn:List ByteArray) (x:ByteArray) (w:World) (hown:w.ownsMap Tryz.prog 9 lB g sn.length D) (hN:nG D sn) (hf:sn.length≤1000000) (hx:x.size≤1000000) :
  Calls Tryz.prog 135 #[.map (some g),.string x] w fun e w'=>∃D':DataW Unit,e=.returned (.int .i64 (mI sn x))∧w'.ownsMap Tryz.prog 9 lB g (nL sn x).length D'∧nG D' (nL sn x)∧w.grownBy w' (some g):=by
 have hkey:keyOf Tryz.prog 9 (.string x)=some (.string x.data.toList):=keyOf_string_mk Tryz.underlying9 (by unfold maxLen;omega)
 obtain ⟨v,ps,hrun,hv⟩:=hown.look_ok (Maps.string_keyed Tryz.underlying9) Tryz.underlying76 (Tryz.zeroValue3 _) (zd:=.lit (.int .i64 0)) (zp:=[]) rfl hkey
 by_cases hp:jF sn x < 0
 ·have HST:Hid (nL sn x=sn++[x]∧mI sn x=(sn.length:Int)):=aA (by unfold nL mI;rw [if_pos hp,if_pos hp];exact ⟨rfl,rfl⟩)
  have hhas:=hN.new x hp
  rw [hhas] at hrun
  rw [wN hN.tidy.isMap hhas] at hv
  have hvv:=aDg hv
  subst hvv
  have HN:=aA (hN.put hp)
  have HKEY:=aA hkey
  have hlen:=hN.size
  clear hv hhas hN hkey hp
  go_enter Tryz.func135,Tryz.ntmps135
  go_wp2_with (first
   | (at_len;refine wpList_len_own _ rfl _ 76 rfl 9 3 Tryz.underlying76 _ g sn.length D rfl hown ?_)
   | (at_mapUpdate;refine wpList_mapUpdate_own _ rfl _ _ _ 76 rfl 9 3 (Maps.string_keyed Tryz.underlying9) Tryz.underlying76 lB g sn.length D rfl hown (by unfold maxLen;omega) _ _ (.string x.data.toList) rfl rfl (aB HKEY) (.lit (.int .i64 sn.length)) [] ?_ ?_)
   | go_in)
  case refine_1=>rfl
  intro w1 hown1 hg1
  have HO:=aA hown1
  have HG:=aA hg1
  clear hown1 hg1
  go_wp2
  go_ret
  rw [HST.out.1,HST.out.2]
  exact ⟨_,rfl,by rw [List.length_append];exact HO.out,HN.out,HG.out⟩
 ·have HST:Hid (nL sn x=sn∧mI sn x=jF sn x):=aA (by unfold nL mI;rw [if_neg hp,if_neg hp];exact ⟨rfl,rfl⟩)
  have ho:=hN.old x (by omega)
  rw [ho.1] at hrun
  rw [ho.2] at hv
  have hvv:=aDg hv
  subst hvv
  have HN:=aA hN
  have HOW:=aA hown
  clear hv ho hN hkey hp hown
  go_enter Tryz.func135,Tryz.ntmps135
  go_wp2
  go_ret
  rw [HST.out.1,HST.out.2]
  exact ⟨D,rfl,HOW.out,HN.out,⟨rfl,rfl,rfl,Nat.le_refl _,fun _ _ _=>rfl⟩⟩
structure bH (B B' mg:Nat) (w w':World):Prop where
 os:w'.os=w.os
 tape:w'.tape=w.tape
 output:w'.output=w.output
 size:w.heap.size≤w'.heap.size
 block:∀k,k < w.heap.size→(k < B∨(k≠mg∧∀cs T fr,w.heap[k]?=some (.cells cs T fr)→T≠3∧T≠78∧(T=28→k < B')))→w'.heap[k]?=w.heap[k]?
theorem bH.refl (B B' mg:Nat) (w:World):bH B B' mg w w:=⟨rfl,rfl,rfl,Nat.le_refl _,fun _ _ _=>rfl⟩
theorem bH.trans {B B' mg:Nat} {a b c:World} (h:bH B B' mg a b) (k:bH B B' mg b c):bH B B' mg a c:=
 ⟨k.os.trans h.os,k.tape.trans h.tape,k.output.trans h.output,Nat.le_trans h.size k.size,fun i hi hc=>by
  have e:=h.block i hi hc
  rw [k.block i (Nat.lt_of_lt_of_le hi h.size) (by rw [e];exact hc),e]⟩
theorem bH.of_below {B B' mg:Nat} {w w':World} (h:Below w.heap.size w w'):bH B B' mg w w':=⟨h.os,h.tape,h.output,h.size,fun k hk _=>h.block k hk⟩
theorem bH.below {B B' mg:Nat} {w w':World} (h:bH B B' mg w w') (hB:B≤w.heap.size):Below B w w':=⟨h.os,h.tape,h.output,h.size,fun k hk=>h.block k (by omega) (Or.inl hk)⟩
theorem bH.mono {B B1 B2 mg:Nat} {w w':World} (h:bH B B2 mg w w') (hB:B1≤B2):bH B B1 mg w w':=
 ⟨h.os,h.tape,h.output,h.size,fun k hk hc=>h.block k hk (hc.imp id fun ⟨h0,hc⟩=>⟨h0,fun cs T fr he=>by
  obtain ⟨h1,h2,h3⟩:=hc cs T fr he
  exact ⟨h1,h2,fun e=>Nat.lt_of_lt_of_le (h3 e) hB⟩⟩)⟩
theorem bH.grownBox {B B' mg:Nat} {a w w':World} {pb:Nat} {left:Value} {k x:Int} {wd:ByteArray} {vC vP vM:Value} (h:bH B B' mg a w) (hb:bF w pb left k x wd vC vP vM) (hp:B≤pb) (hg:w.grownBy w' (some pb)):bH B B' mg a w':=by
 refine h.trans ⟨hg.os,hg.tape,hg.output,hg.size,fun k hk hc=>hg.block k hk ?_⟩
 intro e
 simp at e
 subst e
 rcases hc with hc | ⟨_,hc⟩
 ·omega
 ·exact (hc _ _ _ hb).2.1 rfl
theorem bH.grownMap {B B' mg:Nat} {a w w':World} (h:bH B B' mg a w) (hm:B≤mg) (hg:w.grownBy w' (some mg)):bH B B' mg a w':=by
 refine h.trans ⟨hg.os,hg.tape,hg.output,hg.size,fun k hk hc=>hg.block k hk ?_⟩
 intro e
 simp at e
 subst e
 rcases hc with hc | ⟨hc,_⟩
 ·omega
 ·exact hc rfl
theorem bH.grownRow {B B' mg B0:Nat} {a w w':World} {e:TypeId} {size:Nat} {v:Value} {n:Nat} {xs:List Value} (h:bH B B' mg a w) (ho:w.ownsRow B0 e size v n xs) (hB:B≤B0) (he:e=3∨e=28∧B'≤B0) (hg:w.grownBy w' v.ownBlock):bH B B' mg a w':=by
 refine h.trans ⟨hg.os,hg.tape,hg.output,hg.size,fun k hk hc=>hg.block k hk ?_⟩
 intro e'
 obtain ⟨_,⟨rfl,_⟩ | ⟨g,cap,cur,rfl,hb,hh,_⟩⟩:=ho
 ·simp [Value.ownBlock] at e'
 ·simp [Value.ownBlock] at e'
  subst e'
  rcases hc with hc | ⟨_,hc⟩
  ·omega
  ·obtain ⟨h1,_,h4⟩:=hc _ _ _ hh
   rcases he with rfl | ⟨rfl,hx⟩
   ·exact h1 rfl
   ·have:=h4 rfl
    omega
theorem bH.own {B B' mg B0:Nat} {w w':World} {e:TypeId} {size:Nat} {v:Value} {n:Nat} {xs:List Value} (h:bH B B' mg w w') (ho:w.ownsRow B0 e size v n xs) (he:e≠3∧e≠78) (hn:e=28→w.heap.size≤B') (hmg:v.ownBlock≠some mg):w'.ownsRow B0 e size v n xs:=by
 obtain ⟨h1,⟨rfl,h2⟩ | ⟨g,cap,cur,rfl,hb,hh,hc,hm',hz,ht⟩⟩:=ho
 ·exact ⟨h1,Or.inl ⟨rfl,h2⟩⟩
 ·have hlt:=(Array.getElem?_eq_some_iff.1 hh).1
  refine ⟨h1,Or.inr ⟨g,cap,cur,rfl,hb,?_,hc,hm',hz,ht⟩⟩
  rw [h.block g hlt (Or.inr ⟨fun e'=>hmg (by rw [e'];rfl),fun cs T fr hx=>?_⟩)]
  ·exact hh
  ·rw [hh] at hx
   simp at hx
   obtain ⟨_,rfl,_⟩:=hx
   exact ⟨he.1,he.2,fun e'=>by have:=hn e';omega⟩
theorem bF.apart {w:World} {pb:Nat} {left:Value} {k a:Int} {wd:ByteArray} {vC vP vM:Value} (h:bF w pb left k a wd vC vP vM) {B:Nat} {e:TypeId} {size:Nat} {v:Value} {n:Nat} {xs:List Value} (ho:w.ownsRow B e size v n xs) (he:e≠78):v.ownBlock=none∨v.ownBlock≠some pb:=by
 obtain ⟨_,⟨rfl,_⟩ | ⟨g,cap,cur,rfl,_,hh,_⟩⟩:=ho
 ·exact Or.inl rfl
 ·right
  intro hx
  simp [Value.ownBlock] at hx
  subst hx
  unfold bF at h
  rw [hh] at h
  simp at h
  exact he h.2
theorem pZ {w:World} {B:Nat} {e:TypeId} {size:Nat} {v:Value} {n mg k:Nat} {xs:List Value} {D:DataW Unit} (h:w.ownsRow B e size v n xs) (hm:w.ownsMap Tryz.prog 9 lB mg k D):v.ownBlock≠some mg:=by
 obtain ⟨es,cl,hh,_⟩:=hm
 intro e'
 obtain ⟨_,⟨rfl,_⟩ | ⟨g,cap,cur,rfl,_,hh',_⟩⟩:=h
 ·simp [Value.ownBlock] at e'
 ·simp [Value.ownBlock] at e'
  subst e'
  rw [hh] at hh'
  cases hh'
theorem wJ {w:World} {pb:Nat} {left:Value} {k a:Int} {wd:ByteArray} {vC vP vM:Value} {mg n:Nat} {D:DataW Unit} (h:bF w pb left k a wd vC vP vM) (hm:w.ownsMap Tryz.prog 9 lB mg n D):pb≠mg:=by
 obtain ⟨es,cl,hh,_⟩:=hm
 rintro rfl
 unfold bF at h
 rw [hh] at h
 cases h
structure bJ (B:Nat) (w:World) (pb:Nat) (s:ByteArray) (T:List Tk) (st:aV) (g:Nat) (vC vP:Value) (mg:Nat):Prop where
 pp:cL B w pb s T st.i g vC vP (.map (some mg))
 places:w.ownsRow B 3 1 vP st.places.length (lL st.places)
 map:∃D,w.ownsMap Tryz.prog 9 lB mg st.vars.length D∧nG D st.vars
 mhigh:B≤mg
section
variable {B:Nat} {w w':World} {pb:Nat} {s:ByteArray} {T:List Tk} {i g:Nat} {vC vP vM:Value}
theorem cL.below (h:cL B w pb s T i g vC vP vM) (k:Below w.heap.size w w'):cL B w' pb s T i g vC vP vM:=by
 obtain ⟨q,j,m,c,hP⟩:=h
 exact ⟨q,j,m,c,hP.sc.below k,hP.lt,hP.on⟩
theorem cL.box (h:cL B w pb s T i g vC vP vM):∃left,bF w pb left (cU (aE T i).kind) (aE T i).pos (aE T i).txt vC vP vM∧B≤pb:=by
 obtain ⟨q,j,m,c,hP⟩:=h
 exact ⟨_,hP.sc.box,hP.sc.high⟩
theorem cL.lt (h:cL B w pb s T i g vC vP vM):i < T.length:=by
 obtain ⟨q,j,m,c,hP⟩:=h
 exact hP.lt
theorem cL.far (h:cL B w pb s T i g vC vP vM) {row:Option Nat} (hg:w.grownBy w' row) (h1:row≠some pb) (h2:row≠some g):cL B w' pb s T i g vC vP vM:=by
 obtain ⟨q,j,m,c,hP⟩:=h
 refine ⟨q,j,m,c,⟨?_,hP.sc.high,hP.sc.row.kept hg (Or.inr fun e=>h2 (by rw [←e];rfl)),hP.sc.len,hP.sc.drop,hP.sc.le⟩,hP.lt,hP.on⟩
 have hb:=hP.sc.box
 have hlt:=hb.lt
 unfold bF at hb ⊢
 rw [hg.block pb hlt (fun e=>h1 e.symm)]
 exact hb
theorem cL.glyph (h:cL B w pb s T i g vC vP vM):∃cs fr,w.heap[g]?=some (.cells cs 136 fr):=by
 obtain ⟨q,j,m,c,hP⟩:=h
 obtain ⟨_,⟨e,_⟩ | ⟨g',cap,cur,e,_,hh,_⟩⟩:=hP.sc.row
 ·simp at e
 ·simp at e
  obtain ⟨rfl,_⟩:=e
  exact ⟨_,_,hh⟩
end
section
variable {B:Nat} {w w' w2:World} {pb:Nat} {s:ByteArray} {T:List Tk} {st:aV} {g mg:Nat} {vC vP:Value}
theorem bJ.below (h:bJ B w pb s T st g vC vP mg) (k:Below w.heap.size w w'):bJ B w' pb s T st g vC vP mg:=by
 obtain ⟨D,h1,h2⟩:=h.map
 exact ⟨h.pp.below k,aY h.places k (Nat.le_refl _),⟨D,h1.kept (lC k none) (by simp),h2⟩,h.mhigh⟩
theorem bJ.take (h:bJ B w pb s T st g vC vP mg) {i':Nat} (hg:w.grownBy w' (some pb)) (hp:cL B w' pb s T i' g vC vP (.map (some mg))):bJ B w' pb s T ⟨i',st.vars,st.places⟩ g vC vP mg:=by
 obtain ⟨D,h1,h2⟩:=h.map
 obtain ⟨left,hb,_⟩:=h.pp.box
 exact ⟨hp,h.places.kept hg (hb.apart h.places (by decide)),⟨D,h1.kept hg (by simpa using fun e=>wJ hb h1 e.symm),h2⟩,h.mhigh⟩
theorem cL.row_apart {i:Nat} {vM:Value} (h:cL B w pb s T i g vC vP vM) {B0:Nat} {e:TypeId} {size:Nat} {v:Value} {n:Nat} {xs:List Value} (ho:w.ownsRow B0 e size v n xs) (he:e≠78∧e≠136):v.ownBlock≠some pb∧v.ownBlock≠some g:=by
 obtain ⟨left,hb,_⟩:=h.box
 obtain ⟨cs,fr,hg⟩:=h.glyph
 constructor
 ·rcases hb.apart ho he.1 with e | e
  ·rw [e];simp
  ·exact e
 ·intro e'
  obtain ⟨_,⟨rfl,_⟩ | ⟨g',cap,cur,rfl,_,hh,_⟩⟩:=ho
  ·simp [Value.ownBlock] at e'
  ·simp [Value.ownBlock] at e'
   subst e'
   rw [hh] at hg
   simp at hg
   exact he.2 hg.2.1
theorem bJ.far (h:bJ B w pb s T st g vC vP mg) {B0:Nat} {e:TypeId} {size:Nat} {v:Value} {n:Nat} {xs:List Value} (ho:w.ownsRow B0 e size v n xs) (he:e≠78∧e≠136∧e≠3) (hg:w.grownBy w' v.ownBlock):bJ B w' pb s T st g vC vP mg:=by
 obtain ⟨D,h1,h2⟩:=h.map
 obtain ⟨a1,a2⟩:=h.pp.row_apart ho ⟨he.1,he.2.1⟩
 exact ⟨h.pp.far hg a1 a2,h.places.kept hg (eZ h.places ho he.2.2.symm),⟨D,h1.kept hg (fun e=>pZ ho h1 e.symm),h2⟩,h.mhigh⟩
theorem bJ.var (h:bJ B w pb s T st g vC vP mg) {sn:List ByteArray} {D:DataW Unit} (hg:w.grownBy w' (some mg)) (hm:w'.ownsMap Tryz.prog 9 lB mg sn.length D) (hN:nG D sn):bJ B w' pb s T ⟨st.i,sn,st.places⟩ g vC vP mg:=by
 obtain ⟨D0,h1,h2⟩:=h.map
 obtain ⟨left,hb,_⟩:=h.pp.box
 obtain ⟨cs,fr,hgl⟩:=h.pp.glyph
 refine ⟨h.pp.far hg (by simpa using fun e=>wJ hb h1 e.symm) ?_,h.places.kept hg (Or.inr (pZ h.places h1)),⟨D,hm,hN⟩,h.mhigh⟩
 intro e
 simp at e
 subst e
 obtain ⟨es,cl,hh,_⟩:=h1
 rw [hgl] at hh
 cases hh
theorem bJ.place (h:bJ B w pb s T st g vC vP mg) {v:Value} {p:Pl} (ho:w2.ownsRow B 3 1 v (st.places.length+1) (lL st.places++[.int .i64 p.2.2.2])) (hg:w.grownBy w2 vP.ownBlock) :
  w2.cell? ⟨pb,5,none⟩=some vP∧w2.frozen? ⟨pb,5,none⟩=false∧bJ B (w2.setCell ⟨pb,5,none⟩ v) pb s T ⟨st.i,st.vars,st.places++[p]⟩ g vC v mg:=by
 obtain ⟨D,h1,h2⟩:=h.map
 obtain ⟨a1,a2⟩:=h.pp.row_apart h.places (by decide)
 obtain ⟨q,j,m,c,hP⟩:=h.pp.far hg a1 a2
 have hb:=hP.sc.box
 have h1':=h1.kept hg (fun e=>pZ h.places h1 e.symm)
 refine ⟨hb.c5,hb.soft 5,⟨⟨q,j,m,c,⟨heap_setCell_same w2 pb 5 _ _ _ hb,hP.sc.high,hb.row hP.sc.row (by decide) _ _,hP.sc.len,hP.sc.drop,hP.sc.le⟩,hP.lt,hP.on⟩,hb.row ?_ (by decide) _ _,⟨D,h1'.setCell (fun e=>wJ hb h1' e.symm) _,h2⟩,h.mhigh⟩⟩
 rw [aPm,List.length_append]
 exact ho
end
def qA (B B' pb:Nat) (w:World) (s:ByteArray) (T:List Tk) (g:Nat) (vC:Value) (mg:Nat) (r:Except Nat (aV×List Nd)) (e:Ending) (w':World):Prop:=
 bH B B' mg w w'∧
  match r with
  | .ok (s1,l1)=>∃vl vP,e=.returned (.tuple #[vl,.bool true])∧bJ B w' pb s T s1 g vC vP mg∧w'.ownsRow B' 28 2 vl l1.length (aQ l1)
  | .error p=>∃a n c i vP vM,e=.returned (.tuple #[.slice a n c,.bool false])∧cL B w' pb s T i g vC vP vM∧(aE T i).pos=p
def aDi (B pb:Nat) (s:ByteArray) (T:List Tk) (g:Nat) (vC:Value) (mg f:Nat):Prop:=
 ∀(B':Nat) (atom:Bool) (st:aV) (vP vl:Value) (l:List Nd) (w:World),bJ B w pb s T st g vC vP mg→w.ownsRow B' 28 2 vl l.length (aQ l)→B≤B'→B'≤w.heap.size→(atom=true→(aE T st.i).kind≠118)→T.length < st.i+f→l.length≤st.i→st.places.length≤st.i→st.vars.length≤st.i→
  Calls Tryz.prog 121 #[.pointer (some ⟨pb,0,none⟩),vl] w fun e w'=>qA B B' pb w s T g vC mg (cD T f atom st l) e w'
section
variable {B B' pb:Nat} {s:ByteArray} {T:List Tk} {g:Nat} {vC vP vl:Value} {mg:Nat} {st:aV} {l:List Nd} {w:World}
theorem aLr {w1 w2 w3:World} {D:DataW Unit} {sn:List ByteArray} {v3:Value} {x:Int} {X:Obj} {st1:aV} (h:bJ B w1 pb s T st1 g vC vP mg) (hl:w1.ownsRow B' 28 2 vl l.length (aQ l)) (hBB:B≤B') (hk:bH B B' mg w w1)
  (hg:w1.grownBy w2 (some mg)) (hm:w2.ownsMap Tryz.prog 9 lB mg sn.length D) (hN:nG D sn) (ho:w3.ownsRow B' 28 2 v3 (l.length+1) (aQ l++[.string ⟨#[]⟩,.int .i64 x])) (hg3:(w2.alloc X).grownBy w3 vl.ownBlock) :
  bJ B w3 pb s T ⟨st1.i,sn,st1.places⟩ g vC vP mg∧w3.ownsRow B' 28 2 v3 (l++[((⟨#[]⟩ : ByteArray),x)]).length (aQ (l++[((⟨#[]⟩ : ByteArray),x)]))∧bH B B' mg w w3:=by
 obtain ⟨D0,m1,_⟩:=h.map
 have h2:=h.var hg hm hN
 have hl2:=hl.kept hg (Or.inr (pZ hl m1))
 have hA:=(Below.refl w2.heap.size w2).alloc (Nat.le_refl _) X
 refine ⟨(h2.below hA).far (aY hl2 hA (Nat.le_refl _)) (by decide) hg3,by rw [sG,List.length_append];exact ho,?_⟩
 exact ((hk.grownMap h.mhigh hg).trans (.of_below hA)).grownRow (aY hl2 hA (Nat.le_refl _)) hBB (Or.inr ⟨rfl,Nat.le_refl _⟩) hg3
set_option maxHeartbeats 3000000 in
theorem aLs (atom:Bool) (f:Nat) (hT:∀i,(aE T i).kind∈fO) (hx:∀i,(aE T i).txt.size≤1000000) (hs:s.size≤3000) (hTl:T.length≤1000000) (h:bJ B w pb s T st g vC vP mg) (hl:w.ownsRow B' 28 2 vl l.length (aQ l)) (hBB:B≤B') (hBw:B'≤w.heap.size) (hk:(aE T st.i).kind=118) (hat:atom=false) (hl1:l.length≤st.i) (hv1:st.vars.length≤st.i) :
  Calls Tryz.prog 121 #[.pointer (some ⟨pb,0,none⟩),vl] w fun e w'=>qA B B' pb w s T g vC mg (cD T (f+1) atom st l) e w':=by
 subst hat
 have hlt:=h.pp.lt
 obtain ⟨iN,hN,hN0,hN1,hN2⟩:=info_parts nY
 obtain ⟨left,hb,_⟩:=h.pp.box
 obtain ⟨la,lc,rfl⟩:=aR hl
 rw [hk,show cU 118=65 from rfl] at hb
 have d1:=hb.c1
 have d2:=hb.c2
 have d3:=hb.c3
 have CT:=aA (fun o=>kK 118 (by decide) (by decide) (by decide) hT hs (h.pp.below ((Below.refl w.heap.size w).alloc (Nat.le_refl _) o)))
 rw [hk,show cU 118=65 from rfl] at CT
 simp only [if_true,decide_true] at CT
 have HP:Hid (cD T (f+1) false st l=.ok (⟨st.i+1,nL st.vars (aE T st.i).txt,st.places⟩,l++[(⟨#[]⟩,mI st.vars (aE T st.i).txt)])):=aA (by rw [cD,if_pos ⟨hk,rfl⟩])
 obtain ⟨tx,htx⟩ : ∃tx,(aE T st.i).txt=tx:=⟨_,rfl⟩
 obtain ⟨tp,htp⟩ : ∃tp,(aE T st.i).pos=tp:=⟨_,rfl⟩
 have hxs:=hx st.i
 rw [htx] at d3 HP hxs
 rw [htp] at d2
 have HQ:=aA h
 have HL:=aA hl
 clear h hl hb hk hx hT htx htp
 go_enter Tryz.func121,Tryz.ntmps121
 go_upto_region 3 with (first
  | (go_at_call 83;refine (aB CT _).mono ?_;rintro e w1 ⟨rfl,hg1,hp1⟩;have hq1:=(HQ.out.below ((Below.refl w.heap.size w).alloc (Nat.le_refl _) _)).take hg1 hp1;have hx1:=hg1.block w.heap.size (by simp) (by obtain ⟨left,hb,_⟩:=HQ.out.pp.box;have:=hb.lt;simp;omega);have HQ1:=aA hq1;have HX1:=aA hx1;have HG1:=aA hg1;clear hg1 hp1 hq1 hx1)
  | go_in)
 have hx1:w1.heap[w.heap.size]?=some (.cells #[.int .i32 65,.int .i64 tp,.string tx] 71):=HX1.out.trans (by show (w.heap.push _)[w.heap.size]?=_;simp)
 have t2:w1.cell? ⟨w.heap.size,2,none⟩=some (.string tx):=by unfold World.cell?;rw [hx1];rfl
 obtain ⟨left1,hb1,_⟩:=HQ1.out.pp.box
 have m6:=hb1.c6
 have hA:=(Below.refl w.heap.size w).alloc (Nat.le_refl _) (.cells #[.int .i32 65,.int .i64 tp,.string tx] 71)
 obtain ⟨leftA,hbA,hBp⟩:=(HQ.out.below hA).pp.box
 have HK1:Hid (bH B B' mg w w1):=aA ((bH.of_below hA).grownBox hbA hBp HG1.out)
 have HL1:=aA ((aY HL.out hA (Nat.le_refl _)).kept HG1.out (hbA.apart (aY HL.out hA (Nat.le_refl _)) (by decide)))
 obtain ⟨D,hmp,hmn⟩:=HQ1.out.map
 have CN:=aA (aLq mg D st.vars tx w1.drew hmp hmn (by omega) hxs)
 have hz1:=HK1.out.size
 have HMP:=aA hmp
 clear hmp hmn hx1 hb1 hbA hA HQ HL HX1 HG1 CT d1 d2 d3
 go_region_law (first
  | (refine aPq (by rfl) 135 _ _ (by rfl) (enters_of Tryz.func135 (by kernel_rfl) rfl) _ (by rfl) (aB CN) ?_;rintro e w2 ⟨D2,rfl,hm2,hn2,hg2⟩;refine ⟨_,rfl,?_⟩;have HM2:=aA hm2;have HN2:=aA hn2;have HG2:=aA hg2;have HL2:=aA (World.ownsRow.kept (w:=w1.drew) HL1.out hg2 (Or.inr (pZ HL1.out HMP.out)));have hz2:=hg2.size;clear hm2 hn2 hg2)
  | (refine mL ?g1 (.tmp 13) (.tmp 22) 22 28 ?g2 (.agg #[.string ⟨#[]⟩,.int .i64 0]) 2 24 Tryz.underlying22 nY ?g3 ?g4 ?g5 B' _ l.length (aQ l) ?g6 (HL2.out.alloc _) ?g7 ?g8 w2.heap.size 1 [.string ⟨#[]⟩,.int .i64 (mI st.vars tx)] ?g9 ?g10 (iB w2 _ _ 28 w2.heap.size rfl) (tN _ _) ?_;(case g1=>rfl);(case g2=>rfl);(case g3=>rfl);(case g4=>decide);(case g5=>decide);(case g6=>rfl);(case g7=>omega);(case g8=>(simp at hz2 ⊢;omega));(case g9=>rfl);(case g10=>rfl);intro v3 w3 ho3 hg3;have hput:=aLr (w1:=w1.drew) (HQ1.out.below (aN (w1:=w1.drew) ⟨1,rfl⟩)) HL1.out hBB (HK1.out.trans (.of_below (aN (w1:=w1.drew) ⟨1,rfl⟩))) HG2.out HM2.out HN2.out ho3 hg3;have HPUT:=aA hput;obtain ⟨va3,vc3,rfl⟩:=aR ho3;clear ho3 hg3 hput))
 all_goals
  go_wp2
  go_ret2
  refine ⟨HPUT.out.2.2,?_⟩
  rw [HP.out]
  exact ⟨_,_,rfl,HPUT.out.1,HPUT.out.2.1⟩
set_option maxHeartbeats 3000000 in
theorem aLt (atom:Bool) (f:Nat) (hT:∀i,(aE T i).kind∈fO) (hs:s.size≤3000) (h:bJ B w pb s T st g vC vP mg) (hk:(aE T st.i).kind≠118) (hk2:(aE T st.i).kind≠110) :
  Calls Tryz.prog 121 #[.pointer (some ⟨pb,0,none⟩),vl] w fun e w'=>qA B B' pb w s T g vC mg (cD T (f+1) atom st l) e w':=by
 obtain ⟨left,hb,_⟩:=h.pp.box
 have d1:=hb.c1
 have d2:=hb.c2
 have d3:=hb.c3
 have CT:=aA (fun o=>kK 118 (by decide) (by decide) (by decide) hT hs (h.pp.below ((Below.refl w.heap.size w).alloc (Nat.le_refl _) o)))
 rw [show cU 118=65 from rfl,if_neg hk,decide_eq_false hk] at CT
 have CU:=aA (fun w1 (hp:cL B w1 pb s T st.i g vC vP (.map (some mg)))=>kK 110 (by decide) (by decide) (by decide) hT hs hp)
 rw [show cU 110=97 from rfl,if_neg hk2,decide_eq_false hk2] at CU
 have HP:Hid (cD T (f+1) atom st l=.error (aE T st.i).pos):=aA (by rw [cD,if_neg (fun e=>hk e.1),if_pos hk2])
 have HQ:=aA h
 clear h hb hT hk hk2
 generalize cU (aE T st.i).kind=K at *
 generalize (aE T st.i).txt=tx at *
 obtain ⟨tp,htp⟩ : ∃tp,(aE T st.i).pos=tp:=⟨_,rfl⟩
 rw [htp] at d2 HP
 have HTP:=aA htp
 clear htp
 go_enter Tryz.func121,Tryz.ntmps121
 go_wp2_with (first
  | (go_at_call 83;refine (CU.out _ HP1.out).mono ?_;rintro e w2 ⟨rfl,hg2,hp2⟩;have HG2:=aA hg2;have HP2:=aA hp2;clear hg2 hp2)
  | (go_at_call 83;refine (aB CT _).mono ?_;rintro e w1 ⟨rfl,hg1,hp1⟩;have HG1:=aA hg1;have HP1:=aA hp1;clear hg1 hp1)
  | go_in)
 go_ret2
 have hA:=(Below.refl w.heap.size w).alloc (Nat.le_refl _) (.cells #[.int .i32 K,.int .i64 tp,.string tx] 71)
 obtain ⟨leftA,hbA,hBp⟩:=(HQ.out.below hA).pp.box
 obtain ⟨left1,hb1,_⟩:=HP1.out.box
 refine ⟨((bH.of_below hA).grownBox hbA hBp HG1.out).grownBox hb1 hBp HG2.out,?_⟩
 rw [HP.out]
 exact ⟨_,_,_,_,_,_,rfl,HP2.out,HTP.out⟩
end
def aDj (B B' pb:Nat) (w:World) (s:ByteArray) (T:List Tk) (g:Nat) (vC:Value) (mg nm:Nat) (r:Except Nat (aV×List Nd×Nat)) (e:Ending) (w':World):Prop:=
 bH B B' mg w w'∧
  match r with
  | .ok (s1,l1,n)=>∃vl vP,e=.returned (.tuple #[vl,.bool true])∧bJ B w' pb s T s1 g vC vP mg∧w'.ownsRow B' 28 2 vl (dG l1 nm n).length (aQ (dG l1 nm n))
  | .error p=>∃a n c i vP vM,e=.returned (.tuple #[.slice a n c,.bool false])∧cL B w' pb s T i g vC vP vM∧(aE T i).pos=p
def aDk (B pb:Nat) (s:ByteArray) (T:List Tk) (g:Nat) (vC:Value) (mg f:Nat):Prop:=
 ∀(B':Nat) (st:aV) (vP vl:Value) (l:List Nd) (x:ByteArray) (w:World),bJ B w pb s T ⟨st.i+1,st.vars,st.places⟩ g vC vP mg→w.ownsRow B' 28 2 vl (l.length+1) (aQ (l++[(x,0)]))→B≤B'→B'≤w.heap.size→T.length < st.i+f→l.length+1≤st.i→st.places.length≤st.i→st.vars.length≤st.i→
  Calls Tryz.prog 136 #[.pointer (some ⟨pb,0,none⟩),vl] w fun e w'=>aDj B B' pb w s T g vC mg l.length (dW T f st (l++[(x,0)]) 0) e w'
theorem bJ.parts {B:Nat} {w:World} {pb:Nat} {s:ByteArray} {T:List Tk} {st:aV} {g:Nat} {vC vP:Value} {mg:Nat} (h:bJ B w pb s T st g vC vP mg) (k n:Nat):bJ B w pb s T ⟨st.i,st.vars,oC st.places k n⟩ g vC vP mg:=
 ⟨h.pp,by rw [aPn,aPo];exact h.places,h.map,h.mhigh⟩
theorem bH.boxSet {B B' mg:Nat} {a w:World} {pb:Nat} {left:Value} {k x:Int} {wd:ByteArray} {vC vP vM:Value} (h:bH B B' mg a w) (hb:bF w pb left k x wd vC vP vM) (hp:B≤pb) (j:Nat) (u:Value):bH B B' mg a (w.setCell ⟨pb,j,none⟩ u):=h.grownBox hb hp (bZ _ _ _)
section
variable {B B' pb:Nat} {s:ByteArray} {T:List Tk} {g:Nat} {vC vP vl:Value} {mg:Nat} {st:aV} {l:List Nd} {w:World}
theorem aLu {w2 w3:World} {st2:aV} {v:Value} {p:Pl} {tb:Nat} {o:Obj} {X:Obj} (h:bJ B w2 pb s T st2 g vC vP mg) (hl:w2.ownsRow B' 28 2 vl l.length (aQ l)) (hk:bH B B' mg w w2) (ht:w2.heap[tb]?=some o) (hto:∃cs,o=.cells cs 71) (ho:w3.ownsRow B 3 1 v (st2.places.length+1) (lL st2.places++[.int .i64 p.2.2.2])) (hg:(w2.alloc X).grownBy w3 vP.ownBlock) :
  w3.cell? ⟨pb,5,none⟩=some vP∧w3.frozen? ⟨pb,5,none⟩=false∧bJ B (w3.setCell ⟨pb,5,none⟩ v) pb s T ⟨st2.i,st2.vars,st2.places++[p]⟩ g vC v mg∧(w3.setCell ⟨pb,5,none⟩ v).ownsRow B' 28 2 vl l.length (aQ l)∧bH B B' mg w (w3.setCell ⟨pb,5,none⟩ v)∧(w3.setCell ⟨pb,5,none⟩ v).heap[tb]?=some o:=by
 have hA:=(Below.refl w2.heap.size w2).alloc (Nat.le_refl _) X
 have hQA:=h.below hA
 obtain ⟨c5,f5,hQ⟩:=hQA.place (p:=p) ho hg
 obtain ⟨a1,a2⟩:=hQA.pp.row_apart hQA.places (by decide)
 obtain ⟨left3,hb3,hBp⟩:=(hQA.pp.far hg a1 a2).box
 have hlA:=aY hl hA (Nat.le_refl _)
 have hl3:=hlA.kept hg (eZ hlA hQA.places (by decide))
 have hk3:=(hk.trans (.of_below hA)).grownRow hQA.places (Nat.le_refl _) (Or.inl rfl) hg
 have hlt:=(Array.getElem?_eq_some_iff.1 ht).1
 obtain ⟨cs,rfl⟩:=hto
 have htA:(w2.alloc X).heap[tb]?=some (.cells cs 71):=(hA.block tb hlt).trans ht
 refine ⟨c5,f5,hQ,hb3.row hl3 (by decide) _ _,hk3.boxSet hb3 hBp _ _,?_⟩
 have hne:tb≠pb:=by
  rintro rfl
  obtain ⟨leftA,hbA,_⟩:=hQA.pp.box
  unfold bF at hbA
  rw [htA] at hbA
  simp at hbA
 rw [Below.heap_setCell _ _ _ _ hne,hg.block tb (by have:=hA.size;omega) ?_]
 ·exact htA
 ·intro e
  obtain ⟨_,⟨rfl,_⟩ | ⟨g',cap,cur,rfl,_,hh,_⟩⟩:=hQA.places
  ·simp [Value.ownBlock] at e
  ·simp [Value.ownBlock] at e
   subst e
   rw [htA] at hh
   simp at hh
def aDl (k m:Nat):Except Nat (aV×List Nd×Nat)→Except Nat (aV×List Nd)
 | .error p=>.error p
 | .ok (st',l',n)=>.ok (⟨st'.i,st'.vars,oC st'.places k n⟩,dG l' m n)
theorem aLv {w7 w8:World} {r:Except Nat (aV×List Nd×Nat)} {e:Ending} {k:Nat} (hk:bH B B' mg w w7) (h:aDj B B' pb w7 s T g vC mg l.length r e w8) :
  (∃a n c b,e=.returned (.tuple #[.slice a n c,.bool b]))∧qA B B' pb w s T g vC mg (aDl k l.length r) e w8:=by
 obtain ⟨h1,h2⟩:=h
 cases r with
 | error p=>
  obtain ⟨a,n,c,i,vP,vM,rfl,h3,h4⟩:=h2
  exact ⟨⟨a,n,c,false,rfl⟩,hk.trans h1,a,n,c,i,vP,vM,rfl,h3,h4⟩
 | ok r=>
  obtain ⟨s1,l1,n⟩:=r
  obtain ⟨vl,vP,rfl,h3,h4⟩:=h2
  obtain ⟨a,c,hs⟩:=aR h4
  exact ⟨⟨a,_,c,true,by rw [hs]⟩,hk.trans h1,vl,vP,rfl,h3.parts _ _,h4⟩
set_option maxHeartbeats 4000000 in
theorem aLw (atom:Bool) (f:Nat) (hT:∀i,(aE T i).kind∈fO) (hs:s.size≤3000) (hTl:T.length≤1000000) (hPC:aDk B pb s T g vC mg f) (h:bJ B w pb s T st g vC vP mg) (hl:w.ownsRow B' 28 2 vl l.length (aQ l)) (hBB:B≤B') (hBw:B'≤w.heap.size) (hk:(aE T st.i).kind=110) (hf:T.length < st.i+(f+1)) (hl1:l.length≤st.i) (hp1:st.places.length≤st.i) (hv1:st.vars.length≤st.i) :
  Calls Tryz.prog 121 #[.pointer (some ⟨pb,0,none⟩),vl] w fun e w'=>qA B B' pb w s T g vC mg (cD T (f+1) atom st l) e w':=by
 have hlt:=h.pp.lt
 obtain ⟨iN,hN,hN0,hN1,hN2⟩:=info_parts nY
 obtain ⟨left,hb,_⟩:=h.pp.box
 obtain ⟨la,lc,rfl⟩:=aR hl
 obtain ⟨va,vc,rfl⟩:=aR h.places
 have d1:=hb.c1
 have d2:=hb.c2
 have d3:=hb.c3
 rw [hk,show cU 110=97 from rfl] at d1
 have CT:=aA (fun o=>kK 118 (by decide) (by decide) (by decide) hT hs (h.pp.below ((Below.refl w.heap.size w).alloc (Nat.le_refl _) o)))
 rw [show cU 118=65 from rfl,if_neg (by rw [hk];decide),decide_eq_false (by rw [hk];decide)] at CT
 have CU:=aA (fun w1 (hp:cL B w1 pb s T st.i g vC (.slice va st.places.length vc) (.map (some mg)))=>kK 110 (by decide) (by decide) (by decide) hT hs hp)
 rw [show cU 110=97 from rfl,if_pos hk,decide_eq_true hk] at CU
 have HQ:=aA h
 have HL:=aA hl
 have HK:=aA hk
 have HT:=aA hT
 have HPC:=aA hPC
 clear h hl hb hk hT hPC
 obtain ⟨tx,htx⟩ : ∃tx,(aE T st.i).txt=tx:=⟨_,rfl⟩
 obtain ⟨tp,htp⟩ : ∃tp,(aE T st.i).pos=tp:=⟨_,rfl⟩
 rw [htp] at d2
 rw [htx] at d3
 have HTX:=aA htx
 have HTP:=aA htp
 clear htx htp
 go_enter Tryz.func121,Tryz.ntmps121
 go_upto_region 6 with (first
  | (go_at_call 83;refine (CU.out _ HP1.out).mono ?_;rintro e w2 ⟨rfl,hg2,hp2⟩;have HG2:=aA hg2;have HP2:=aA hp2;clear hg2 hp2)
  | (go_at_call 83;refine (aB CT _).mono ?_;rintro e w1 ⟨rfl,hg1,hp1'⟩;have HG1:=aA hg1;have HP1:=aA hp1';clear hg1 hp1')
  | go_in)
 have hA:=(Below.refl w.heap.size w).alloc (Nat.le_refl _) (.cells #[.int .i32 97,.int .i64 tp,.string tx] 71)
 have hQA:=HQ.out.below hA
 have hQ1:=hQA.take HG1.out HP1.out
 have hQ2:=hQ1.take HG2.out HP2.out
 obtain ⟨leftA,hbA,hBp⟩:=hQA.pp.box
 obtain ⟨left1,hb1,_⟩:=hQ1.pp.box
 have hlA:=aY HL.out hA (Nat.le_refl _)
 have hl1':=hlA.kept HG1.out (hbA.apart hlA (by decide))
 have hl2':=hl1'.kept HG2.out (hb1.apart hl1' (by decide))
 have hk2:bH B B' mg w w2:=((bH.of_below hA).grownBox hbA hBp HG1.out).grownBox hb1 hBp HG2.out
 have hpbl:pb < w.heap.size:=by obtain ⟨left,hb,_⟩:=HQ.out.pp.box;exact hb.lt
 have hx2:w2.heap[w.heap.size]?=some (.cells #[.int .i32 97,.int .i64 tp,.string tx] 71):=by
  rw [HG2.out.block w.heap.size (by have:=HG1.out.size;simp at this;omega) (by simp;omega),HG1.out.block w.heap.size (by simp) (by simp;omega)]
  show (w.heap.push _)[w.heap.size]?=_
  simp
 have hz2:=hk2.size
 obtain ⟨left2,hb2,_⟩:=hQ2.pp.box
 have p5:=hb2.c5
 have t1:w2.cell? ⟨w.heap.size,1,none⟩=some (.int .i64 tp):=by unfold World.cell?;rw [hx2];rfl
 have t2:w2.cell? ⟨w.heap.size,2,none⟩=some (.string tx):=by unfold World.cell?;rw [hx2];rfl
 have p5A:∀o,(w2.alloc o).cell? ⟨pb,5,none⟩=some (.slice va st.places.length vc):=fun o=>Below.at' ((Below.refl w2.heap.size w2).alloc (Nat.le_refl _) o) (Nat.le_refl _) p5
 have t1A:∀o,(w2.alloc o).cell? ⟨w.heap.size,1,none⟩=some (.int .i64 tp):=fun o=>Below.at' ((Below.refl w2.heap.size w2).alloc (Nat.le_refl _) o) (Nat.le_refl _) t1
 have HQ2:=aA hQ2
 have HL2:=aA hl2'
 have HK2:=aA hk2
 have HX2:=aA hx2
 clear hA hQA hQ1 hQ2 hbA hb1 hb2 hlA hl1' hl2' hk2 hx2 HQ HL HP1 HP2 HG1 HG2 CT CU d1 d2 d3
 go_cut [] (fun wx=>∃v5,bJ B wx pb s T ⟨st.i+1,st.vars,st.places++[(tx,atom,0,(tp:Int))]⟩ g vC v5 mg∧wx.ownsRow B' 28 2 (.slice la l.length lc) l.length (aQ l)∧bH B B' mg w wx∧wx.heap[w.heap.size]?=some (.cells #[.int .i32 97,.int .i64 tp,.string tx] 71))
 case first=>
  refine rM ?_
  have hq2d:Hid (bJ B w2.drew pb s T ⟨st.i+1,st.vars,st.places⟩ g vC (.slice va st.places.length vc) mg):=aA (HQ2.out.below (aN (w1:=w2.drew) ⟨1,rfl⟩))
  have hk2d:Hid (bH B B' mg w w2.drew):=aA (HK2.out.trans (.of_below (aN (w1:=w2.drew) ⟨1,rfl⟩)))
  go_region_law (refine mL ?g1 (.tmp 31) (.tmp 34) 31 3 ?g2 (.int .i64 0) 1 8 Tryz.underlying31 qY ?g3 ?g4 ?g5 B _ st.places.length (lL st.places) ?g6 (hq2d.out.places.alloc _) ?g7 ?g8 w2.heap.size 1 [.int .i64 tp] ?g9 ?g10 (sJ w2.drew (.int .i64 tp) 3 w2.heap.size rfl) (aCf tp) ?_;(case g1=>rfl);(case g2=>rfl);(case g3=>rfl);(case g4=>decide);(case g5=>decide);(case g6=>rfl);(case g7=>omega);(case g8=>(simp;omega));(case g9=>rfl);(case g10=>rfl);intro v3 w3 ho3 hg3;obtain ⟨c5,f5,hp3⟩:=aLu (p:=(tx,atom,0,(tp:Int))) (tb:=w.heap.size) hq2d.out HL2.out hk2d.out HX2.out ⟨_,rfl⟩ ho3 hg3;have HP3:=aA hp3;obtain ⟨va3,vc3,rfl⟩:=aR ho3;clear ho3 hg3 hp3)
  all_goals
   refine oZ ?_
   go_wp2_with fail
   go_meet
   case rel=>exact ⟨_,HP3.out⟩
 case rest=>
  obtain ⟨v5,hQ5,hl5,hk5,hx5⟩:=hcut
  have t2:wc.cell? ⟨w.heap.size,2,none⟩=some (.string tx):=by unfold World.cell?;rw [hx5];rfl
  have HQ5:=aA hQ5
  have HL5:=aA hl5
  have HK5:=aA hk5
  have hz5:=hk5.size
  clear hQ5 hl5 hk5 hx5 HQ2 HL2 HK2 HX2 p5 p5A t1 t1A
  have HNP:Hid (∀(h40:(aE T (st.i+1)).kind≠40),cD T (f+1) atom st l=.ok (⟨st.i+1,st.vars,st.places++[(tx,atom,0,(tp:Int))]⟩,l++[(tx,0)])):=aA fun h40=>by
   rw [cD,if_neg (by rw [HK.out];exact fun h=>absurd h.1 (by decide)),if_neg (by rw [HK.out];decide),if_neg h40,HTX.out,HTP.out]
  by_cases h40:(aE T (st.i+1)).kind=40
  ·have CT4:=aA (fun w1 (hp:cL B w1 pb s T (st.i+1) g vC v5 (.map (some mg)))=>kK 40 (by decide) (by decide) (by decide) HT.out hs hp)
   rw [show cU 40=40 from rfl,if_pos h40,decide_eq_true h40] at CT4
   have HPT:Hid (cD T (f+1) atom st l=aDl st.places.length l.length (dW T f ⟨st.i+1,st.vars,st.places++[(tx,atom,0,(tp:Int))]⟩ (l++[(tx,0)]) 0)):=aA (by
    rw [cD,if_neg (by rw [HK.out];exact fun h=>absurd h.1 (by decide)),if_neg (by rw [HK.out];decide),if_pos h40,HTX.out,HTP.out]
    cases dW T f ⟨st.i+1,st.vars,st.places++[(tx,atom,0,(tp:Int))]⟩ (l++[(tx,0)]) 0 with
    | error p=>rfl
    | ok r=>rfl)
   go_wp2_with (first
    | (at_builtin;refine wpList_append_own _ rfl (.tmp 38) (.tmp 42) 22 rfl B' 28 iN (.agg #[.string ⟨#[]⟩,.int .i64 0]) 2 24 Tryz.underlying22 hN hN0 hN1 hN2 rfl (by decide) _ _ _ rfl (HL5.out.alloc _) ⟨_,0,none⟩ 1 1 [.string tx,.int .i64 0] rfl rfl (iB wc _ _ _ _ rfl) (tN _ _) (by unfold maxLen;omega) (by omega) (by simp;omega) ?_;intro v6 w6 ho6 hg6 _;have HQ6:=aA ((HQ5.out.below ((Below.refl wc.heap.size wc).alloc (Nat.le_refl _) _)).far (HL5.out.alloc _) (by decide) hg6);have HK6:=aA ((HK5.out.trans (.of_below ((Below.refl wc.heap.size wc).alloc (Nat.le_refl _) _))).grownRow (HL5.out.alloc _) hBB (Or.inr ⟨rfl,Nat.le_refl _⟩) hg6);have HL6:Hid (w6.ownsRow B' 28 2 v6 (l.length+1) (aQ (l++[(tx,0)]))):=aA (by rw [sG];exact ho6);obtain ⟨va6,vc6,rfl⟩:=aR ho6;clear ho6 hg6)
    | (go_at_call 83;refine (CT4.out _ HQ6.out.pp).mono ?_;rintro e w7 ⟨rfl,hg7,hp7⟩;obtain ⟨left6,hb6,hBp6⟩:=HQ6.out.pp.box;have hQ7:=HQ6.out.take hg7 hp7;have hl7:=HL6.out.kept hg7 (hb6.apart HL6.out (by decide));have hk7:=HK6.out.grownBox hb6 hBp6 hg7;have CP:=aA (HPC.out B' ⟨st.i+1,st.vars,st.places++[(tx,atom,0,(tp:Int))]⟩ v5 _ l tx w7 hQ7 hl7 hBB (Nat.le_trans hBw hk7.size) (by simp;omega) (by simp;omega) (by simp;omega) (by simp;omega));have HK7:=aA hk7;clear hg7 hp7 hQ7 hl7 hk7 hb6)
    | (go_at_call 136;refine (aB CP).mono ?_;intro e w8 hP8;obtain ⟨⟨a8,n8,c8,b8,he8⟩,hTQ⟩:=aLv (k:=st.places.length) HK7.out hP8;subst he8;have HTQ:=aA hTQ;clear hTQ)
    | go_in)
   go_ret2
   rw [HPT.out]
   exact HTQ.out
  ·have CT4:=aA (fun w1 (hp:cL B w1 pb s T (st.i+1) g vC v5 (.map (some mg)))=>kK 40 (by decide) (by decide) (by decide) HT.out hs hp)
   rw [show cU 40=40 from rfl,if_neg h40,decide_eq_false h40] at CT4
   have HNP':=aA (HNP.out h40)
   clear HNP
   go_wp2_with (first
    | (at_builtin;refine wpList_append_own _ rfl (.tmp 38) (.tmp 42) 22 rfl B' 28 iN (.agg #[.string ⟨#[]⟩,.int .i64 0]) 2 24 Tryz.underlying22 hN hN0 hN1 hN2 rfl (by decide) _ _ _ rfl (HL5.out.alloc _) ⟨_,0,none⟩ 1 1 [.string tx,.int .i64 0] rfl rfl (iB wc _ _ _ _ rfl) (tN _ _) (by unfold maxLen;omega) (by omega) (by simp;omega) ?_;intro v6 w6 ho6 hg6 _;have HQ6:=aA ((HQ5.out.below ((Below.refl wc.heap.size wc).alloc (Nat.le_refl _) _)).far (HL5.out.alloc _) (by decide) hg6);have HK6:=aA ((HK5.out.trans (.of_below ((Below.refl wc.heap.size wc).alloc (Nat.le_refl _) _))).grownRow (HL5.out.alloc _) hBB (Or.inr ⟨rfl,Nat.le_refl _⟩) hg6);have HL6:Hid (w6.ownsRow B' 28 2 v6 (l++[(tx,0)]).length (aQ (l++[(tx,0)]))):=aA (by rw [sG,List.length_append];exact ho6);obtain ⟨va6,vc6,rfl⟩:=aR ho6;clear ho6 hg6)
    | (go_at_call 83;refine (CT4.out _ HQ6.out.pp).mono ?_;rintro e w7 ⟨rfl,hg7,hp7⟩;obtain ⟨left6,hb6,hBp6⟩:=HQ6.out.pp.box;have HQ7:=aA (HQ6.out.take hg7 hp7);have HL7:=aA (HL6.out.kept hg7 (hb6.apart HL6.out (by decide)));have HK7:=aA (HK6.out.grownBox hb6 hBp6 hg7);clear hg7 hp7 hb6)
    | go_in)
   go_ret2
   refine ⟨HK7.out,?_⟩
   rw [HNP'.out]
   exact ⟨_,_,rfl,HQ7.out,HL7.out⟩
end
end Go.Proofs.YthicbnejchpmgaaGreatDoor
