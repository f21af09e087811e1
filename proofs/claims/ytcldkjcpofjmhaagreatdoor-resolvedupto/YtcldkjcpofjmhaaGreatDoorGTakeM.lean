import Derived.Test.YtcldkjcpofjmhaaGreatDoorGEmpM
open List renaming getD_eq_getElem?_getD→zw,length_append→zv,getElem?_eq_getElem→zs
open Nat renaming le_refl→zz,lt_of_lt_of_le→zo,le_trans→zn
open Or renaming inr→zr
namespace Go.Proofs.YtcldkjcpofjmhaaGreatDoor
open _root_.Go.Proofs.Tryz renaming prog→zx,underlying37→zt,ntmps129→zp,func129→zm
open Value renaming ownBlock→zy
open World renaming cell?→zq
set_option maxHeartbeats 4000000
set_option maxRecDepth 100000
section
open Go.RowKit
def gO:List Nat:=[110,118,102,101,63,124,126,40,41,44,46]
theorem aB9:∀a∈gO,∀b∈gO,dK a=dK b->a=b:=by decide
theorem aNb{s:ByteArray}{k e:Nat}{t:Tk}(h:eP s k=.tok t e):t.kind∈gO:=by
 unfold eP at h;split at h
 ·split at h
  ·cases h
  ·simp only [Nx.tok.injEq] at h;rw [<-h.1];simp only;split <;> decide
 ·split at h
  ·split at h
   ·simp only [Nx.tok.injEq] at h;rw [<-h.1];show (110:Nat)∈gO;decide
   ·cases h
  ·split at h
   ·split at h
    ·simp only [Nx.tok.injEq] at h;rw [<-h.1];show (102:Nat)∈gO;decide
    ·cases h
   ·split at h
    ·rename_i hm;simp only [Nx.tok.injEq] at h;rw [<-h.1];simp only;generalize aC s k=b at hm ⊢;have hor:b=124\/b=126\/b=40\/b=41\/b=44\/b=46:=by unfold pD at hm;simp at hm;omega
     rcases hor with rfl | rfl | rfl | rfl | rfl | rfl <;> decide
    ·cases h
theorem aNc(s:ByteArray):∀f k,∀t∈(cQ s f k).1,t.kind∈gO:=by
 intro f;induction f with
 | zero=>intro k;simp [cQ]
 | succ f ih=>
  intro k;rw [cQ];split
  ·split
   ·exact ih _
   ·split
    ·exact ih _
    ·split
     ·rename_i t e ht;intro u hu;rcases List.mem_cons.1 hu with rfl | hu
      ·exact aNb ht
      ·exact ih _ u hu
     ·simp
  ·intro t ht;simp at ht;rw [ht];show (101:Nat)∈gO;decide
theorem aNd{r:List Tk×Option Nat}(h:∀t∈r.1,t.kind∈gO):∀t∈eQ r,t.kind∈gO:=by
 obtain ⟨L,b⟩:=r;intro t ht;unfold eQ at ht;rcases List.mem_append.1 ht with ht | ht
 ·exact h t ht
 ·cases b with
  | none=>simp at ht
  | some p=>
   simp at ht;rw [ht];show (63:Nat)∈gO;decide
theorem aNe(s:ByteArray)(q i:Nat):(aE (dV s q) i).kind∈gO:=by
 unfold aE;by_cases h:i<(dV s q).length
 ·rw [zw,zs h,Option.getD_some];exact aNd (aNc s _ _) _ (List.getElem_mem _)
 ·rw [zw,List.getElem?_eq_none (by omega)];decide
theorem aNf{T r:List Tk}{i:Nat}{t:Tk}(h:T.drop i=t :: r):i<T.length/\aE T i=t/\T.drop (i+1)=r:=by
 have hl:i<T.length:=Classical.byContradiction λhn=>by rw [List.drop_of_length_le (by omega)] at h;cases h
 rw [List.drop_eq_getElem_cons hl] at h;simp only [List.cons.injEq] at h;exact ⟨hl,by unfold aE;rw [zw,zs hl];exact h.1,h.2⟩
section
variable {w:World}{pb:Nat}{left:Value}{k a:Int}{wd:ByteArray}{vC vP vM:Value}
theorem bL.setTok(h:bL w pb left k a wd vC vP vM)(k' a':Int)(wd':ByteArray):bL (((w.setCell ⟨pb,1,none⟩ (.int .i32 k')).setCell ⟨pb,2,none⟩ (.int .i64 a')).setCell ⟨pb,3,none⟩ (.string wd')) pb left k' a' wd' vC vP vM:=by have h1:bL (w.setCell ⟨pb,1,none⟩ (.int .i32 k')) pb left k' a wd vC vP vM:=heap_setCell_same w pb 1 _ _ _ h;have h2:bL ((w.setCell ⟨pb,1,none⟩ (.int .i32 k')).setCell ⟨pb,2,none⟩ (.int .i64 a')) pb left k' a' wd vC vP vM:=heap_setCell_same _ pb 2 _ _ _ h1;exact heap_setCell_same _ pb 3 _ _ _ h2
theorem bL.rows(h:bL w pb left k a wd vC vP vM)(k' a':Int)(wd':ByteArray){B:Nat}{e:TypeId}{size:Nat}{v:Value}{n:Nat}{xs:List Value}(ho:w.ownsRow B e size v n xs)(he:e≠82):(((w.setCell ⟨pb,1,none⟩ (.int .i32 k')).setCell ⟨pb,2,none⟩ (.int .i64 a')).setCell ⟨pb,3,none⟩ (.string wd')).ownsRow B e size v n xs:=by have h1:bL (w.setCell ⟨pb,1,none⟩ (.int .i32 k')) pb left k' a wd vC vP vM:=heap_setCell_same w pb 1 _ _ _ h;have h2:bL ((w.setCell ⟨pb,1,none⟩ (.int .i32 k')).setCell ⟨pb,2,none⟩ (.int .i64 a')) pb left k' a' wd vC vP vM:=heap_setCell_same _ pb 2 _ _ _ h1;exact h2.row (h1.row (h.row ho he 1 _) he 2 _) he 3 _
end
structure PP(B:Nat)(w:World)(pb:Nat)(s:ByteArray)(T:List Tk)(i g q j m c:Nat)(vC vP vM:Value):Prop where
 sc:bG B w pb s q g j m c (dK (aE T i).kind) (aE T i).pos (aE T i).txt vC vP vM
 lt:i<T.length
 on:(aE T i).kind≠101->(aE T i).kind≠63->dV s q=T.drop (i+1)
def dG(B:Nat)(w:World)(pb:Nat)(s:ByteArray)(T:List Tk)(i g:Nat)(vC vP vM:Value):Prop:=∃q j m c,PP B w pb s T i g q j m c vC vP vM
theorem aF8{B:Nat}{w w1:World}{pb:Nat}{s:ByteArray}{T:List Tk}{i g q:Nat}{k a:Int}{wd:ByteArray}{vC vP vM:Value}{e:Ending}{f:Nat}(hq:q<=s.size)(hf:s.size<q+f)(hT:dV s q=T.drop i)(hr:pS B pb s q f g k a wd vC vP vM w e w1) :
  e=.returned (.agg #[.int .i32 (dK (aE T i).kind),.int .i64 (aE T i).pos,.string (aE T i).txt])/\w.grownBy w1 (some pb)/\(∃left,bL w1 pb left k a wd vC vP vM)/\
  dG B (((w1.setCell ⟨pb,1,none⟩ (.int .i32 (dK (aE T i).kind))).setCell ⟨pb,2,none⟩ (.int .i64 (aE T i).pos)).setCell ⟨pb,3,none⟩ (.string (aE T i).txt)) pb s T i g vC vP vM:=by
 obtain ⟨hg,hr⟩:=hr;have hn:=aMe s _ f q (zz _) hq hf;have fin:∀(t:Tk) (q':Nat) (r:List Tk),T.drop i=t :: r->(t.kind≠101->t.kind≠63->dV s q'=r)->e=.returned (fL (dK t.kind) t.pos t.txt)->(∃j m c,bG B w1 pb s q' g j m c k a wd vC vP vM)->e=.returned (.agg #[.int .i32 (dK (aE T i).kind),.int .i64 (aE T i).pos,.string (aE T i).txt])/\w.grownBy w1 (some pb)/\(∃left,bL w1 pb left k a wd vC vP vM)/\dG B (((w1.setCell ⟨pb,1,none⟩ (.int .i32 (dK (aE T i).kind))).setCell ⟨pb,2,none⟩ (.int .i64 (aE T i).pos)).setCell ⟨pb,3,none⟩ (.string (aE T i).txt)) pb s T i g vC vP vM:=by
  intro t q' r hd hon he hS;obtain ⟨hl,htk,hdr⟩:=aNf hd;obtain ⟨j,m,c,hS⟩:=hS;rw [htk];refine ⟨he,hg,⟨_,hS.box⟩,q',j,m,c,⟨?_,hl,?_⟩⟩
  ·rw [htk];exact ⟨hS.box.setTok _ _ _,hS.high,hS.box.rows _ _ _ hS.row (by decide),hS.len,hS.drop,hS.le⟩
  ·rw [htk,hdr];exact hon
 cases hx:qM s f q with
 | tok t e'=>
  rw [hx] at hr hn;obtain ⟨n1,_,_,_⟩:=hn;exact fin t e' _ (by rw [<-hT,n1]) (λ_ _=>rfl) hr.1 hr.2
 | bad p=>
  rw [hx] at hr hn;exact fin ⟨63,⟨#[]⟩,p⟩ p [] (by rw [<-hT,hn.1]) (λ_ h=>absurd rfl h) hr.1 hr.2
 | stop p=>
  rw [hx] at hr hn;exact fin ⟨101,⟨#[]⟩,p⟩ p [] (by rw [<-hT,hn.1]) (λh _=>absurd rfl h) hr.1 hr.2
theorem kY{B:Nat}{w:World}{pb:Nat}{s:ByteArray}{T:List Tk}{i g:Nat}{vC vP vM:Value}(kd:Nat)(hkd:kd∈gO)(h101:kd≠101)(h63:kd≠63)(hT:∀i,(aE T i).kind∈gO)(hs:s.size<=3000)(h:dG B w pb s T i g vC vP vM) :
  Calls zx 81 #[.pointer (some ⟨pb,0,none⟩),.int .i32 (dK kd)] w λe w'=>e=.returned (.bool (decide ((aE T i).kind=kd)))/\w.grownBy w' (some pb)/\dG B w' pb s T (if (aE T i).kind=kd then i+1 else i) g vC vP vM:=by
 obtain ⟨q,j,m,c,hP⟩:=h;have d1:=hP.sc.box.c1;by_cases hk:(aE T i).kind=kd
 ·rw [if_pos hk,decide_eq_true hk];have CN:=aA ((aEq (s.size+1) hP.sc hs (by omega)).mono λe w1 hr=>aF8 hP.sc.le (by omega) (hP.on (by rw [hk];exact h101) (by rw [hk];exact h63)) hr);rw [hk] at d1 CN;clear hk hP;generalize dK kd=K at *;generalize aE T (i+1)=t at CN;obtain ⟨tk,tx,tp⟩:=t;simp only at CN;go_enter Tryz.func81,Tryz.ntmps81;go_wp2_with (first
   | (go_at_call 49;refine (aB CN).mono ?_;rintro e w1 ⟨rfl,hg1,⟨left,hb1⟩,hP1⟩;have e1:=hb1.c1;have e2:=hb1.c2;have e3:=hb1.c3;have ef:=hb1.soft;have HG1:=aA hg1;have HP1:=aA hP1;clear hg1 hP1 hb1)
   | go_in)
  go_ret;exact ⟨rfl,qN (qN (qN HG1.out _) _) _,HP1.out⟩
 ·rw [if_neg hk,decide_eq_false hk];have hne:(dK (aE T i).kind != dK kd)=true:=by simp;exact λe=>hk (aB9 _ (hT i) _ hkd e)
  have HP:=aA hP;clear hP;go_enter Tryz.func81,Tryz.ntmps81;go_wp2;go_ret;exact ⟨rfl,World.grownBy.refl _ _,q,j,m,c,HP.out⟩
end
section
open Go.RowKit Go.WideMaps
structure bN(B B' mg:Nat)(w w':World):Prop where
 os:w'.os=w.os
 tape:w'.tape=w.tape
 output:w'.output=w.output
 size:w.heap.size<=w'.heap.size
 block:∀k,k<w.heap.size->(k<B\/(k≠mg/\∀cs T fr,w.heap[k]?=some (.cells cs T fr)->T≠3/\T≠82/\(T=36->k<B')))->w'.heap[k]?=w.heap[k]?
theorem bN.refl(B B' mg:Nat)(w:World):bN B B' mg w w:=⟨rfl,rfl,rfl,zz _,λ_ _ _=>rfl⟩
theorem bN.trans{B B' mg:Nat}{a b c:World}(h:bN B B' mg a b)(k:bN B B' mg b c):bN B B' mg a c:=
 ⟨k.os.trans h.os,k.tape.trans h.tape,k.output.trans h.output,zn h.size k.size,λi hi hc=>by
  have e:=h.block i hi hc;rw [k.block i (zo hi h.size) (by rw [e];exact hc),e]⟩
theorem bN.of_below{B B' mg:Nat}{w w':World}(h:Below w.heap.size w w'):bN B B' mg w w':=⟨h.os,h.tape,h.output,h.size,λk hk _=>h.block k hk⟩
theorem bN.below{B B' mg:Nat}{w w':World}(h:bN B B' mg w w')(hB:B<=w.heap.size):Below B w w':=⟨h.os,h.tape,h.output,h.size,λk hk=>h.block k (by omega) (Or.inl hk)⟩
theorem bN.mono{B B1 B2 mg:Nat}{w w':World}(h:bN B B2 mg w w')(hB:B1<=B2):bN B B1 mg w w':=
 ⟨h.os,h.tape,h.output,h.size,λk hk hc=>h.block k hk (hc.imp id λ⟨h0,hc⟩=>⟨h0,λcs T fr he=>by
  obtain ⟨h1,h2,h3⟩:=hc cs T fr he;exact ⟨h1,h2,λe=>zo (h3 e) hB⟩⟩)⟩
theorem bN.grownBox{B B' mg:Nat}{a w w':World}{pb:Nat}{left:Value}{k x:Int}{wd:ByteArray}{vC vP vM:Value}(h:bN B B' mg a w)(hb:bL w pb left k x wd vC vP vM)(hp:B<=pb)(hg:w.grownBy w' (some pb)):bN B B' mg a w':=by
 refine h.trans ⟨hg.os,hg.tape,hg.output,hg.size,λk hk hc=>hg.block k hk ?_⟩;intro e;simp at e;subst e;rcases hc with hc | ⟨_,hc⟩
 ·omega
 ·exact (hc _ _ _ hb).2.1 rfl
theorem bN.grownMap{B B' mg:Nat}{a w w':World}(h:bN B B' mg a w)(hm:B<=mg)(hg:w.grownBy w' (some mg)):bN B B' mg a w':=by
 refine h.trans ⟨hg.os,hg.tape,hg.output,hg.size,λk hk hc=>hg.block k hk ?_⟩;intro e;simp at e;subst e;rcases hc with hc | ⟨hc,_⟩
 ·omega
 ·exact hc rfl
theorem bN.grownRow{B B' mg B0:Nat}{a w w':World}{e:TypeId}{size:Nat}{v:Value}{n:Nat}{xs:List Value}(h:bN B B' mg a w)(ho:w.ownsRow B0 e size v n xs)(hB:B<=B0)(he:e=3\/e=36/\B'<=B0)(hg:w.grownBy w' v.ownBlock):bN B B' mg a w':=by
 refine h.trans ⟨hg.os,hg.tape,hg.output,hg.size,λk hk hc=>hg.block k hk ?_⟩;intro e';obtain ⟨_,⟨rfl,_⟩ | ⟨g,cap,cur,rfl,hb,hh,_⟩⟩:=ho
 ·simp [zy] at e'
 ·simp [zy] at e';subst e';rcases hc with hc | ⟨_,hc⟩
  ·omega
  ·obtain ⟨h1,_,h4⟩:=hc _ _ _ hh;rcases he with rfl | ⟨rfl,hx⟩
   ·exact h1 rfl
   ·have:=h4 rfl;omega
theorem bN.own{B B' mg B0:Nat}{w w':World}{e:TypeId}{size:Nat}{v:Value}{n:Nat}{xs:List Value}(h:bN B B' mg w w')(ho:w.ownsRow B0 e size v n xs)(he:e≠3/\e≠82)(hn:e=36->w.heap.size<=B')(hmg:v.ownBlock≠some mg):w'.ownsRow B0 e size v n xs:=by
 obtain ⟨h1,⟨rfl,h2⟩ | ⟨g,cap,cur,rfl,hb,hh,hc,hm',hz,ht⟩⟩:=ho
 ·exact ⟨h1,Or.inl ⟨rfl,h2⟩⟩
 ·have hlt:=(Array.getElem?_eq_some_iff.1 hh).1;refine ⟨h1,zr ⟨g,cap,cur,rfl,hb,?_,hc,hm',hz,ht⟩⟩;rw [h.block g hlt (zr ⟨λe'=>hmg (by rw [e'];rfl),λcs T fr hx=>?_⟩)]
  ·exact hh
  ·rw [hh] at hx;simp at hx;obtain ⟨_,rfl,_⟩:=hx;exact ⟨he.1,he.2,λe'=>by have:=hn e';omega⟩
theorem bL.apart{w:World}{pb:Nat}{left:Value}{k a:Int}{wd:ByteArray}{vC vP vM:Value}(h:bL w pb left k a wd vC vP vM){B:Nat}{e:TypeId}{size:Nat}{v:Value}{n:Nat}{xs:List Value}(ho:w.ownsRow B e size v n xs)(he:e≠82):v.ownBlock=none\/v.ownBlock≠some pb:=by
 obtain ⟨_,⟨rfl,_⟩ | ⟨g,cap,cur,rfl,_,hh,_⟩⟩:=ho
 ·exact Or.inl rfl
 ·right;intro hx;simp [zy] at hx;subst hx;unfold bL at h;rw [hh] at h;simp at h;exact he h.2
theorem rO{w:World}{B:Nat}{e:TypeId}{size:Nat}{v:Value}{n mg k:Nat}{xs:List Value}{D:DataW Unit}(h:w.ownsRow B e size v n xs)(hm:w.ownsMap zx 9 lX mg k D):v.ownBlock≠some mg:=by
 obtain ⟨es,cl,hh,_⟩:=hm;intro e';obtain ⟨_,⟨rfl,_⟩ | ⟨g,cap,cur,rfl,_,hh',_⟩⟩:=h
 ·simp [zy] at e'
 ·simp [zy] at e';subst e';rw [hh] at hh';cases hh'
theorem yJ{w:World}{pb:Nat}{left:Value}{k a:Int}{wd:ByteArray}{vC vP vM:Value}{mg n:Nat}{D:DataW Unit}(h:bL w pb left k a wd vC vP vM)(hm:w.ownsMap zx 9 lX mg n D):pb≠mg:=by obtain ⟨es,cl,hh,_⟩:=hm;rintro rfl;unfold bL at h;rw [hh] at h;cases h
structure bP(B:Nat)(w:World)(pb:Nat)(s:ByteArray)(T:List Tk)(st:bB)(g:Nat)(vC vP:Value)(mg:Nat):Prop where
 pp:dG B w pb s T st.i g vC vP (.map (some mg))
 places:w.ownsRow B 3 1 vP st.places.length (lW st.places)
 map:∃D,w.ownsMap zx 9 lX mg st.vars.length D/\oG D st.vars
 mhigh:B<=mg
section
variable {B:Nat}{w w':World}{pb:Nat}{s:ByteArray}{T:List Tk}{i g:Nat}{vC vP vM:Value}
theorem dG.below(h:dG B w pb s T i g vC vP vM)(k:Below w.heap.size w w'):dG B w' pb s T i g vC vP vM:=by obtain ⟨q,j,m,c,hP⟩:=h;exact ⟨q,j,m,c,hP.sc.below k,hP.lt,hP.on⟩
theorem dG.box(h:dG B w pb s T i g vC vP vM):∃left,bL w pb left (dK (aE T i).kind) (aE T i).pos (aE T i).txt vC vP vM/\B<=pb:=by obtain ⟨q,j,m,c,hP⟩:=h;exact ⟨_,hP.sc.box,hP.sc.high⟩
theorem dG.lt(h:dG B w pb s T i g vC vP vM):i<T.length:=by obtain ⟨q,j,m,c,hP⟩:=h;exact hP.lt
theorem dG.far(h:dG B w pb s T i g vC vP vM){row:Option Nat}(hg:w.grownBy w' row)(h1:row≠some pb)(h2:row≠some g):dG B w' pb s T i g vC vP vM:=by obtain ⟨q,j,m,c,hP⟩:=h;refine ⟨q,j,m,c,⟨?_,hP.sc.high,hP.sc.row.kept hg (zr λe=>h2 (by rw [<-e];rfl)),hP.sc.len,hP.sc.drop,hP.sc.le⟩,hP.lt,hP.on⟩;have hb:=hP.sc.box;have hlt:=hb.lt;unfold bL at hb ⊢;rw [hg.block pb hlt (λe=>h1 e.symm)];exact hb
theorem dG.glyph(h:dG B w pb s T i g vC vP vM):∃cs fr,w.heap[g]?=some (.cells cs 128 fr):=by
 obtain ⟨q,j,m,c,hP⟩:=h;obtain ⟨_,⟨e,_⟩ | ⟨g',cap,cur,e,_,hh,_⟩⟩:=hP.sc.row
 ·simp at e
 ·simp at e;obtain ⟨rfl,_⟩:=e;exact ⟨_,_,hh⟩
end
section
variable {B:Nat}{w w' w2:World}{pb:Nat}{s:ByteArray}{T:List Tk}{st:bB}{g mg:Nat}{vC vP:Value}
theorem bP.below(h:bP B w pb s T st g vC vP mg)(k:Below w.heap.size w w'):bP B w' pb s T st g vC vP mg:=by obtain ⟨D,h1,h2⟩:=h.map;exact ⟨h.pp.below k,aU h.places k (zz _),⟨D,h1.kept (lO k none) (by simp),h2⟩,h.mhigh⟩
theorem bP.take(h:bP B w pb s T st g vC vP mg){i':Nat}(hg:w.grownBy w' (some pb))(hp:dG B w' pb s T i' g vC vP (.map (some mg))):bP B w' pb s T ⟨i',st.vars,st.places⟩ g vC vP mg:=by obtain ⟨D,h1,h2⟩:=h.map;obtain ⟨left,hb,_⟩:=h.pp.box;exact ⟨hp,h.places.kept hg (hb.apart h.places (by decide)),⟨D,h1.kept hg (by simpa using λe=>yJ hb h1 e.symm),h2⟩,h.mhigh⟩
theorem dG.row_apart{i:Nat}{vM:Value}(h:dG B w pb s T i g vC vP vM){B0:Nat}{e:TypeId}{size:Nat}{v:Value}{n:Nat}{xs:List Value}(ho:w.ownsRow B0 e size v n xs)(he:e≠82/\e≠128):v.ownBlock≠some pb/\v.ownBlock≠some g:=by
 obtain ⟨left,hb,_⟩:=h.box;obtain ⟨cs,fr,hg⟩:=h.glyph;constructor
 ·rcases hb.apart ho he.1 with e | e
  ·rw [e];simp
  ·exact e
 ·intro e';obtain ⟨_,⟨rfl,_⟩ | ⟨g',cap,cur,rfl,_,hh,_⟩⟩:=ho
  ·simp [zy] at e'
  ·simp [zy] at e';subst e';rw [hh] at hg;simp at hg;exact he.2 hg.2.1
theorem bP.far(h:bP B w pb s T st g vC vP mg){B0:Nat}{e:TypeId}{size:Nat}{v:Value}{n:Nat}{xs:List Value}(ho:w.ownsRow B0 e size v n xs)(he:e≠82/\e≠128/\e≠3)(hg:w.grownBy w' v.ownBlock):bP B w' pb s T st g vC vP mg:=by obtain ⟨D,h1,h2⟩:=h.map;obtain ⟨a1,a2⟩:=h.pp.row_apart ho ⟨he.1,he.2.1⟩;exact ⟨h.pp.far hg a1 a2,h.places.kept hg (bV h.places ho he.2.2.symm),⟨D,h1.kept hg (λe=>rO ho h1 e.symm),h2⟩,h.mhigh⟩
theorem bP.var(h:bP B w pb s T st g vC vP mg){sn:List ByteArray}{D:DataW Unit}(hg:w.grownBy w' (some mg))(hm:w'.ownsMap zx 9 lX mg sn.length D)(hN:oG D sn):bP B w' pb s T ⟨st.i,sn,st.places⟩ g vC vP mg:=by obtain ⟨D0,h1,h2⟩:=h.map;obtain ⟨left,hb,_⟩:=h.pp.box;obtain ⟨cs,fr,hgl⟩:=h.pp.glyph;refine ⟨h.pp.far hg (by simpa using λe=>yJ hb h1 e.symm) ?_,h.places.kept hg (zr (rO h.places h1)),⟨D,hm,hN⟩,h.mhigh⟩;intro e;simp at e;subst e;obtain ⟨es,cl,hh,_⟩:=h1;rw [hgl] at hh;cases hh
theorem bP.place(h:bP B w pb s T st g vC vP mg){v:Value}{p:Pl}(ho:w2.ownsRow B 3 1 v (st.places.length+1) (lW st.places++[.int .i64 p.2.2.2]))(hg:w.grownBy w2 vP.ownBlock) :
  w2.cell? ⟨pb,5,none⟩=some vP/\w2.frozen? ⟨pb,5,none⟩=false/\bP B (w2.setCell ⟨pb,5,none⟩ v) pb s T ⟨st.i,st.vars,st.places++[p]⟩ g vC v mg:=by
 obtain ⟨D,h1,h2⟩:=h.map;obtain ⟨a1,a2⟩:=h.pp.row_apart h.places (by decide);obtain ⟨q,j,m,c,hP⟩:=h.pp.far hg a1 a2;have hb:=hP.sc.box;have h1':=h1.kept hg (λe=>rO h.places h1 e.symm);refine ⟨hb.c5,hb.soft 5,⟨⟨q,j,m,c,⟨heap_setCell_same w2 pb 5 _ _ _ hb,hP.sc.high,hb.row hP.sc.row (by decide) _ _,hP.sc.len,hP.sc.drop,hP.sc.le⟩,hP.lt,hP.on⟩,hb.row ?_ (by decide) _ _,⟨D,h1'.setCell (λe=>yJ hb h1' e.symm) _,h2⟩,h.mhigh⟩⟩;rw [aSi,zv];exact ho
end
def rP(B B' pb:Nat)(w:World)(s:ByteArray)(T:List Tk)(g:Nat)(vC:Value)(mg:Nat)(r:Except Nat (bB×List Nd))(e:Ending)(w':World):Prop:=
 bN B B' mg w w'/\
  match r with
  | .ok (s1,l1)=>∃vl vP,e=.returned (.tuple #[vl,.bool true])/\bP B w' pb s T s1 g vC vP mg/\w'.ownsRow B' 36 2 vl l1.length (aH l1)
  | .error p=>∃a n c i vP vM,e=.returned (.tuple #[.slice a n c,.bool false])/\dG B w' pb s T i g vC vP vM/\(aE T i).pos=p
def aF9(B pb:Nat)(s:ByteArray)(T:List Tk)(g:Nat)(vC:Value)(mg f:Nat):Prop:=
 ∀(B':Nat) (atom:Bool) (st:bB) (vP vl:Value) (l:List Nd) (w:World),bP B w pb s T st g vC vP mg->w.ownsRow B' 36 2 vl l.length (aH l)->B<=B'->B'<=w.heap.size->(atom=true->(aE T st.i).kind≠118)->T.length<st.i+f->l.length<=st.i->st.places.length<=st.i->st.vars.length<=st.i->
  Calls zx 129 #[.pointer (some ⟨pb,0,none⟩),vl] w λe w'=>rP B B' pb w s T g vC mg (cU T f atom st l) e w'
section
variable {B B' pb:Nat}{s:ByteArray}{T:List Tk}{g:Nat}{vC vP vl:Value}{mg:Nat}{st:bB}{l:List Nd}{w:World}
theorem aNg{w1 w2 w3:World}{D:DataW Unit}{sn:List ByteArray}{v3:Value}{x:Int}{X:Obj}{st1:bB}(h:bP B w1 pb s T st1 g vC vP mg)(hl:w1.ownsRow B' 36 2 vl l.length (aH l))(hBB:B<=B')(hk:bN B B' mg w w1)
  (hg:w1.grownBy w2 (some mg)) (hm:w2.ownsMap zx 9 lX mg sn.length D) (hN:oG D sn) (ho:w3.ownsRow B' 36 2 v3 (l.length+1) (aH l++[.string ⟨#[]⟩,.int .i64 x])) (hg3:(w2.alloc X).grownBy w3 vl.ownBlock) :
  bP B w3 pb s T ⟨st1.i,sn,st1.places⟩ g vC vP mg/\w3.ownsRow B' 36 2 v3 (l++[((⟨#[]⟩ : ByteArray),x)]).length (aH (l++[((⟨#[]⟩ : ByteArray),x)]))/\bN B B' mg w w3:=by
 obtain ⟨D0,m1,_⟩:=h.map;have h2:=h.var hg hm hN;have hl2:=hl.kept hg (zr (rO hl m1));have hA:=(Below.refl w2.heap.size w2).alloc (zz _) X;refine ⟨(h2.below hA).far (aU hl2 hA (zz _)) (by decide) hg3,by rw [rG,zv];exact ho,?_⟩;exact ((hk.grownMap h.mhigh hg).trans (.of_below hA)).grownRow (aU hl2 hA (zz _)) hBB (zr ⟨rfl,zz _⟩) hg3
theorem aNh(atom:Bool)(f:Nat)(hT:∀i,(aE T i).kind∈gO)(hx:∀i,(aE T i).txt.size<=1000000)(hs:s.size<=3000)(hTl:T.length<=1000000)(h:bP B w pb s T st g vC vP mg)(hl:w.ownsRow B' 36 2 vl l.length (aH l))(hBB:B<=B')(hBw:B'<=w.heap.size)(hk:(aE T st.i).kind=118)(hat:atom=false)(hl1:l.length<=st.i)(hv1:st.vars.length<=st.i) :
  Calls zx 129 #[.pointer (some ⟨pb,0,none⟩),vl] w λe w'=>rP B B' pb w s T g vC mg (cU T (f+1) atom st l) e w':=by
 subst hat;have hlt:=h.pp.lt;obtain ⟨iN,hN,hN0,hN1,hN2⟩:=info_parts mP;obtain ⟨left,hb,_⟩:=h.pp.box;obtain ⟨la,lc,rfl⟩:=aS hl;rw [hk,show dK 118=65 from rfl] at hb;have d1:=hb.c1;have d2:=hb.c2;have d3:=hb.c3;have CT:=aA (λo=>kY 118 (by decide) (by decide) (by decide) hT hs (h.pp.below ((Below.refl w.heap.size w).alloc (zz _) o)));rw [hk,show dK 118=65 from rfl] at CT;simp only [if_true,decide_true] at CT;have HP:Hid (cU T (f+1) false st l=.ok (⟨st.i+1,oF st.vars (aE T st.i).txt,st.places⟩,l++[(⟨#[]⟩,nI st.vars (aE T st.i).txt)])):=aA (by rw [cU,if_pos ⟨hk,rfl⟩]);obtain ⟨tx,htx⟩ : ∃tx,(aE T st.i).txt=tx:=⟨_,rfl⟩;obtain ⟨tp,htp⟩ : ∃tp,(aE T st.i).pos=tp:=⟨_,rfl⟩;have hxs:=hx st.i;rw [htx] at d3 HP hxs;rw [htp] at d2;have HQ:=aA h;have HL:=aA hl;clear h hl hb hk hx hT htx htp;go_enter zm,zp;go_upto_region 3 with (first
  | (go_at_call 81;refine (aB CT _).mono ?_;rintro e w1 ⟨rfl,hg1,hp1⟩;have hq1:=(HQ.out.below ((Below.refl w.heap.size w).alloc (zz _) _)).take hg1 hp1;have hx1:=hg1.block w.heap.size (by simp) (by obtain ⟨left,hb,_⟩:=HQ.out.pp.box;have:=hb.lt;simp;omega);have HQ1:=aA hq1;have HX1:=aA hx1;have HG1:=aA hg1;clear hg1 hp1 hq1 hx1)
  | go_in)
 have hx1:w1.heap[w.heap.size]?=some (.cells #[.int .i32 65,.int .i64 tp,.string tx] 75):=HX1.out.trans (by show (w.heap.push _)[w.heap.size]?=_;simp);have t2:w1.cell? ⟨w.heap.size,2,none⟩=some (.string tx):=by unfold zq;rw [hx1];rfl
 obtain ⟨left1,hb1,_⟩:=HQ1.out.pp.box;have m6:=hb1.c6;have hA:=(Below.refl w.heap.size w).alloc (zz _) (.cells #[.int .i32 65,.int .i64 tp,.string tx] 75);obtain ⟨leftA,hbA,hBp⟩:=(HQ.out.below hA).pp.box;have HK1:Hid (bN B B' mg w w1):=aA ((bN.of_below hA).grownBox hbA hBp HG1.out);have HL1:=aA ((aU HL.out hA (zz _)).kept HG1.out (hbA.apart (aU HL.out hA (zz _)) (by decide)));obtain ⟨D,hmp,hmn⟩:=HQ1.out.map;have CN:=aA (aTr mg D st.vars tx w1.drew hmp hmn (by omega) hxs);have hz1:=HK1.out.size;have HMP:=aA hmp;clear hmp hmn hx1 hb1 hbA hA HQ HL HX1 HG1 CT d1 d2 d3;go_region_law (first
  | (refine aSm (by rfl) 144 _ _ (by rfl) (enters_of Tryz.func144 (by kernel_rfl) rfl) _ (by rfl) (aB CN) ?_;rintro e w2 ⟨D2,rfl,hm2,hn2,hg2⟩;refine ⟨_,rfl,?_⟩;have HM2:=aA hm2;have HN2:=aA hn2;have HG2:=aA hg2;have HL2:=aA (World.ownsRow.kept (w:=w1.drew) HL1.out hg2 (zr (rO HL1.out HMP.out)));have hz2:=hg2.size;clear hm2 hn2 hg2)
  | (refine mZ ?g1 (.tmp 13) (.tmp 22) 37 36 ?g2 (.agg #[.string ⟨#[]⟩,.int .i64 0]) 2 24 zt mP ?g3 ?g4 ?g5 B' _ l.length (aH l) ?g6 (HL2.out.alloc _) ?g7 ?g8 w2.heap.size 1 [.string ⟨#[]⟩,.int .i64 (nI st.vars tx)] ?g9 ?g10 (gF w2 _ _ 36 w2.heap.size rfl) (rK _ _) ?_;(case g1=>rfl);(case g2=>rfl);(case g3=>rfl);(case g4=>decide);(case g5=>decide);(case g6=>rfl);(case g7=>omega);(case g8=>(simp at hz2 ⊢;omega));(case g9=>rfl);(case g10=>rfl);intro v3 w3 ho3 hg3;have hput:=aNg (w1:=w1.drew) (HQ1.out.below (aJ (w1:=w1.drew) ⟨1,rfl⟩)) HL1.out hBB (HK1.out.trans (.of_below (aJ (w1:=w1.drew) ⟨1,rfl⟩))) HG2.out HM2.out HN2.out ho3 hg3;have HPUT:=aA hput;obtain ⟨va3,vc3,rfl⟩:=aS ho3;clear ho3 hg3 hput))
 all_goals
  go_wp2;go_ret2;refine ⟨HPUT.out.2.2,?_⟩;rw [HP.out];exact ⟨_,_,rfl,HPUT.out.1,HPUT.out.2.1⟩
theorem aNi(atom:Bool)(f:Nat)(hT:∀i,(aE T i).kind∈gO)(hs:s.size<=3000)(h:bP B w pb s T st g vC vP mg)(hk:(aE T st.i).kind≠118)(hk2:(aE T st.i).kind≠110) :
  Calls zx 129 #[.pointer (some ⟨pb,0,none⟩),vl] w λe w'=>rP B B' pb w s T g vC mg (cU T (f+1) atom st l) e w':=by
 obtain ⟨left,hb,_⟩:=h.pp.box;have d1:=hb.c1;have d2:=hb.c2;have d3:=hb.c3;have CT:=aA (λo=>kY 118 (by decide) (by decide) (by decide) hT hs (h.pp.below ((Below.refl w.heap.size w).alloc (zz _) o)));rw [show dK 118=65 from rfl,if_neg hk,decide_eq_false hk] at CT;have CU:=aA (λw1 (hp:dG B w1 pb s T st.i g vC vP (.map (some mg)))=>kY 110 (by decide) (by decide) (by decide) hT hs hp);rw [show dK 110=97 from rfl,if_neg hk2,decide_eq_false hk2] at CU;have HP:Hid (cU T (f+1) atom st l=.error (aE T st.i).pos):=aA (by rw [cU,if_neg (λe=>hk e.1),if_pos hk2]);have HQ:=aA h;clear h hb hT hk hk2;generalize dK (aE T st.i).kind=K at *;generalize (aE T st.i).txt=tx at *;obtain ⟨tp,htp⟩ : ∃tp,(aE T st.i).pos=tp:=⟨_,rfl⟩;rw [htp] at d2 HP;have HTP:=aA htp;clear htp;go_enter zm,zp;go_wp2_with (first
  | (go_at_call 81;refine (CU.out _ HP1.out).mono ?_;rintro e w2 ⟨rfl,hg2,hp2⟩;have HG2:=aA hg2;have HP2:=aA hp2;clear hg2 hp2)
  | (go_at_call 81;refine (aB CT _).mono ?_;rintro e w1 ⟨rfl,hg1,hp1⟩;have HG1:=aA hg1;have HP1:=aA hp1;clear hg1 hp1)
  | go_in)
 go_ret2;have hA:=(Below.refl w.heap.size w).alloc (zz _) (.cells #[.int .i32 K,.int .i64 tp,.string tx] 75);obtain ⟨leftA,hbA,hBp⟩:=(HQ.out.below hA).pp.box;obtain ⟨left1,hb1,_⟩:=HP1.out.box;refine ⟨((bN.of_below hA).grownBox hbA hBp HG1.out).grownBox hb1 hBp HG2.out,?_⟩;rw [HP.out];exact ⟨_,_,_,_,_,_,rfl,HP2.out,HTP.out⟩
end
def aFa(B B' pb:Nat)(w:World)(s:ByteArray)(T:List Tk)(g:Nat)(vC:Value)(mg nm:Nat)(r:Except Nat (bB×List Nd×Nat))(e:Ending)(w':World):Prop:=
 bN B B' mg w w'/\
  match r with
  | .ok (s1,l1,n)=>∃vl vP,e=.returned (.tuple #[vl,.bool true])/\bP B w' pb s T s1 g vC vP mg/\w'.ownsRow B' 36 2 vl (dP l1 nm n).length (aH (dP l1 nm n))
  | .error p=>∃a n c i vP vM,e=.returned (.tuple #[.slice a n c,.bool false])/\dG B w' pb s T i g vC vP vM/\(aE T i).pos=p
def aFb(B pb:Nat)(s:ByteArray)(T:List Tk)(g:Nat)(vC:Value)(mg f:Nat):Prop:=
 ∀(B':Nat) (st:bB) (vP vl:Value) (l:List Nd) (x:ByteArray) (w:World),bP B w pb s T ⟨st.i+1,st.vars,st.places⟩ g vC vP mg->w.ownsRow B' 36 2 vl (l.length+1) (aH (l++[(x,0)]))->B<=B'->B'<=w.heap.size->T.length<st.i+f->l.length+1<=st.i->st.places.length<=st.i->st.vars.length<=st.i->
  Calls zx 145 #[.pointer (some ⟨pb,0,none⟩),vl] w λe w'=>aFa B B' pb w s T g vC mg l.length (eI T f st (l++[(x,0)]) 0) e w'
theorem bP.parts{B:Nat}{w:World}{pb:Nat}{s:ByteArray}{T:List Tk}{st:bB}{g:Nat}{vC vP:Value}{mg:Nat}(h:bP B w pb s T st g vC vP mg)(k n:Nat):bP B w pb s T ⟨st.i,st.vars,pE st.places k n⟩ g vC vP mg:=
 ⟨h.pp,by rw [aSj,aSk];exact h.places,h.map,h.mhigh⟩
theorem bN.boxSet{B B' mg:Nat}{a w:World}{pb:Nat}{left:Value}{k x:Int}{wd:ByteArray}{vC vP vM:Value}(h:bN B B' mg a w)(hb:bL w pb left k x wd vC vP vM)(hp:B<=pb)(j:Nat)(u:Value):bN B B' mg a (w.setCell ⟨pb,j,none⟩ u):=h.grownBox hb hp (bQ _ _ _)
section
variable {B B' pb:Nat}{s:ByteArray}{T:List Tk}{g:Nat}{vC vP vl:Value}{mg:Nat}{st:bB}{l:List Nd}{w:World}
theorem aNj{w2 w3:World}{st2:bB}{v:Value}{p:Pl}{tb:Nat}{o:Obj}{X:Obj}(h:bP B w2 pb s T st2 g vC vP mg)(hl:w2.ownsRow B' 36 2 vl l.length (aH l))(hk:bN B B' mg w w2)(ht:w2.heap[tb]?=some o)(hto:∃cs,o=.cells cs 75)(ho:w3.ownsRow B 3 1 v (st2.places.length+1) (lW st2.places++[.int .i64 p.2.2.2]))(hg:(w2.alloc X).grownBy w3 vP.ownBlock) :
  w3.cell? ⟨pb,5,none⟩=some vP/\w3.frozen? ⟨pb,5,none⟩=false/\bP B (w3.setCell ⟨pb,5,none⟩ v) pb s T ⟨st2.i,st2.vars,st2.places++[p]⟩ g vC v mg/\(w3.setCell ⟨pb,5,none⟩ v).ownsRow B' 36 2 vl l.length (aH l)/\bN B B' mg w (w3.setCell ⟨pb,5,none⟩ v)/\(w3.setCell ⟨pb,5,none⟩ v).heap[tb]?=some o:=by
 have hA:=(Below.refl w2.heap.size w2).alloc (zz _) X;have hQA:=h.below hA;obtain ⟨c5,f5,hQ⟩:=hQA.place (p:=p) ho hg;obtain ⟨a1,a2⟩:=hQA.pp.row_apart hQA.places (by decide);obtain ⟨left3,hb3,hBp⟩:=(hQA.pp.far hg a1 a2).box;have hlA:=aU hl hA (zz _);have hl3:=hlA.kept hg (bV hlA hQA.places (by decide));have hk3:=(hk.trans (.of_below hA)).grownRow hQA.places (zz _) (Or.inl rfl) hg;have hlt:=(Array.getElem?_eq_some_iff.1 ht).1;obtain ⟨cs,rfl⟩:=hto;have htA:(w2.alloc X).heap[tb]?=some (.cells cs 75):=(hA.block tb hlt).trans ht;refine ⟨c5,f5,hQ,hb3.row hl3 (by decide) _ _,hk3.boxSet hb3 hBp _ _,?_⟩;have hne:tb≠pb:=by rintro rfl;obtain ⟨leftA,hbA,_⟩:=hQA.pp.box;unfold bL at hbA;rw [htA] at hbA;simp at hbA
 rw [Below.heap_setCell _ _ _ _ hne,hg.block tb (by have:=hA.size;omega) ?_]
 ·exact htA
 ·intro e;obtain ⟨_,⟨rfl,_⟩ | ⟨g',cap,cur,rfl,_,hh,_⟩⟩:=hQA.places
  ·simp [zy] at e
  ·simp [zy] at e;subst e;rw [htA] at hh;simp at hh
def aFc(k m:Nat):Except Nat (bB×List Nd×Nat)->Except Nat (bB×List Nd)
 | .error p=>.error p
 | .ok (st',l',n)=>.ok (⟨st'.i,st'.vars,pE st'.places k n⟩,dP l' m n)
theorem aNk{w7 w8:World}{r:Except Nat (bB×List Nd×Nat)}{e:Ending}{k:Nat}(hk:bN B B' mg w w7)(h:aFa B B' pb w7 s T g vC mg l.length r e w8) :
  (∃a n c b,e=.returned (.tuple #[.slice a n c,.bool b]))/\rP B B' pb w s T g vC mg (aFc k l.length r) e w8:=by
 obtain ⟨h1,h2⟩:=h;cases r with
 | error p=>
  obtain ⟨a,n,c,i,vP,vM,rfl,h3,h4⟩:=h2;exact ⟨⟨a,n,c,false,rfl⟩,hk.trans h1,a,n,c,i,vP,vM,rfl,h3,h4⟩
 | ok r=>
  obtain ⟨s1,l1,n⟩:=r;obtain ⟨vl,vP,rfl,h3,h4⟩:=h2;obtain ⟨a,c,hs⟩:=aS h4;exact ⟨⟨a,_,c,true,by rw [hs]⟩,hk.trans h1,vl,vP,rfl,h3.parts _ _,h4⟩
theorem aNl(atom:Bool)(f:Nat)(hT:∀i,(aE T i).kind∈gO)(hs:s.size<=3000)(hTl:T.length<=1000000)(hPC:aFb B pb s T g vC mg f)(h:bP B w pb s T st g vC vP mg)(hl:w.ownsRow B' 36 2 vl l.length (aH l))(hBB:B<=B')(hBw:B'<=w.heap.size)(hk:(aE T st.i).kind=110)(hf:T.length<st.i+(f+1))(hl1:l.length<=st.i)(hp1:st.places.length<=st.i)(hv1:st.vars.length<=st.i) :
  Calls zx 129 #[.pointer (some ⟨pb,0,none⟩),vl] w λe w'=>rP B B' pb w s T g vC mg (cU T (f+1) atom st l) e w':=by
 have hlt:=h.pp.lt;obtain ⟨iN,hN,hN0,hN1,hN2⟩:=info_parts mP;obtain ⟨left,hb,_⟩:=h.pp.box;obtain ⟨la,lc,rfl⟩:=aS hl;obtain ⟨va,vc,rfl⟩:=aS h.places;have d1:=hb.c1;have d2:=hb.c2;have d3:=hb.c3;rw [hk,show dK 110=97 from rfl] at d1;have CT:=aA (λo=>kY 118 (by decide) (by decide) (by decide) hT hs (h.pp.below ((Below.refl w.heap.size w).alloc (zz _) o)));rw [show dK 118=65 from rfl,if_neg (by rw [hk];decide),decide_eq_false (by rw [hk];decide)] at CT;have CU:=aA (λw1 (hp:dG B w1 pb s T st.i g vC (.slice va st.places.length vc) (.map (some mg)))=>kY 110 (by decide) (by decide) (by decide) hT hs hp);rw [show dK 110=97 from rfl,if_pos hk,decide_eq_true hk] at CU;have HQ:=aA h;have HL:=aA hl;have HK:=aA hk;have HT:=aA hT;have HPC:=aA hPC;clear h hl hb hk hT hPC;obtain ⟨tx,htx⟩ : ∃tx,(aE T st.i).txt=tx:=⟨_,rfl⟩;obtain ⟨tp,htp⟩ : ∃tp,(aE T st.i).pos=tp:=⟨_,rfl⟩;rw [htp] at d2;rw [htx] at d3;have HTX:=aA htx;have HTP:=aA htp;clear htx htp;go_enter zm,zp;go_upto_region 6 with (first
  | (go_at_call 81;refine (CU.out _ HP1.out).mono ?_;rintro e w2 ⟨rfl,hg2,hp2⟩;have HG2:=aA hg2;have HP2:=aA hp2;clear hg2 hp2)
  | (go_at_call 81;refine (aB CT _).mono ?_;rintro e w1 ⟨rfl,hg1,hp1'⟩;have HG1:=aA hg1;have HP1:=aA hp1';clear hg1 hp1')
  | go_in)
 have hA:=(Below.refl w.heap.size w).alloc (zz _) (.cells #[.int .i32 97,.int .i64 tp,.string tx] 75);have hQA:=HQ.out.below hA;have hQ1:=hQA.take HG1.out HP1.out;have hQ2:=hQ1.take HG2.out HP2.out;obtain ⟨leftA,hbA,hBp⟩:=hQA.pp.box;obtain ⟨left1,hb1,_⟩:=hQ1.pp.box;have hlA:=aU HL.out hA (zz _);have hl1':=hlA.kept HG1.out (hbA.apart hlA (by decide));have hl2':=hl1'.kept HG2.out (hb1.apart hl1' (by decide));have hk2:bN B B' mg w w2:=((bN.of_below hA).grownBox hbA hBp HG1.out).grownBox hb1 hBp HG2.out;have hpbl:pb<w.heap.size:=by obtain ⟨left,hb,_⟩:=HQ.out.pp.box;exact hb.lt
 have hx2:w2.heap[w.heap.size]?=some (.cells #[.int .i32 97,.int .i64 tp,.string tx] 75):=by rw [HG2.out.block w.heap.size (by have:=HG1.out.size;simp at this;omega) (by simp;omega),HG1.out.block w.heap.size (by simp) (by simp;omega)];show (w.heap.push _)[w.heap.size]?=_;simp
 have hz2:=hk2.size;obtain ⟨left2,hb2,_⟩:=hQ2.pp.box;have p5:=hb2.c5;have t1:w2.cell? ⟨w.heap.size,1,none⟩=some (.int .i64 tp):=by unfold zq;rw [hx2];rfl
 have t2:w2.cell? ⟨w.heap.size,2,none⟩=some (.string tx):=by unfold zq;rw [hx2];rfl
 have p5A:∀o,(w2.alloc o).cell? ⟨pb,5,none⟩=some (.slice va st.places.length vc):=λo=>Below.at' ((Below.refl w2.heap.size w2).alloc (zz _) o) (zz _) p5
 have t1A:∀o,(w2.alloc o).cell? ⟨w.heap.size,1,none⟩=some (.int .i64 tp):=λo=>Below.at' ((Below.refl w2.heap.size w2).alloc (zz _) o) (zz _) t1
 have HQ2:=aA hQ2;have HL2:=aA hl2';have HK2:=aA hk2;have HX2:=aA hx2;clear hA hQA hQ1 hQ2 hbA hb1 hb2 hlA hl1' hl2' hk2 hx2 HQ HL HP1 HP2 HG1 HG2 CT CU d1 d2 d3;go_cut [] (λwx=>∃v5,bP B wx pb s T ⟨st.i+1,st.vars,st.places++[(tx,atom,0,(tp:Int))]⟩ g vC v5 mg/\wx.ownsRow B' 36 2 (.slice la l.length lc) l.length (aH l)/\bN B B' mg w wx/\wx.heap[w.heap.size]?=some (.cells #[.int .i32 97,.int .i64 tp,.string tx] 75));case first=>
  refine tE ?_;have hq2d:Hid (bP B w2.drew pb s T ⟨st.i+1,st.vars,st.places⟩ g vC (.slice va st.places.length vc) mg):=aA (HQ2.out.below (aJ (w1:=w2.drew) ⟨1,rfl⟩));have hk2d:Hid (bN B B' mg w w2.drew):=aA (HK2.out.trans (.of_below (aJ (w1:=w2.drew) ⟨1,rfl⟩)));go_region_law (refine mZ ?g1 (.tmp 31) (.tmp 34) 25 3 ?g2 (.int .i64 0) 1 8 Tryz.underlying25 oT ?g3 ?g4 ?g5 B _ st.places.length (lW st.places) ?g6 (hq2d.out.places.alloc _) ?g7 ?g8 w2.heap.size 1 [.int .i64 tp] ?g9 ?g10 (rJ w2.drew (.int .i64 tp) 3 w2.heap.size rfl) (aAu tp) ?_;(case g1=>rfl);(case g2=>rfl);(case g3=>rfl);(case g4=>decide);(case g5=>decide);(case g6=>rfl);(case g7=>omega);(case g8=>(simp;omega));(case g9=>rfl);(case g10=>rfl);intro v3 w3 ho3 hg3;obtain ⟨c5,f5,hp3⟩:=aNj (p:=(tx,atom,0,(tp:Int))) (tb:=w.heap.size) hq2d.out HL2.out hk2d.out HX2.out ⟨_,rfl⟩ ho3 hg3;have HP3:=aA hp3;obtain ⟨va3,vc3,rfl⟩:=aS ho3;clear ho3 hg3 hp3);all_goals
   refine qJ ?_;go_wp2_with fail;go_meet;case rel=>exact ⟨_,HP3.out⟩
 case rest=>
  obtain ⟨v5,hQ5,hl5,hk5,hx5⟩:=hcut;have t2:wc.cell? ⟨w.heap.size,2,none⟩=some (.string tx):=by unfold zq;rw [hx5];rfl
  have HQ5:=aA hQ5;have HL5:=aA hl5;have HK5:=aA hk5;have hz5:=hk5.size;clear hQ5 hl5 hk5 hx5 HQ2 HL2 HK2 HX2 p5 p5A t1 t1A;have HNP:Hid (∀(h40:(aE T (st.i+1)).kind≠40),cU T (f+1) atom st l=.ok (⟨st.i+1,st.vars,st.places++[(tx,atom,0,(tp:Int))]⟩,l++[(tx,0)])):=aA λh40=>by
   rw [cU,if_neg (by rw [HK.out];exact λh=>absurd h.1 (by decide)),if_neg (by rw [HK.out];decide),if_neg h40,HTX.out,HTP.out]
  by_cases h40:(aE T (st.i+1)).kind=40
  ·have CT4:=aA (λw1 (hp:dG B w1 pb s T (st.i+1) g vC v5 (.map (some mg)))=>kY 40 (by decide) (by decide) (by decide) HT.out hs hp);rw [show dK 40=40 from rfl,if_pos h40,decide_eq_true h40] at CT4;have HPT:Hid (cU T (f+1) atom st l=aFc st.places.length l.length (eI T f ⟨st.i+1,st.vars,st.places++[(tx,atom,0,(tp:Int))]⟩ (l++[(tx,0)]) 0)):=aA (by
    rw [cU,if_neg (by rw [HK.out];exact λh=>absurd h.1 (by decide)),if_neg (by rw [HK.out];decide),if_pos h40,HTX.out,HTP.out];cases eI T f ⟨st.i+1,st.vars,st.places++[(tx,atom,0,(tp:Int))]⟩ (l++[(tx,0)]) 0 with
    | error p=>rfl
    | ok r=>rfl)
   go_wp2_with (first
    | (at_builtin;refine wpList_append_own _ rfl (.tmp 38) (.tmp 42) 37 rfl B' 36 iN (.agg #[.string ⟨#[]⟩,.int .i64 0]) 2 24 zt hN hN0 hN1 hN2 rfl (by decide) _ _ _ rfl (HL5.out.alloc _) ⟨_,0,none⟩ 1 1 [.string tx,.int .i64 0] rfl rfl (gF wc _ _ _ _ rfl) (rK _ _) (by unfold maxLen;omega) (by omega) (by simp;omega) ?_;intro v6 w6 ho6 hg6 _;have HQ6:=aA ((HQ5.out.below ((Below.refl wc.heap.size wc).alloc (zz _) _)).far (HL5.out.alloc _) (by decide) hg6);have HK6:=aA ((HK5.out.trans (.of_below ((Below.refl wc.heap.size wc).alloc (zz _) _))).grownRow (HL5.out.alloc _) hBB (zr ⟨rfl,zz _⟩) hg6);have HL6:Hid (w6.ownsRow B' 36 2 v6 (l.length+1) (aH (l++[(tx,0)]))):=aA (by rw [rG];exact ho6);obtain ⟨va6,vc6,rfl⟩:=aS ho6;clear ho6 hg6)
    | (go_at_call 81;refine (CT4.out _ HQ6.out.pp).mono ?_;rintro e w7 ⟨rfl,hg7,hp7⟩;obtain ⟨left6,hb6,hBp6⟩:=HQ6.out.pp.box;have hQ7:=HQ6.out.take hg7 hp7;have hl7:=HL6.out.kept hg7 (hb6.apart HL6.out (by decide));have hk7:=HK6.out.grownBox hb6 hBp6 hg7;have CP:=aA (HPC.out B' ⟨st.i+1,st.vars,st.places++[(tx,atom,0,(tp:Int))]⟩ v5 _ l tx w7 hQ7 hl7 hBB (zn hBw hk7.size) (by simp;omega) (by simp;omega) (by simp;omega) (by simp;omega));have HK7:=aA hk7;clear hg7 hp7 hQ7 hl7 hk7 hb6)
    | (go_at_call 145;refine (aB CP).mono ?_;intro e w8 hP8;obtain ⟨⟨a8,n8,c8,b8,he8⟩,hTQ⟩:=aNk (k:=st.places.length) HK7.out hP8;subst he8;have HTQ:=aA hTQ;clear hTQ)
    | go_in)
   go_ret2;rw [HPT.out];exact HTQ.out
  ·have CT4:=aA (λw1 (hp:dG B w1 pb s T (st.i+1) g vC v5 (.map (some mg)))=>kY 40 (by decide) (by decide) (by decide) HT.out hs hp);rw [show dK 40=40 from rfl,if_neg h40,decide_eq_false h40] at CT4;have HNP':=aA (HNP.out h40);clear HNP;go_wp2_with (first
    | (at_builtin;refine wpList_append_own _ rfl (.tmp 38) (.tmp 42) 37 rfl B' 36 iN (.agg #[.string ⟨#[]⟩,.int .i64 0]) 2 24 zt hN hN0 hN1 hN2 rfl (by decide) _ _ _ rfl (HL5.out.alloc _) ⟨_,0,none⟩ 1 1 [.string tx,.int .i64 0] rfl rfl (gF wc _ _ _ _ rfl) (rK _ _) (by unfold maxLen;omega) (by omega) (by simp;omega) ?_;intro v6 w6 ho6 hg6 _;have HQ6:=aA ((HQ5.out.below ((Below.refl wc.heap.size wc).alloc (zz _) _)).far (HL5.out.alloc _) (by decide) hg6);have HK6:=aA ((HK5.out.trans (.of_below ((Below.refl wc.heap.size wc).alloc (zz _) _))).grownRow (HL5.out.alloc _) hBB (zr ⟨rfl,zz _⟩) hg6);have HL6:Hid (w6.ownsRow B' 36 2 v6 (l++[(tx,0)]).length (aH (l++[(tx,0)]))):=aA (by rw [rG,zv];exact ho6);obtain ⟨va6,vc6,rfl⟩:=aS ho6;clear ho6 hg6)
    | (go_at_call 81;refine (CT4.out _ HQ6.out.pp).mono ?_;rintro e w7 ⟨rfl,hg7,hp7⟩;obtain ⟨left6,hb6,hBp6⟩:=HQ6.out.pp.box;have HQ7:=aA (HQ6.out.take hg7 hp7);have HL7:=aA (HL6.out.kept hg7 (hb6.apart HL6.out (by decide)));have HK7:=aA (HK6.out.grownBox hb6 hBp6 hg7);clear hg7 hp7 hb6)
    | go_in)
   go_ret2;refine ⟨HK7.out,?_⟩;rw [HNP'.out];exact ⟨_,_,rfl,HQ7.out,HL7.out⟩
end
theorem rP.shape{B B' pb:Nat}{w:World}{s:ByteArray}{T:List Tk}{g:Nat}{vC:Value}{mg:Nat}{r:Except Nat (bB×List Nd)}{e:Ending}{w':World}(h:rP B B' pb w s T g vC mg r e w'):∃a n c b,e=.returned (.tuple #[.slice a n c,.bool b]):=by
 obtain ⟨_,h⟩:=h;cases r with
 | error p=>obtain ⟨a,n,c,i,vP,vM,rfl,_⟩:=h;exact ⟨a,n,c,false,rfl⟩
 | ok y=>
  obtain ⟨s1,l1⟩:=y;obtain ⟨vl,vP,rfl,_,h4⟩:=h;obtain ⟨a,c,hs⟩:=aS h4;exact ⟨a,_,c,true,by rw [hs]⟩
theorem aNm(L:List Nd)(k n:Nat)(h:k<L.length):∃x:ByteArray,(dP L k n)[k]'(by rw [uV];exact h)=(x,(n:Int)):=by unfold dP;exact ⟨L[k].1,by rw [List.getElem_modify_eq]⟩
structure yK(B B' pb:Nat)(w:World)(s:ByteArray)(T:List Tk)(g:Nat)(vC:Value)(mg nm:Nat)(r:Except Nat (bB×List Nd×Nat))(k:Nat)(vl:Value)(wr:World)(st:bB)(L:List Nd)(n:Nat)(vP:Value):Prop where
 q:bP B wr pb s T ⟨st.i+1,st.vars,st.places⟩ g vC vP mg
 row:wr.ownsRow B' 36 2 vl L.length (aH (dP L nm n))
 kept:bN B B' mg w wr
 eq:r=eI T k st L n
 fuel:T.length<st.i+k
 nm:nm<L.length
 len:L.length<=st.i
 pl:st.places.length<=st.i
 vs:st.vars.length<=st.i
 few:n<=st.i
theorem yK.step{B B' pb:Nat}{w:World}{s:ByteArray}{T:List Tk}{g:Nat}{vC:Value}{mg nm:Nat}{r:Except Nat (bB×List Nd×Nat)}{k:Nat}{vl:Value}{wr:World}{st:bB}{L:List Nd}{n:Nat}{vP:Value}(h:yK B B' pb w s T g vC mg nm r (k+1) vl wr st L n vP){q:Except Nat (bB×List Nd)}(hq:cU T k false ⟨st.i+1,st.vars,st.places⟩ []=q) :
  match q with
  | .error p=>r=.error p
  | .ok (s1,x)=>r=if (aE T s1.i).kind=44 then eI T k s1 (L++x) (n+1) else if (aE T s1.i).kind=41 then .ok (⟨s1.i+1,s1.vars,s1.places⟩,L++x,n+1) else .error (aE T s1.i).pos:=by
 have he:=h.eq;rw [eI,(aI3 T k).1 false _ L,hq] at he;cases q with
 | error p=>exact he
 | ok y=>exact he
theorem aNn{B B' pb:Nat}{w w1:World}{s:ByteArray}{T:List Tk}{g:Nat}{vC:Value}{mg nm:Nat}{s1:bB}{L x:List Nd}{n:Nat}{vP vl:Value}(hq:bP B w1 pb s T s1 g vC vP mg)(hr:w1.ownsRow B' 36 2 vl (dP L nm n++x).length (aH (dP L nm n++x)))(hnm:nm<L.length)(hBB:B<=B')(hk:bN B B' mg w w1) :
  ∃gn c,vl=.slice (some ⟨gn,0,none⟩) (L++x).length c/\w1.cell? ⟨gn,nm*2+1,none⟩=some (.int .i64 n)/\w1.frozen? ⟨gn,nm*2+1,none⟩=false/\
   bP B (w1.setCell ⟨gn,nm*2+1,none⟩ (.int .i64 ((n:Int)+1))) pb s T s1 g vC vP mg/\(w1.setCell ⟨gn,nm*2+1,none⟩ (.int .i64 ((n:Int)+1))).ownsRow B' 36 2 vl (L++x).length (aH (dP (L++x) nm (n+1)))/\bN B B' mg w (w1.setCell ⟨gn,nm*2+1,none⟩ (.int .i64 ((n:Int)+1))):=by
 rw [<-aSf L x nm n hnm,uV] at hr;have hnx:nm<(L++x).length:=by simp;omega
 obtain ⟨gn,c,rfl⟩:=rZ hr (by omega);have hg:w1.grownBy (w1.setCell ⟨gn,nm*2+1,none⟩ (.int .i64 ((n:Int)+1))) (some gn):=bQ _ _ _;obtain ⟨y,hy⟩:=aNm (L++x) nm n hnx;refine ⟨gn,c,rfl,?_,hr.frozenAt _,hq.far hr (by decide) hg,?_,hk.grownRow hr hBB (zr ⟨rfl,zz _⟩) hg⟩
 ·rw [hr.cellAt _ (by omega),(sQ _ nm (by rw [uV];exact hnx)).2,hy]
 ·have:=(hr.stored (nm*2+1) (.int .i64 ((n+1:Nat):Int))).1;rw [aS7,aSh] at this;exact this
section
variable {B pb:Nat}{s:ByteArray}{T:List Tk}{g:Nat}{vC:Value}{mg:Nat}
theorem aNo(f:Nat)(hT:∀i,(aE T i).kind∈gO)(hs:s.size<=3000)(hTl:T.length<=1000000)(IH:∀k,k<f->aF9 B pb s T g vC mg k):aFb B pb s T g vC mg f:=by
 intro B' st vP vl l x w h hl hBB hBw hf hl1 hp1 hv1;have hlt:=h.pp.lt;simp only at hlt;obtain ⟨la,lc,rfl⟩:=aS hl;have HIH:=aA IH;have HT:=aA hT;have H0:Hid (yK B B' pb w s T g vC mg l.length (eI T f st (l++[(x,0)]) 0) f (.slice la (l.length+1) lc) w st (l++[(x,0)]) 0 vP):=aA ⟨h,by rw [aS8,zv];exact hl,bN.refl _ _ _ _,rfl,hf,by simp,by simp;omega,hp1,hv1,Nat.zero_le _⟩;obtain ⟨R,hR⟩ : ∃R,eI T f st (l++[(x,0)]) 0=R:=⟨_,rfl⟩;rw [hR] at H0;simp only [hR];have hl1':l.length<=1000000:=by omega
 clear h hl IH hT hR;generalize l.length=nm at *;go_enter Tryz.func145,Tryz.ntmps145;go_wp2;go_loopg [1] f (λk vl wr=>k<=f/\∃st' L n vP',yK B B' pb w s T g vC mg nm R k vl wr st' L n vP');case atStart=>exact ⟨zz _,st,_,0,vP,H0.out⟩
 case round=>
  clear H0;obtain ⟨hkf,st',L,n,vP',hL⟩:=hrel;have hlt':=hL.q.pp.lt;simp only at hlt';have hfu:=hL.fuel;have hnm:=hL.nm;have hlen:=hL.len;have hpl:=hL.pl;have hvs:=hL.vs;have hfew:=hL.few;obtain ⟨k',rfl⟩ : ∃k',gk=k'+1:=⟨gk-1,by omega⟩;obtain ⟨va,vc,rfl⟩:=aS hL.row;have CT:=aA (HIH.out k' (by omega) B' false ⟨st'.i+1,st'.vars,st'.places⟩ vP' _ (dP L nm n) wr hL.q (by rw [uV];exact hL.row) hBB (zn hBw hL.kept.size) (by simp) (by simp;omega) (by rw [uV];simp;omega) (by simp;omega) (by simp;omega));have HL:=aA hL;have hpre:=(aI3 T k').1 false ⟨st'.i+1,st'.vars,st'.places⟩ (dP L nm n);rw [hpre] at CT;clear hpre;cases hq:cU T k' false ⟨st'.i+1,st'.vars,st'.places⟩ [] with
  | error p=>
   have hst:=HL.out.step hq;rw [hq] at CT;have HR:Hid (R=.error p):=aA hst;clear hq hst hL;go_wp2_with (first
    | (go_at_call 129;refine (aB CT).mono ?_;rintro e w1 ⟨hk1,a1,n1,c1,i1,vP1,vM1,rfl,hp1,hpos⟩;have HK1:=aA hk1;have HP1:=aA hp1;have HPO:=aA hpos;clear hk1 hp1 hpos)
    | go_in)
   go_ret2;refine ⟨HL.out.kept.trans HK1.out,?_⟩;rw [HR.out];exact ⟨_,_,_,_,_,_,rfl,HP1.out,HPO.out⟩
  | ok y=>
   obtain ⟨s1,x1⟩:=y;have hst:=HL.out.step hq;simp only at hst;have hon:=(uX T k').1 _ _ _ _ _ hq;simp only [List.length_nil] at hon;rw [hq] at CT;obtain ⟨L2,hL2⟩ : ∃L2,L++x1=L2:=⟨_,rfl⟩;have hl2:L2.length=L.length+x1.length:=by rw [<-hL2];simp
   have HPM:=aA (λ(w1:World) (vP1 vl1:Value) (hq1:bP B w1 pb s T s1 g vC vP1 mg) (hr1:w1.ownsRow B' 36 2 vl1 (dP L nm n++x1).length (aH (dP L nm n++x1))) (hk1:bN B B' mg w w1)=>aNn hq1 hr1 hnm hBB hk1);rw [hL2] at hst HPM;have HST:=aA hst;have hnmi:(nm:Int)<(L2.length:Int):=by omega
   have hnm0:(0:Int)<=(nm:Int):=by omega
   have hnn:n<=1000000:=by omega
   have HL2:=aA hl2;clear hq hst hL hL2 hl2;have C44:=aA (λw1 vP1 (hp:dG B w1 pb s T s1.i g vC vP1 (.map (some mg)))=>kY 44 (by decide) (by decide) (by decide) HT.out hs hp);rw [show dK 44=44 from rfl] at C44;have C41:=aA (λw1 vP1 (hp:dG B w1 pb s T s1.i g vC vP1 (.map (some mg)))=>kY 41 (by decide) (by decide) (by decide) HT.out hs hp);rw [show dK 41=41 from rfl] at C41;by_cases h44:(aE T s1.i).kind=44
   ·rw [if_pos h44,decide_eq_true h44] at C44;have HST':Hid (R=eI T k' s1 L2 (n+1)):=aA (by have:=HST.out;rw [if_pos h44] at this;exact this);clear HST C41;go_wp2_with (first
     | (go_at_call 81;refine (C44.out _ _ HQ2.out.pp).mono ?_;rintro e w3 ⟨rfl,hg3,hp3⟩;obtain ⟨left2,hb2,hBp2⟩:=HQ2.out.pp.box;have HQ3:=aA (HQ2.out.take hg3 hp3);have HR3:=aA (HR2.out.kept hg3 (hb2.apart HR2.out (by decide)));have HK3:=aA (HK2.out.grownBox hb2 hBp2 hg3);clear hg3 hp3 hb2)
     | (go_at_call 129;refine (aB CT).mono ?_;rintro e w1 ⟨hk1,vl1,vP1,rfl,hq1,hr1⟩;obtain ⟨gn,cn,rfl,cc,cf,hq2,hr2,hk2⟩:=HPM.out w1 vP1 vl1 hq1 hr1 (HL.out.kept.trans hk1);have HQ2:=aA hq2;have HR2:=aA hr2;have HK2:=aA hk2;clear hk1 hq1 hr1 hq2 hr2 hk2)
     | go_in)
    go_roundg k';case measure=>omega
    case rel=>exact ⟨by omega,s1,L2,n+1,_,HQ3.out,HR3.out,HK3.out,HST'.out,by omega,by have:=HL2.out;omega,by have:=HL2.out;omega,by omega,by omega,by omega⟩
   ·rw [if_neg h44,decide_eq_false h44] at C44;by_cases h41:(aE T s1.i).kind=41
    ·rw [if_pos h41,decide_eq_true h41] at C41;have HST':Hid (R=.ok (⟨s1.i+1,s1.vars,s1.places⟩,L2,n+1)):=aA (by have:=HST.out;rw [if_neg h44,if_pos h41] at this;exact this);clear HST;go_wp2_with (first
      | (go_at_call 81;refine (C41.out _ _ HQ3.out.pp).mono ?_;rintro e w4 ⟨rfl,hg4,hp4⟩;obtain ⟨left3,hb3,hBp3⟩:=HQ3.out.pp.box;have HQ4:=aA (HQ3.out.take hg4 hp4);have HR4:=aA (HR3.out.kept hg4 (hb3.apart HR3.out (by decide)));have HK4:=aA (HK3.out.grownBox hb3 hBp3 hg4);clear hg4 hp4 hb3)
      | (go_at_call 81;refine (C44.out _ _ HQ2.out.pp).mono ?_;rintro e w3 ⟨rfl,hg3,hp3⟩;obtain ⟨left2,hb2,hBp2⟩:=HQ2.out.pp.box;have HQ3:=aA (HQ2.out.take hg3 hp3);have HR3:=aA (HR2.out.kept hg3 (hb2.apart HR2.out (by decide)));have HK3:=aA (HK2.out.grownBox hb2 hBp2 hg3);clear hg3 hp3 hb2)
      | (go_at_call 129;refine (aB CT).mono ?_;rintro e w1 ⟨hk1,vl1,vP1,rfl,hq1,hr1⟩;obtain ⟨gn,cn,rfl,cc,cf,hq2,hr2,hk2⟩:=HPM.out w1 vP1 vl1 hq1 hr1 (HL.out.kept.trans hk1);have HQ2:=aA hq2;have HR2:=aA hr2;have HK2:=aA hk2;clear hk1 hq1 hr1 hq2 hr2 hk2)
      | go_in)
     go_ret2;refine ⟨HK4.out,?_⟩;rw [HST'.out];exact ⟨_,_,rfl,HQ4.out,by rw [uV];exact HR4.out⟩
    ·rw [if_neg h41,decide_eq_false h41] at C41;have HST':Hid (R=.error (aE T s1.i).pos):=aA (by have:=HST.out;rw [if_neg h44,if_neg h41] at this;exact this);clear HST;go_wp2_with (first
      | (go_at_call 81;refine (C41.out _ _ HQ3.out.pp).mono ?_;rintro e w4 ⟨rfl,hg4,hp4⟩;obtain ⟨left3,hb3,hBp3⟩:=HQ3.out.pp.box;have HP4:=aA hp4;have HK4:=aA (HK3.out.grownBox hb3 hBp3 hg4);clear hg4 hp4 hb3)
      | (go_at_call 81;refine (C44.out _ _ HQ2.out.pp).mono ?_;rintro e w3 ⟨rfl,hg3,hp3⟩;obtain ⟨left2,hb2,hBp2⟩:=HQ2.out.pp.box;have HQ3:=aA (HQ2.out.take hg3 hp3);have HK3:=aA (HK2.out.grownBox hb2 hBp2 hg3);clear hg3 hp3 hb2)
      | (go_at_call 129;refine (aB CT).mono ?_;rintro e w1 ⟨hk1,vl1,vP1,rfl,hq1,hr1⟩;obtain ⟨gn,cn,rfl,cc,cf,hq2,hr2,hk2⟩:=HPM.out w1 vP1 vl1 hq1 hr1 (HL.out.kept.trans hk1);have HQ2:=aA hq2;have HR2:=aA hr2;have HK2:=aA hk2;clear hk1 hq1 hr1 hq2 hr2 hk2)
      | go_in)
     go_ret2;refine ⟨HK4.out,?_⟩;rw [HST'.out];exact ⟨_,_,_,_,_,_,rfl,HP4.out,rfl⟩
theorem aNp(hT:∀i,(aE T i).kind∈gO)(hx:∀i,(aE T i).txt.size<=1000000)(hs:s.size<=3000)(hTl:T.length<=1000000):∀f,aF9 B pb s T g vC mg f:=by
 intro f;induction f using Nat.strongRecOn with
 | _ f ih=>
  intro B' atom st vP vl l w h hl hBB hBw hat hf hl1 hp1 hv1;have hlt:=h.pp.lt;obtain ⟨f',rfl⟩ : ∃f',f=f'+1:=⟨f-1,by omega⟩;by_cases hk:(aE T st.i).kind=110
  ·exact aNl atom f' hT hs hTl (aNo f' hT hs hTl λk hk=>ih k (by omega)) h hl hBB hBw hk hf hl1 hp1 hv1
  ·by_cases hk2:(aE T st.i).kind=118
   ·have ha:atom=false:=by
     cases atom
     ·rfl
     ·exact absurd hk2 (hat rfl)
    exact aNh atom f' hT hx hs hTl h hl hBB hBw hk2 ha hl1 hv1
   ·exact aNi atom f' hT hs h hk2 hk
end
theorem aNq{B pb:Nat}{s:ByteArray}{T:List Tk}{g:Nat}{vC vP:Value}{mg:Nat}{st:bB}{w:World}(hT:∀i,(aE T i).kind∈gO)(hx:∀i,(aE T i).txt.size<=1000000)(hs:s.size<=3000)(hTl:T.length<=1000000)(h:bP B w pb s T st g vC vP mg)(hBw:B<=w.heap.size)(hp1:st.places.length<=st.i)(hv1:st.vars.length<=st.i) :
  Calls zx 108 #[.pointer (some ⟨pb,0,none⟩)] w λe w'=>rP B w.heap.size pb w s T g vC mg (cU T (T.length+1) true st []) e w':=by
 have hlt:=h.pp.lt;obtain ⟨left,hb,_⟩:=h.pp.box;have d1:=hb.c1;by_cases hk:(aE T st.i).kind=118
 ·have HP:Hid (cU T (T.length+1) true st []=.error (aE T st.i).pos):=aA (by rw [cU,if_neg (by simp),if_pos (by rw [hk];decide)]);rw [hk,show dK 118=65 from rfl] at d1;have HQ:=aA h;clear h hb;go_enter Tryz.func108,Tryz.ntmps108;go_wp2;go_ret2;refine ⟨bN.refl _ _ _ _,?_⟩;rw [HP.out];exact ⟨_,_,_,_,_,_,rfl,HQ.out.pp,rfl⟩
 ·have hne:(dK (aE T st.i).kind == 65)=false:=by
   rw [beq_eq_false_iff_ne];exact λe=>hk (aB9 _ (hT st.i) 118 (by decide) (by rw [e];rfl))
  have CT:=aA (aNp (B:=B) (pb:=pb) (g:=g) (vC:=vC) (mg:=mg) hT hx hs hTl (T.length+1) w.heap.size true st vP (.slice none 0 0) [] w h (World.ownsRow_nil _ _ _ _) hBw (zz _) (λ_=>hk) (by omega) (Nat.zero_le _) hp1 hv1);generalize dK (aE T st.i).kind=K at *;clear h hb hk hT hx;go_enter Tryz.func108,Tryz.ntmps108;go_wp2_with (first
   | (go_at_call 129;refine (aB CT).mono ?_;intro e w1 hQ1;obtain ⟨a1,n1,c1,b1,he1⟩:=hQ1.shape;subst he1;have HQ1:=aA hQ1;clear hQ1)
   | go_in)
  go_ret2;exact HQ1.out
end
end Go.Proofs.YtcldkjcpofjmhaaGreatDoor
