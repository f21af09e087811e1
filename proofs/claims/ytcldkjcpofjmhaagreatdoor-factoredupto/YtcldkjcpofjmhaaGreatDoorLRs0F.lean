import Derived.Test.YtcldkjcpofjmhaaGreatDoorBFillF
import Derived.Test.YtcldkjcpofjmhaaGreatDoorWRes0F
import Derived.Test.YtcldkjcpofjmhaaGreatDoorPCopy0F
open And renaming intro→za
open List renaming length_map→zu,mem_cons→zr,map_append→zq,mem_map_of_mem→zi,length_append→zh,length_eraseIdx_of_lt→zg,getElem_append_right→zf,getElem?_eq_getElem→ze,length_take→zd,length_eraseIdx_le→zc,take_length→zb,mem_map→z2,mem_append→z6,map_cons→z7,map→z9,getElem_mem→yy
open Nat renaming le_refl→zy,le_trans→z0,lt_trans→z8
open Or renaming inr→zv,inl→zs
open Prod renaming fst→zw
namespace Go.Proofs.YtcldkjcpofjmhaaGreatDoor
open Calls renaming quiet_of_same→zz
open IntKind renaming i64→zt
open _root_.Go.Proofs.Tryz renaming ntmps20→zp,ntmps29→zo,prog→zn,func20→zl,func29→zk,underlying64→yz
open Value renaming int→zm,slice→zj
set_option maxHeartbeats 8000000
set_option maxRecDepth 100000
variable{c out:List Lt}{a1:Option Addr}{w:World}
section
open Go.RowKit Go.Shelf
def jG(v:Value)(Q:List (Lt×Value))(k:Nat):Prop:=v.ownBlock=some k\/∃q∈Q,q.2.ownBlock=some k
structure mC(N0 M:Nat)(W:World)(v:Value)(Q:List (Lt×Value)):Prop where
 row:W.ownsRow N0 39 2 v Q.length (bA Q)
 atoms:∀q∈Q,fP W N0 q.2 q.1.2
 nd:((Q.map Prod.snd).filterMap Value.ownBlock).Nodup
 lt:∀k,jG v Q k->k<M
 few:Q.length<=1000000
 small:∀q∈Q,q.1.2.length<=1000000
structure aC1(B bk N0 M:Nat)(tk:Nat->Prop)(nv mv xv yv:Value)(E:List (Value×Int))(F:List bZ)(G:List dB)(next:Int)(W:World):Prop where
 book:dM W B bk nv mv xv yv E F G next
 rows:∀u∈[nv,mv,xv,yv],∀k,u.ownBlock=some k->k<N0\/M<=k
 held:∀k∈held E F G,k<N0\/M<=k\/tk k
 bkl:bk<N0
 low:B<=N0
 big:M<=W.heap.size
 nm:N0<=M
section
variable {B bk N0 M:Nat}{tk:Nat->Prop}{nv mv xv yv v v2:Value}{E:List (Value×Int)}{F:List bZ}{G:List dB}{next:Int}{W:World}{Q Q2:List (Lt×Value)}
theorem mC.ge(h:mC N0 M W v Q){k:Nat}(hk:jG v Q k):N0<=k:=by
 rcases hk with hk | ⟨q,hq,hk⟩
 ·exact (aT h.row k hk).1
 ·exact (aT (h.atoms q hq) k hk).1
structure TkR(B bk N0 M:Nat)(tk:Nat->Prop)(yv v:Value)(E:List (Value×Int))(F:List bZ)(G:List dB)(next:Int)(Q:List (Lt×Value))(W W':World)(nv' mv' xv':Value)(E1:List (Value×Int))(F1:List bZ):Prop where
 st:aC1 B bk N0 M (λk=>tk k\/jG v Q k) nv' mv' xv' yv E1 F1 G (next-Q.length-1) W'
 lenE:E1.length=E.length+4*Q.length
 lenF:F1.length=F.length+1
 others:∀v2 Q2,mC N0 M W v2 Q2->(∀k,jG v Q k->¬jG v2 Q2 k)->mC N0 M W' v2 Q2
 below:Below B W W'
theorem aC2(h:aC1 B bk N0 M tk nv mv xv yv E F G next W)(hc:mC N0 M W v Q)(hd:∀k,tk k->¬jG v Q k)(hE:E.length<=8000000000)(hF1:F.length<1000000000)(hnx : -8000000000<=next) :
  Calls zn 15 #[.pointer (some ⟨bk,0,none⟩),v] W λe w'=>e=.returned (.tuple #[])/\∃nv' mv' xv' E1 F1,TkR B bk N0 M tk yv v E F G next Q W w' nv' mv' xv' E1 F1:=by
 have hbw:B<=W.heap.size:=z0 h.low (z0 h.nm h.big);refine (aM6 B bk nv mv xv yv v E F G next Q W h.book (dN hc.row h.low) (λq hq=>dN (hc.atoms q hq) h.low) hc.small hc.few hc.nd (λk hk=>?_) hE hF1 hnx hbw).mono ?_
 ·have key:¬jG v Q k:=λhb=>by
   have h1:=hc.lt k hb;have h2:=hc.ge hb;rcases h.held k hk with h3 | h3 | h3
   ·omega
   ·omega
   ·exact hd k h3 hb
  exact ⟨λe=>key (zs e),λq hq e=>key (zv ⟨q,hq,e⟩)⟩
 ·rintro e w' ⟨rfl,nv',mv',xv',E1,F1,r⟩;have hmv:∀{u u':Value},aX W u u'->(∀k,u.ownBlock=some k->k<N0\/M<=k)->∀k,u'.ownBlock=some k->k<N0\/M<=k:=by
   intro u u' hm hu k hk;rcases hm with e | ⟨g,e,hg⟩
   ·exact hu k (by rw [<-e];exact hk)
   ·rw [e] at hk;cases hk;have:=h.big;exact zv (by omega)
  have hfar:∀k,N0<=k->k<M->¬jG v Q k->w'.heap[k]?=W.heap[k]?:=λk h1 h2 h3=>by
   have hb:=h.bkl;have hg:=h.big;refine r.far.block k (by omega) (by omega) (λe=>?_) (λe=>?_) (λu hu e=>?_)
   ·have:=h.rows nv (by simp) k e;omega
   ·have:=h.rows mv (by simp) k e;omega
   ·rcases zr.1 hu with rfl | hu
    ·have:=h.rows _ (by simp) k e;omega
    ·rcases zr.1 hu with rfl | hu
     ·exact h3 (zs e)
     ·obtain ⟨q,hq,rfl⟩:=z2.1 hu;exact h3 (zv ⟨q,hq,e⟩)
  refine ⟨rfl,nv',mv',xv',E1,F1,⟨r.book,?_,λk hk=>?_,h.bkl,h.low,z0 h.big r.far.size,h.nm⟩,r.lenE,r.lenF,λv2 Q2 h2 hdd=>⟨?_,λq hq=>?_,h2.nd,h2.lt,h2.few,h2.small⟩,?_⟩
  ·intro u hu;simp at hu;rcases hu with rfl | rfl | rfl | rfl
   ·exact hmv r.mn (h.rows nv (by simp))
   ·exact hmv r.mm (h.rows mv (by simp))
   ·exact hmv r.mx (h.rows xv (by simp))
   ·exact h.rows _ (by simp)
  ·rcases r.held k hk with q | q | ⟨u,hu,q⟩ | q
   ·rcases h.held k q with x | x | x
    ·exact zs x
    ·exact zv (zs x)
    ·exact zv (zv (zs x))
   ·exact zv (zv (zv (zs q)))
   ·exact zv (zv (zv (zv ⟨u,hu,q⟩)))
   ·exact zv (zs (z0 h.big q))
  ·exact rM h2.row λk hk=>hfar k (h2.ge (zs hk)) (h2.lt k (zs hk)) (λhb=>hdd k hb (zs hk))
  ·exact rM (h2.atoms q hq) λk hk=>hfar k (h2.ge (zv ⟨q,hq,hk⟩)) (h2.lt k (zv ⟨q,hq,hk⟩)) (λhb=>hdd k hb (zv ⟨q,hq,hk⟩))
  ·have hb2:∀u∈[nv,mv,xv,yv],∀k,u.ownBlock=some k->B<=k:=by
    intro u hu k hk;simp at hu;rcases hu with rfl | rfl | rfl | rfl
    ·exact (aT h.book.base.rn k hk).1
    ·exact (aT h.book.base.rm k hk).1
    ·exact (aT h.book.rx k hk).1
    ·exact (aT h.book.ry k hk).1
   have hbk:=h.book.base.high;refine ⟨r.far.os,r.far.tape,r.far.output,r.far.size,λk hk=>r.far.block k (by omega) (by omega) (λe=>?_) (λe=>?_) (λu hu e=>?_)⟩
   ·have:=hb2 nv (by simp) k e;omega
   ·have:=hb2 mv (by simp) k e;omega
   ·rcases zr.1 hu with rfl | hu
    ·have:=hb2 _ (by simp) k e;omega
    ·have hlow:=h.low;rcases zr.1 hu with rfl | hu
     ·have:=hc.ge (zs e);omega
     ·obtain ⟨q,hq,rfl⟩:=z2.1 hu;have:=hc.ge (zv ⟨q,hq,e⟩);omega
end
end
section
open Go.RowKit Go.Shelf Go.WideMaps
theorem zF{W:World}{a a':Option Addr}{B cap:Nat}{Q:List (Lt×Value)}(h:bE w a c)(hr:W.ownsRow B 39 2 (.slice a' c.length cap) Q.length (bA Q))(hQ:Q.map zw=c)(ha:∀q∈Q,fP W B q.2 q.1.2):bE W a' c:=by
 refine tT (P:=Q) hr hQ (λq hq=>?_) h.few;have hm:q.1∈c:=by rw [<-hQ];exact zi hq
 obtain ⟨k,hk,e⟩:=List.getElem_of_mem hm;obtain ⟨_,_,_,_,_,_,_,hn⟩:=h.cell k hk;rw [e] at hn;obtain ⟨aa,cpp,e2,hx⟩:=rT (ha q hq) hn.few hn.short;exact ⟨aa,cpp,e2,hx⟩
structure zG(w:World)(x:List Lt)(a1:Option Addr)(c1:Nat)(Q:List (Lt×Value))(w':World):Prop where
 same:Q.map zw=x
 row:w'.ownsRow w.heap.size 39 2 (.slice a1 x.length c1) Q.length (bA Q)
 atoms:∀q∈Q,fP w' w.heap.size q.2 q.1.2
 nd:((Q.map Prod.snd).filterMap Value.ownBlock).Nodup
 lits:bE w' a1 x
 low:Below w.heap.size w w'
theorem aR7(a:Option Addr)(cp:Nat)(c:List Lt)(w:World)(h:bE w a c)(hz:qM w a c) :
  Calls zn 12 #[.slice a c.length cp] w λe w'=>∃a1 c1 Q,e=.returned (.slice a1 c.length c1)/\zG w c a1 c1 Q w':=by
 refine (aRx a cp c w h hz).mono ?_;rintro e w' ⟨v,Q,rfl,hQ,hr,ha,hb,hn⟩;obtain ⟨a1,c1,rfl⟩:=aS hr;have hl:Q.length=c.length:=by rw [<-hQ];simp
 have hr':=hr;rw [hl] at hr;exact ⟨a1,c1,Q,by rw [hl],hQ,by rw [<-hl];exact hr',ha,hn,zF h (by rw [<-hl];exact hr') hQ ha,hb⟩
theorem bM.four{N N0 M:Nat}{v:Value}(h:bM N w v out)(h0:N0<=N)(hM:w.heap.size<=M)(hl:out.length<=1000000)(hs:∀x∈out,x.2.length<=1000000):∃Q,Q.map zw=out/\mC N0 M w v Q/\∀k,jG v Q k->N<=k/\k<w.heap.size:=by
 obtain ⟨Q,q1,q2,q3,q4⟩:=h;have hb:∀k,jG v Q k->N<=k/\k<w.heap.size:=by
  rintro k (hk | ⟨q,hq,hk⟩)
  ·exact aT q2 k hk
  ·exact aT (q3 q hq) k hk
 refine ⟨Q,q1,⟨dN q2 h0,λq hq=>dN (q3 q hq) h0,q4,λk hk=>?_,?_,λq hq=>hs q.1 (by rw [<-q1];exact zi hq)⟩,hb⟩
 ·have:=(hb k hk).2;omega
 ·rw [<-q1] at hl;simpa using hl
theorem zG.four{w':World}{x:List Lt}{c1 N0 M:Nat}{Q:List (Lt×Value)}(h:zG w x a1 c1 Q w')(h0:N0<=w.heap.size)(hM:w'.heap.size<=M)(hl:x.length<=1000000)(hs:∀z∈x,z.2.length<=1000000):mC N0 M w' (.slice a1 x.length c1) Q/\∀k,jG (.slice a1 x.length c1) Q k->w.heap.size<=k/\k<w'.heap.size:=by
 have hb:∀k,jG (.slice a1 x.length c1) Q k->w.heap.size<=k/\k<w'.heap.size:=by
  rintro k (hk | ⟨q,hq,hk⟩)
  ·exact aT h.row k hk
  ·exact aT (h.atoms q hq) k hk
 refine ⟨⟨dN h.row h0,λq hq=>dN (h.atoms q hq) h0,h.nd,λk hk=>?_,?_,λq hq=>hs q.1 (by rw [<-h.same];exact zi hq)⟩,hb⟩
 ·have:=(hb k hk).2;omega
 ·have:=congrArg List.length h.same;simp at this;omega
theorem mC.below{N0 M:Nat}{W W':World}{v:Value}{Q:List (Lt×Value)}(h:mC N0 M W v Q)(hb:Below W.heap.size W W'):mC N0 M W' v Q:=
 ⟨aU h.row hb (zy _),λq hq=>aU (h.atoms q hq) hb (zy _),h.nd,h.lt,h.few,h.small⟩
theorem aR8(x:Int)(w:World):Calls zn 16 #[.int .i64 x] w λe w'=>e=.returned (.int .i64 x)/\w'=w:=by go_enter Tryz.func16,Tryz.ntmps16;go_wp2;go_ret;exact ⟨rfl,rfl⟩
theorem eY.small{M0:List Tg}{a b:Nat}{rest:List (Int×Lt)}{yes:Bool}{e:Int}(h:eY M0 a b rest out yes e):aK out<=500:=by
 rcases h with ⟨_,rfl,_⟩ | ⟨_,_,_,_,_,⟨_,rfl,_⟩ | ⟨h,rfl,_⟩⟩
 ·simp [aK]
 ·simp [aK]
 ·exact h
theorem aR9{x:Lt}(h:x∈c):x.2.length<=aK c:=by
 induction c with
 | nil=>simp at h
 | cons y r ih=>
  simp [aK] at ih ⊢;rcases zr.1 h with rfl | h
  ·omega
  ·have:=ih h;omega
def qL(w wx:World):Prop:=∃d,wx=w.drewN d
theorem qL.below{wx:World}(h:qL w wx):Below w.heap.size w wx:=by obtain ⟨d,rfl⟩:=h;exact aI ⟨d,rfl⟩
theorem aC3{wx:World}{a2:Option Addr}{c1 c2:Nat}{l:List Lt}(h1:bE w a1 l)(h2:bE w a2 l)(hx:qL w wx):Calls zn 14 #[.slice a1 l.length c1,.slice a2 l.length c2] wx λe w'=>e=.returned (.bool true)/\qL w w':=by obtain ⟨d,rfl⟩:=hx;refine (aHw a1 a2 c1 c2 l l _ (h1.drewN d) (h2.drewN d)).mono ?_;rintro e w' ⟨rfl,n,rfl⟩;exact ⟨by simp,d+n,by rw [World.drewN_drewN]⟩
structure LrR(w:World)(B bk:Nat)(yv:Value)(E:List (Value×Int))(F:List bZ)(G:List dB)(next:Int)(n:Nat)(w':World)(nv' mv' xv':Value)(E1:List (Value×Int))(F1:List bZ)(next1:Int):Prop where
 book:dM w' B bk nv' mv' xv' yv E1 F1 G next1
 lenE:E1.length<=E.length+4*n
 lenF:F1.length<=F.length+4
 lo:next-n-4<=next1
 low:Below B w w'
section
variable {D1 D2:List (Int×Lt)}{rd:Int×Lt}{R:List Rw}{g:Nat->Nat}
theorem aRa(h:Rows (aJ (D1++rd :: D2)) R g)(h1:∀r∈D1,aW r.2.2 1=true)(h2:∀r∈D2,aW r.2.2 1=true)(hd:aW rd.2.2 1=true) :
  Rows (aO rd.1 rd.2.2++aJ (D1++D2)) R (λp=>g (dG 0 rd.2.2.length (aJ D1).length p)):=by
 have w2:dE ((aO rd.1 rd.2.2).map Prod.snd):=by rw [tA];exact qZ hd
 have e1:aJ (D1++rd :: D2)=[]++aJ D1++aO rd.1 rd.2.2++aJ D2:=by simp [xV,uJ]
 rw [e1] at h;have h3:=h.swap (by intro i n hi;simp at hi) (aKg h1) w2 (aKg h2);have e2 : []++aO rd.1 rd.2.2++aJ D1++aJ D2=aO rd.1 rd.2.2++aJ (D1++D2):=by simp [xV]
 rw [e2] at h3;have l2:(aO rd.1 rd.2.2).length=rd.2.2.length:=by simp [aO]
 simp only [List.length_nil,l2] at h3;exact h3
theorem aRb(h1:∀r∈D1,0<r.2.2.length)(h2:∀r∈D2,0<r.2.2.length) :
  (bN rd.2.2.length (D1++D2)).map (dG 0 rd.2.2.length (aJ D1).length)=bN 0 D1++bN ((aJ D1).length+rd.2.2.length) D2:=by
 rw [aAh,zq];have key:∀(L:List (Int×Lt)) (n m:Nat),(∀r∈L,0<r.2.2.length)->(∀z,z<(aJ L).length->dG 0 rd.2.2.length (aJ D1).length (n+z)=m+z)->(bN n L).map (dG 0 rd.2.2.length (aJ D1).length)=bN m L:=by intro L n m hL hz;rw [vY L n,vY L m,List.map_map];apply List.map_congr_left;intro z hzm;have:=vX L 0 hL z hzm;exact hz z (by omega)
 rw [key D1 _ 0 h1 ?_,key D2 _ ((aJ D1).length+rd.2.2.length) h2 ?_];all_goals
  intro z hz;unfold dG;repeat' split
  all_goals omega
end
theorem aRc{i j:Nat}(hi:i<j)(hj:j<c.length)(hc:∀x∈c,aW x.2 1=true){P:Tb}{g:Nat->Nat}(hR:Rows (aJ (c.map (λl=>((0:Int),l)))) (P.map zw) g)(hok:gS P){S:List Nat}
  (hS:(bN 0 (c.map λl=>((0:Int),l))).map g=S) (h1:i<S.length) (h2:j<S.length)
  {out:List Lt} {yes:Bool} {e:Int} (hm:sU P S[i] S[j] (S.eraseIdx j) ((c.map zw).eraseIdx j) out yes e):eY (aO 0 (c[i]'(z8 hi hj)).2++aO 0 c[j].2) 0 (c[i]'(z8 hi hj)).2.length (bG 0 [(c,j)]) out yes e:=by
 obtain ⟨d1,cj,c3,rfl,rfl⟩:=aKl hj;obtain ⟨c1,ci,c2,rfl,rfl⟩:=aKl hi;have ed:(c1++ci :: c2++cj :: c3)[(c1++ci :: c2).length]=cj:=by simp
 have ec:(c1++ci :: c2++cj :: c3)[c1.length]'(z8 hi hj)=ci:=by simp
 rw [ec,ed];have hrest:bG 0 [(c1++ci :: c2++cj :: c3,(c1++ci :: c2).length)]=c1.map (λl=>((0:Int),l))++((0:Int),ci) :: (c2.map (λl=>((0:Int),l))++c3.map (λl=>((0:Int),l))):=by unfold bG bG;simp only;rw [aDr];simp
 rw [hrest];have hcl:∀(L:List Lt),(∀x∈L,aW x.2 1=true)->∀r∈L.map (λl=>((0:Int),l)),aW r.2.2 1=true:=λL hL r hr=>by
  obtain ⟨x,hx,rfl⟩:=z2.1 hr;exact hL x hx
 have q1:=hcl c1 (λx hx=>hc x (by simp [hx]));have q2:=hcl c2 (λx hx=>hc x (by simp [hx]));have q3:=hcl c3 (λx hx=>hc x (by simp [hx]));have qi:=hc ci (by simp);have qj:=hc cj (by simp);have pj:=rI qj;have pi:=rI qi;obtain ⟨C1,e1⟩ : ∃C,c1.map (λl=>((0:Int),l))=C:=⟨_,rfl⟩;obtain ⟨C2,e2⟩ : ∃C,c2.map (λl=>((0:Int),l))=C:=⟨_,rfl⟩;obtain ⟨C3,e3⟩ : ∃C,c3.map (λl=>((0:Int),l))=C:=⟨_,rfl⟩;have l1:C1.length=c1.length:=by rw [<-e1];simp
 have l2:C2.length=c2.length:=by rw [<-e2];simp
 have s1:c1.map zw=C1.map λr=>r.2.1:=by rw [<-e1];simp
 have s2:c2.map zw=C2.map λr=>r.2.1:=by rw [<-e2];simp
 have s3:c3.map zw=C3.map λr=>r.2.1:=by rw [<-e3];simp
 simp only [zq,z7] at hR hS hm;rw [e1] at q1 hR hS;rw [e2] at q2 hR hS;rw [e3] at q3 hR hS;rw [e1,e2,e3];rw [s1,s2,s3] at hm;have qd:∀r∈C1++((0:Int),ci) :: C2,aW r.2.2 1=true:=by
  intro r hr;simp only [z6,zr] at hr;rcases hr with hr | rfl | hr
  ·exact q1 r hr
  ·exact qi
  ·exact q2 r hr
 have ld:(C1++((0:Int),ci) :: C2).length=(c1++ci :: c2).length:=by simp [l1,l2]
 have hR2:=aRa (rd:=((0:Int),cj)) hR qd q3 qj;have hpl:=aRb (rd:=((0:Int),cj)) (λr hr=>rI (qd r hr)) (λr hr=>rI (q3 r hr));have hS0:=hS;rw [aKm,zq,z7] at hS;have k1:(z9 g (bN 0 (C1++((0:Int),ci) :: C2))).length=(c1++ci :: c2).length:=by rw [zu,aAa,ld]
 have t2:S[(c1++ci :: c2).length]=g (0+(aJ (C1++((0:Int),ci) :: C2)).length):=by subst hS;rw [zf (by omega)];simp [k1]
 have t1:S[c1.length]=g (0+(aJ C1).length):=by
  have k2:(z9 g (bN 0 C1)).length=c1.length:=by rw [zu,aAa,l1]
  have hS2:=hS0;rw [List.append_assoc,List.cons_append,aKm,zq,z7] at hS2;subst hS2;rw [zf (by omega)];simp [k2]
 have f2:S.eraseIdx (c1++ci :: c2).length=z9 g (bN 0 (C1++((0:Int),ci) :: C2))++z9 g (bN (0+(aJ (C1++((0:Int),ci) :: C2)).length+cj.2.length) C3):=by rw [<-hS,<-k1];exact aDr _ _ _
 have m2:(((C1.map λr=>r.2.1)++ci.1 :: C2.map λr=>r.2.1)++cj.1 :: C3.map λr=>r.2.1).eraseIdx (c1++ci :: c2).length=((C1.map λr=>r.2.1)++ci.1 :: C2.map λr=>r.2.1)++C3.map λr=>r.2.1:=by have:=aDr ((C1.map λr=>r.2.1)++ci.1 :: C2.map λr=>r.2.1) (C3.map λr=>r.2.1) cj.1;rwa [show ((C1.map λr=>r.2.1)++ci.1 :: C2.map λr=>r.2.1).length=(c1++ci :: c2).length by simp [l1,l2]] at this
 rw [t1,t2,f2,m2] at hm;have lp:(aJ (C1++((0:Int),ci) :: C2)).length=(aJ C1).length+(ci.2.length+(aJ C2).length):=by simp [xV,uJ,aO]
 have hT:(aO 0 cj.2).length=cj.2.length:=by simp [aO]
 have hcon:eY (aO 0 cj.2) ((aO 0 cj.2).length+(aJ C1).length) 0 (C1++((0:Int),ci) :: (C2++C3)) out yes e:=by
  have er:C1++((0:Int),ci) :: (C2++C3)=(C1++((0:Int),ci) :: C2)++C3:=by simp
  rw [er];refine aXj hR2 rfl hok (by rw [zh,xV,zh,lp,hT];omega) (by rw [zh,hT];omega) ?_ ?_
  ·intro r hr;rcases z6.1 hr with hr | hr
   ·exact rI (qd r hr)
   ·exact rI (q3 r hr)
  ·have x1:dG 0 cj.2.length (aJ (C1++((0:Int),ci) :: C2)).length ((aO 0 cj.2).length+(aJ C1).length)=0+(aJ C1).length:=by
    rw [hT,lp];unfold dG;repeat' split
    all_goals omega
   have x2:dG 0 cj.2.length (aJ (C1++((0:Int),ci) :: C2)).length 0=0+(aJ (C1++((0:Int),ci) :: C2)).length:=by
    unfold dG;repeat' split
    all_goals omega
   show sU P (g (dG 0 cj.2.length _ _)) (g (dG 0 cj.2.length _ 0)) _ _ out yes e;rw [x1,x2,hT];have hpl2:=congrArg (z9 g) hpl;rw [List.map_map] at hpl2;rw [show (λp=>g (dG 0 cj.2.length (aJ (C1++((0:Int),ci) :: C2)).length p))=g∘dG 0 cj.2.length (aJ (C1++((0:Int),ci) :: C2)).length from rfl,hpl2];simpa using hm
 exact aY9 (T:=aO 0 cj.2) (r:=((0:Int),ci)) q1 (λr hr=>by
  rcases z6.1 hr with hr | hr
  ·exact q2 r hr
  ·exact q3 r hr) qi hcon
def aC4(w0:World)(c:List Lt)(i j k:Nat)(rv nv av bv:Value)(wr:World):Prop:=
 ∃(S:List Nat) (v:Value) (P:Tb) (g:Nat->Nat) (an bn:Nat),av=.int .i64 (an:Nat)/\bv=.int .i64 (bn:Nat)/\(i<k->S[i]?=some an)/\(j<k->S[j]?=some bn)/\S.length=k/\gX w0 w0.heap.size w0.heap.size ((c.take k).map λl=>((0:Int),l)) S (S.eraseIdx j) (((c.take k).map zw).eraseIdx j) rv nv wr v P g
theorem aRd(a1:Option Addr)(c1:Nat)(c:List Lt)(i j:Int)(w:World)(h1:bE w a1 c) :
  Calls zn 20 #[.slice a1 c.length c1,.int .i64 i,.int .i64 j] w λe w'=>pR (kY c i j) w e w':=by
 have CI1:=aA (aQg a1 c1 c w h1);have H1:=aA h1;clear h1;cases hI:dI c with
 | false=>
  rw [hI] at CI1;have HR:Hid (kY c i j [] false 5):=aA (zs ⟨hI,rfl,rfl,rfl⟩);clear hI;go_enter zl,zp;go_wp2_with (go_at_call 24;refine (aB CI1).mono ?_;rintro e w1 ⟨rfl,hb1⟩;have HB1:=aA hb1;clear hb1);go_returns;exact pR.none HR.out HB1.out
 | true=>
  rw [hI] at CI1;have HI:=aA hI;have HBAD:Hid ((¬∃a b,aAj c i j a b)->kY c i j [] false 6):=aA λhn=>zv ⟨hI,zs ⟨hn,rfl,rfl,rfl⟩⟩
  clear hI;by_cases hi:i<0
  ·have HR:=aA (HBAD.out (λ⟨a,b,p1,p2,p3,p4,_⟩=>by omega));have hd0:decide (i<0)=true:=by simpa using hi
   clear HBAD;go_enter zl,zp;go_upto_region 4 with (go_at_call 24;refine (aB CI1).mono ?_;rintro e w1 ⟨rfl,hb1⟩;have HB1:=aA hb1;clear hb1);go_quiet (fail);go_wp2;go_returns;exact pR.none HR.out (HB1.out.trans ((aI ⟨_,rfl⟩).mono HB1.out.size))
  ·have hd0:decide (i<0)=false:=by simpa using hi
   by_cases hij:j<=i
   ·have HR:=aA (HBAD.out (λ⟨a,b,p1,p2,p3,p4,p5,_⟩=>by omega));have hd1:decide (j<=i)=true:=by simpa using hij
    clear HBAD;go_enter zl,zp;go_upto_region 4 with (go_at_call 24;refine (aB CI1).mono ?_;rintro e w1 ⟨rfl,hb1⟩;have HB1:=aA hb1;clear hb1);go_quiet (fail);go_wp2;go_returns;exact pR.none HR.out (HB1.out.trans ((aI ⟨_,rfl⟩).mono HB1.out.size))
   ·by_cases hj:(c.length:Int)<=j
    ·have HR:=aA (HBAD.out (λ⟨a,b,p1,p2,p3,p4,p5,_⟩=>by omega));have hd1:decide (j<=i)=false:=by simpa using hij
     have hd2:decide ((c.length:Int)<=j)=true:=by simpa using hj
     clear HBAD;go_enter zl,zp;go_upto_region 4 with (go_at_call 24;refine (aB CI1).mono ?_;rintro e w1 ⟨rfl,hb1⟩;have HB1:=aA hb1;clear hb1);go_quiet (fail);go_wp2;go_returns;exact pR.none HR.out (HB1.out.trans ((aI ⟨_,rfl⟩).mono HB1.out.size))
    ·obtain ⟨a,rfl⟩ : ∃a:Nat,i=a:=⟨i.toNat,by omega⟩;obtain ⟨b,rfl⟩ : ∃b:Nat,j=b:=⟨j.toNat,by omega⟩;have hab:a<b:=by omega
     have hb:b<c.length:=by omega
     have ha:a<c.length:=by omega
     have hai:(a:Int)<(c.length:Int):=by omega
     have hbi:(b:Int)<(c.length:Int):=by omega
     have haz:(0:Int)<=(a:Int):=by omega
     have hbz:(0:Int)<=(b:Int):=by omega
     have hd1:decide (b<=a)=false:=by simp;omega
     have hd3:decide (c.length<=b)=false:=by simp;omega
     obtain ⟨b1,o1,aa,ac,rfl,e1,_,_⟩:=H1.out.cell a ha;obtain ⟨b2,o2,ba,bc,hh,f1,_,_⟩:=H1.out.cell b hb;simp at hh;obtain ⟨rfl,rfl⟩:=hh;by_cases hs:c[a].1=c[b].1
     ·have HSGN:=aA hs;rw [hs] at e1;obtain ⟨db,hdb⟩ : ∃x,c[b].1=x:=⟨_,rfl⟩;rw [hdb] at e1 f1;clear HBAD hi hj hij hdb hs;go_enter zl,zp;go_upto_region 4 with (go_at_call 24;refine (aB CI1).mono ?_;rintro e w2 ⟨rfl,hb1⟩;have HB2:=aA hb1;clear hb1);have e2:=Below.at' HB2.out (zy _) e1;have f2:=Below.at' HB2.out (zy _) f1;go_quiet (fail);have hd:Below w.heap.size w (w2.drewN nq):=HB2.out.trans ((aI (w1:=w2.drewN nq) ⟨nq,rfl⟩).mono HB2.out.size);generalize w2.drewN nq=w0 at *;have HD:=aA hd;have hz0:=hd.size;clear e1 f1 e2 f2 hd CI1 HB2;have nc:=pD HI.out;have HNC:=aA nc;have hc8:=nc.len;have HTC:Hid (∀k r,r∈(c.take k).map (λl=>((0:Int),l))->aW r.2.2 1=true/\r.2.2.length<=60):=aA λk r hr=>by
       obtain ⟨x,hx,rfl⟩:=z2.1 hr;exact nc.term x (List.mem_of_mem_take hx)
      obtain ⟨iI,hI,hI0,hI1,hI2⟩:=info_parts aJ7;clear nc;go_wp2;go_loopw [11,12,13,14,15] (λrv nv av bv iv wr=>∃k:Nat,iv=.int .i64 k/\k<=c.length/\aC4 w0 c a b k rv nv av bv wr) (λ_ _ _ _ iv _=>c.length-(intOf iv).toNat);case atStart=>exact ⟨0,rfl,Nat.zero_le _,[],_,_,_,0,0,rfl,rfl,λh=>absurd h (Nat.not_lt_zero _),λh=>absurd h (Nat.not_lt_zero _),rfl,gX.start w0⟩
      case round=>
       obtain ⟨k,rfl,hk,S,v,P,g,an,bn,rfl,rfl,han,hbn,hSl,hp⟩:=hrel;by_cases hlt:k<c.length
       ·obtain ⟨b1',o1',aa',ac',hb1',hput⟩:=aXu H1.out HD.out HNC.out 0 (by omega) hlt;simp at hb1';obtain ⟨rfl,rfl⟩:=hb1';have hPl:P.length<=1000:=hp.few (λr hr=>(HTC.out k r hr).2) (by rw [zu,zd];omega);obtain ⟨e1,e2,e3,CT⟩:=hput wr v P hp.low hp.tab (by omega) hp.big;have hki:(k:Int)<(c.length:Int):=by omega
        obtain ⟨ra,rcap,rfl⟩:=hp.orv.shape;obtain ⟨na,ncap,rfl⟩:=aS hp.onv;have hrl:(S.eraseIdx b).length<=16:=by have:=zc S b;omega
        have hnl:(((c.take k).map zw).eraseIdx b).length<=16:=by have:=zc ((c.take k).map zw) b;rw [zu,zd] at this;omega
        have HPT:=aA (λ(kx:Nat) (v':Value) (P':Tb) (s':List Nd) (w':World) (hr:pJ wr w0.heap.size w0.heap.size v P 0 c[k].2 kx s' w' v' P')=>gX.putT (L0:=[]) (o:=0) (up:=0) (c:=c) (k:=k) hp hlt rfl HNC.out hr);simp only [List.nil_append] at HPT;have HCT:=aA CT;have HE3:=aA e3;have htk:(c.take (k+1)).map zw=(c.take k).map zw++[c[k].1]:=by rw [List.take_succ_eq_append_getElem hlt,zq];rfl
        have HTK:=aA htk;have HSL:=aA hSl;obtain ⟨cs,hcs⟩ : ∃x,c[k].1=x:=⟨_,rfl⟩;rw [hcs] at e1 HE3 HTK;have hlk:((c.take k).map zw).length=k:=by rw [zu,zd];omega
        have HLK:=aA hlk;have HGET:Hid (∀(m:Nat) (x kx:Nat),m≠k->(m<k->S[m]?=some x)->m<k+1->(S++[kx])[m]?=some x):=aA λm x kx hm hx hm2=>by
         have h1:=hx (by omega);have h2:=HSL.out;rw [List.getElem?_append_left (by omega)];exact h1
        by_cases hkb:k=b
        ·subst hkb;have hne:((k:Int) == (a:Int))=false:=by simp;omega
         have HGO:=aA (λ(kx:Nat) (v':Value) (P':Tb) (s':List Nd) (w':World) (hr:pJ wr w0.heap.size w0.heap.size v P 0 c[k].2 kx s' w' v' P')=>(show aC4 w0 c a k (k+1) _ _ (.int .i64 (an:Nat)) (.int .i64 (kx:Nat)) w' from by
          obtain ⟨g',h'⟩:=HPT.out kx v' P' s' w' hr;refine ⟨S++[kx],v',P',g',an,kx,rfl,rfl,HGET.out a an kx (by omega) han,λ_=>?_,by simp;exact HSL.out,?_⟩
          ·have:=HSL.out;simp [<-this]
          ·rw [HTK.out,aKo HSL.out.symm,aKo HLK.out.symm];exact h'))
         clear CT e3 htk hSl hcs hlk han hbn hp hput HPT hPl;generalize (S.eraseIdx k).length=rl at *;generalize (((c.take k).map zw).eraseIdx k).length=nl at *;go_wp2_with (first
          | (go_at_call 25;refine (aB HCT).mono ?_;rintro e w3 ⟨kx,i3,v3,P3,s3,rfl,hr3⟩;have G:=aA (HGO.out kx v3 P3 s3 w3 hr3);clear hr3)
          | go_in)
         exact ⟨⟨k+1,by go_num,by omega,G.out⟩,by simp [intOf];omega⟩
        ·obtain ⟨rsk,hrsk⟩ : ∃x,S.eraseIdx b=x:=⟨_,rfl⟩;obtain ⟨nsk,hnsk⟩ : ∃x,((c.take k).map zw).eraseIdx b=x:=⟨_,rfl⟩;have HFIN:=aA (λ(kx an':Nat) (v':Value) (P':Tb) (g':Nat->Nat) (rv' nv':Value) (w':World) (ha':a<k+1->(S++[kx])[a]?=some an') (h':gX w0 w0.heap.size w0.heap.size ((c.take (k+1)).map λl=>((0:Int),l)) (S++[kx]) (rsk++[kx]) (nsk++[cs]) rv' nv' w' v' P' g')=>(show aC4 w0 c a b (k+1) rv' nv' (.int .i64 (an':Nat)) (.int .i64 (bn:Nat)) w' from by
          refine ⟨S++[kx],v',P',g',an',bn,rfl,rfl,ha',HGET.out b bn kx (by omega) hbn,by simp;exact HSL.out,?_⟩;rw [HTK.out,aKn (by rw [HSL.out];omega),aKn (by rw [HLK.out];omega),hrsk,hnsk];exact h'))
         have hne:((k:Int) == (b:Int))=false:=by simp;omega
         rw [hrsk,hnsk] at HPT;rw [hrsk] at hrl;rw [hnsk] at hnl;rw [hrsk,hnsk];by_cases hka:k=a
         ·subst hka;have HAN:Hid (∀kx:Nat,k<k+1->(S++[kx])[k]?=some kx):=aA λkx _=>by
           have:=HSL.out;simp [<-this]
          clear CT e3 htk hSl hcs hlk han hbn hp hput hPl hkb hrsk hnsk HGET;go_wp2_with (first
           | (at_builtin;refine aCq rfl (.tmp 74) (.tmp 76) rfl w0.heap.size _ _ _ rfl (HP3.out.orv.alloc _) (by omega) (by simp;omega) w3.heap.size 1 (kx:Nat) rfl (by simp) ?_;intro rv4 w4 ho4 hg4 hm4;have h4:=HP3.out.row ho4 hg4 hm4;have d4:=HE3.out w4 h4.low;have hz4:=h4.big;obtain ⟨ra4,rc4,rfl⟩:=aS ho4;have HP4:=aA h4;clear ho4 hg4 hm4 h4)
           | (at_builtin;refine wpList_append_own _ rfl (.tmp 78) (.tmp 84) 64 rfl w0.heap.size 4 iI (.bool false) 1 1 yz hI hI0 hI1 hI2 rfl (by decide) _ _ _ rfl (HP4.out.onv.alloc _) ⟨w4.heap.size,0,none⟩ 1 1 [.bool cs] rfl rfl (rV w4 _ _ _ rfl) (by intro u hu;simp at hu;subst hu;rfl) (by unfold maxLen;omega) (by omega) (by simp;omega) ?_;intro nv5 w5 ho5 hg5 _;have G:=aA (HFIN.out kx kx _ _ _ _ _ w5 (HAN.out kx) (HP4.out.sign ho5 hg5));clear ho5 hg5)
           | (go_at_call 25;refine (aB HCT).mono ?_;rintro e w3 ⟨kx,i3,v3,P3,s3,rfl,hr3⟩;obtain ⟨g3,h3⟩:=HPT.out kx v3 P3 s3 w3 hr3;have d3:=HE3.out w3 h3.low;have hz3:=h3.big;have HP3:=aA h3;clear hr3 h3)
           | go_in)
          exact ⟨⟨k+1,by go_num,by omega,G.out⟩,by simp [intOf];omega⟩
         ·have hne2:((k:Int) == (a:Int))=false:=by simp;omega
          have HAN:Hid (∀kx:Nat,a<k+1->(S++[kx])[a]?=some an):=aA λkx=>HGET.out a an kx (by omega) han
          clear CT e3 htk hSl hcs hlk han hbn hp hput hPl hkb hka hrsk hnsk HGET;go_wp2_with (first
           | (at_builtin;refine aCq rfl (.tmp 74) (.tmp 76) rfl w0.heap.size _ _ _ rfl (HP3.out.orv.alloc _) (by omega) (by simp;omega) w3.heap.size 1 (kx:Nat) rfl (by simp) ?_;intro rv4 w4 ho4 hg4 hm4;have h4:=HP3.out.row ho4 hg4 hm4;have d4:=HE3.out w4 h4.low;have hz4:=h4.big;obtain ⟨ra4,rc4,rfl⟩:=aS ho4;have HP4:=aA h4;clear ho4 hg4 hm4 h4)
           | (at_builtin;refine wpList_append_own _ rfl (.tmp 78) (.tmp 84) 64 rfl w0.heap.size 4 iI (.bool false) 1 1 yz hI hI0 hI1 hI2 rfl (by decide) _ _ _ rfl (HP4.out.onv.alloc _) ⟨w4.heap.size,0,none⟩ 1 1 [.bool cs] rfl rfl (rV w4 _ _ _ rfl) (by intro u hu;simp at hu;subst hu;rfl) (by unfold maxLen;omega) (by omega) (by simp;omega) ?_;intro nv5 w5 ho5 hg5 _;have G:=aA (HFIN.out kx an _ _ _ _ _ w5 (HAN.out kx) (HP4.out.sign ho5 hg5));clear ho5 hg5)
           | (go_at_call 25;refine (aB HCT).mono ?_;rintro e w3 ⟨kx,i3,v3,P3,s3,rfl,hr3⟩;obtain ⟨g3,h3⟩:=HPT.out kx v3 P3 s3 w3 hr3;have d3:=HE3.out w3 h3.low;have hz3:=h3.big;have HP3:=aA h3;clear hr3 h3)
           | go_in)
          exact ⟨⟨k+1,by go_num,by omega,G.out⟩,by simp [intOf];omega⟩
       ·obtain rfl:k=c.length:=by omega
        have hp0:=hp;rw [zb] at hp0;have htm:∀r∈c.map λl=>((0:Int),l),aW r.2.2 1=true/\r.2.2.length<=60:=λr hr=>HTC.out c.length r (by rw [zb];exact hr)
        have hfew:=aXv (λr hr=>(htm r hr).2);rw [zu] at hfew;have hF:=hp0.facts (λr hr=>(htm r hr).1) (by omega);have ha1:a<S.length:=by omega
        have hb2:b<S.length:=by omega
        have hae:S[a]=an:=by have:=han ha;rw [ze ha1] at this;simpa using this
        have hbe:S[b]=bn:=by have:=hbn hb;rw [ze hb2] at this;simpa using this
        have hanl:an<P.length:=hF.lt an (by rw [<-hae];exact yy _);have hbnl:bn<P.length:=hF.lt bn (by rw [<-hbe];exact yy _);have hl1:(S.eraseIdx b).length=c.length-1:=by rw [zg hb2];omega
        have hl2:((c.map zw).eraseIdx b).length=c.length-1:=by rw [zg (by simpa using hb)];simp
        have CM:=aA (aXn w0.heap.size w0.heap.size v P an bn _ _ _ _ wr hp0.tab hF.ok hF.few hF.pts hF.short hanl hbnl hp0.orv hp0.onv (by rw [hl1,hl2]) (by omega) (λr hr=>hF.lt r (List.mem_of_mem_eraseIdx hr)) hp0.big);have HFIN:Hid (∀e w',aDn P an bn (S.eraseIdx b) ((c.map zw).eraseIdx b) w0.heap.size wr e w'->pR (kY c a b) w e w'):=aA λe w' ⟨oa,oc,out,yes,er,h1,h2,h3,h4,h5⟩=>by
         refine ⟨oa,oc,out,yes,er,h1,zv ⟨HI.out,zv ⟨a,b,⟨ha,hb,rfl,rfl,hab,HSGN.out⟩,?_⟩⟩,h3,h4,HD.out.trans (((hp0.low.trans h5)).mono hz0)⟩;have:=aRc hab hb (λx hx=>(HNC.out.term x hx).1) hp0.rows hF.ok hp0.sts ha1 hb2 (by rw [hae,hbe];exact h2);simpa [ha,hb] using this
        obtain ⟨ra,rcap,rfl⟩:=hp.orv.shape;obtain ⟨na,ncap,rfl⟩:=aS hp.onv;rw [zb] at CM ⊢;clear hp hp0 hF hfew htm han hbn hSl hae hbe hl1 hl2 hanl hbnl;generalize (S.eraseIdx b).length=rl at *;generalize ((c.map zw).eraseIdx b).length=nl at *;go_wp2_with (first
         | (go_at_call 26;refine (aB CM).mono ?_)
         | go_in)
        intro e w4 hq;have hq2:=HFIN.out e w4 hq;obtain ⟨oa,oc,out,yes,er,rfl,h2,h3,h4,h5⟩:=hq2;have HF:Hid (pR (kY c a b) w (.returned (.tuple #[.slice oa out.length oc,.bool yes,.int .i64 er])) w4):=aA ⟨oa,oc,out,yes,er,rfl,h2,h3,h4,h5⟩;clear hq h2 h3 h4 h5 CM HFIN;generalize out.length=ol at *;go_wp2;go_returns;exact HF.out
     ·have HR:=aA (HBAD.out (λ⟨a',b',p1,p2,p3,p4,p5,p6⟩=>by
       obtain rfl:a=a':=by omega
       obtain rfl:b=b':=by omega
       exact hs p6))
      obtain ⟨ca,hca⟩ : ∃x,c[a].1=x:=⟨_,rfl⟩;obtain ⟨db,hdb⟩ : ∃x,c[b].1=x:=⟨_,rfl⟩;rw [hca] at e1;rw [hdb] at f1;rw [hca,hdb] at hs;clear HBAD hi hj hij hca hdb;cases ca <;> cases db <;> first | exact absurd rfl hs | clear hs
      all_goals
       go_enter zl,zp;go_upto_region 4 with (go_at_call 24;refine (aB CI1).mono ?_;rintro e w1 ⟨rfl,hb1⟩;have HB1:=aA hb1;clear hb1);have e2:=Below.at' HB1.out (zy _) e1;have f2:=Below.at' HB1.out (zy _) f1;go_quiet (fail);go_wp2;go_returns;exact pR.none HR.out (HB1.out.trans ((aI ⟨_,rfl⟩).mono HB1.out.size))
theorem aRe(a1:Option Addr)(c1:Nat)(c:List Lt)(i j:Int)(w:World)(h1:bE w a1 c)(hT:jF w) :
  Calls zn 29 #[.slice a1 c.length c1,.int .i64 i,.int .i64 j] w λe w'=>jL (kY c i j) w e w':=by
 have CI1:=aA (aDp a1 c1 c w h1 hT);have H1:=aA h1;clear h1 hT;cases i1:dI c with
 | false=>
  have HR:Hid (kY c i j [] false 5):=aA (zs ⟨i1,rfl,rfl,rfl⟩);rw [i1] at CI1;clear i1;go_enter zk,zo;go_wp2_with (go_at_call 35;refine (aB CI1).mono ?_;rintro e w1 ⟨rfl,hb1⟩;have HB1:=aA hb1;clear hb1);go_returns;exact jL.none HR.out HB1.out
 | true=>
  rw [i1] at CI1;have HI:=aA i1;have P1:=aA (λwx=>aAk a1 c.length c1 i wx);have P2:=aA (λwx=>aAk a1 c.length c1 j wx);have HBAD:Hid ((¬∃a b,aAj c i j a b)->kY c i j [] false 6):=aA λhn=>zv ⟨i1,zs ⟨hn,rfl,rfl,rfl⟩⟩
  clear i1;by_cases hi:0<=i/\i<c.length
  ·rw [decide_eq_true hi] at P1;by_cases hj:0<=j/\j<c.length
   ·rw [decide_eq_true hj] at P2;by_cases hij:i<j
    ·obtain ⟨a,rfl⟩ : ∃a:Nat,i=a:=⟨i.toNat,by omega⟩;have ha:a<c.length:=by omega
     obtain ⟨b,rfl⟩ : ∃b:Nat,j=b:=⟨j.toNat,by omega⟩;have hb:b<c.length:=by omega
     have hai:(a:Int)<(c.length:Int):=by omega
     have hbi:(b:Int)<(c.length:Int):=by omega
     have haz:(0:Int)<=(a:Int):=by omega
     have hbz:(0:Int)<=(b:Int):=by omega
     have hge:decide (b<=a)=false:=by simp;omega
     obtain ⟨b1,o1,aa,ac,rfl,e1,_,_⟩:=H1.out.cell a ha;obtain ⟨b2,o2,ba,bc,hh,f1,_,_⟩:=H1.out.cell b hb;simp at hh;obtain ⟨rfl,rfl⟩:=hh;by_cases hs:c[a].1=c[b].1
     ·have hcc:=pD HI.out;have CR:=aA (λ(wx:World) (hx:Below w.heap.size w wx)=>aKa (some ⟨b1,o1,none⟩) c1 c a b wx (H1.out.below hx (zy _)) hcc.term ha hb hcc.len);have HR:Hid (∀v yes er w3 w4,Below w.heap.size w w3->vR w3 w3.heap.size (aO 0 c[a].2++aO 0 c[b].2) 0 c[a].2.length (bG 0 [(c,b)]) v yes er w4->jL (kY c a b) w (.returned (.tuple #[v,.bool yes,.int .i64 er])) w4):=aA λv yes er w3 w4 hx hC=>by
       obtain ⟨out,h1,h2,h3⟩:=(hC.lift hx).out;exact ⟨v,out,yes,er,rfl,zv ⟨HI.out,zv ⟨a,b,⟨ha,hb,rfl,rfl,by omega,hs⟩,by simpa [ha,hb] using h1⟩⟩,h2,h3,(hC.lift hx).low⟩
      rw [hs] at e1;obtain ⟨db,hdb⟩ : ∃x,c[b].1=x:=⟨_,rfl⟩;rw [hdb] at e1 f1;clear HBAD hi hj hcc hs hdb;go_enter zk,zo;go_upto_region 3 with (go_at_call 35;refine (aB CI1).mono ?_;rintro e w1 ⟨rfl,hb1⟩;have HB1:=aA hb1;have hb1s:=hb1.size;clear hb1);have e2:=Below.at' HB1.out (zy _) e1;have f2:=Below.at' HB1.out (zy _) f1;go_quiet (first | (go_at_call_of 36 (zm zt (a:Int));exact zz (aB P1 _)) | (go_at_call_of 36 (zm zt (b:Int));exact zz (aB P2 _)));have hd:Below w.heap.size w (w1.drewN nq):=HB1.out.trans ((aI (w1:=w1.drewN nq) ⟨nq,rfl⟩).mono HB1.out.size);have CR2:=aA (CR.out _ hd);have HD:=aA hd;clear e1 f1 e2 f2 hd;go_wp2_with (first
       | (go_at_call 47;refine (aB CR2).mono ?_)
       | go_in)
      rintro e w4 ⟨v4,y4,r4,rfl,h4⟩;have H4:=aA (HR.out v4 y4 r4 _ w4 HD.out h4);clear h4;go_wp2;go_returns;exact H4.out
     ·have HR:=aA (HBAD.out (λ⟨a',b',p1,p2,p3,p4,_,p5⟩=>by
       obtain rfl:a=a':=by omega
       obtain rfl:b=b':=by omega
       exact hs p5))
      obtain ⟨ca,hca⟩ : ∃x,c[a].1=x:=⟨_,rfl⟩;obtain ⟨db,hdb⟩ : ∃x,c[b].1=x:=⟨_,rfl⟩;rw [hca] at e1;rw [hdb] at f1;rw [hca,hdb] at hs;clear HBAD hi hj hca hdb;cases ca <;> cases db <;> first | exact absurd rfl hs | clear hs
      all_goals
       go_enter zk,zo;go_upto_region 3 with (go_at_call 35;refine (aB CI1).mono ?_;rintro e w1 ⟨rfl,hb1⟩;have HB1:=aA hb1;have hb1s:=hb1.size;clear hb1);have e2:=Below.at' HB1.out (zy _) e1;have f2:=Below.at' HB1.out (zy _) f1;go_quiet (first | (go_at_call_of 36 (zm zt (a:Int));exact zz (aB P1 _)) | (go_at_call_of 36 (zm zt (b:Int));exact zz (aB P2 _)));go_wp2;go_returns;exact jL.none HR.out (HB1.out.trans ((aI ⟨_,rfl⟩).mono HB1.out.size))
    ·have HR:=aA (HBAD.out (λ⟨a',b',p1,p2,p3,p4,p5,_⟩=>by omega));have hge:decide (j<=i)=true:=by simp;omega
     have hge2:j<=i:=by omega
     clear HBAD hi hj;go_enter zk,zo;go_upto_region 3 with (go_at_call 35;refine (aB CI1).mono ?_;rintro e w1 ⟨rfl,hb1⟩;have HB1:=aA hb1;have hb1s:=hb1.size;clear hb1);go_quiet (first | (go_at_call_of 36 (zm zt i);exact zz (aB P1 _)) | (go_at_call_of 36 (zm zt j);exact zz (aB P2 _)));go_wp2;go_returns;exact jL.none HR.out (HB1.out.trans ((aI ⟨_,rfl⟩).mono HB1.out.size))
   ·rw [decide_eq_false hj] at P2;have HR:=aA (HBAD.out (λ⟨a',b',p1,p2,p3,p4,_⟩=>hj (by omega)));clear HBAD hi hj;go_enter zk,zo;go_upto_region 3 with (go_at_call 35;refine (aB CI1).mono ?_;rintro e w1 ⟨rfl,hb1⟩;have HB1:=aA hb1;have hb1s:=hb1.size;clear hb1);go_quiet (first | (go_at_call_of 36 (zm zt i);exact zz (aB P1 _)) | (go_at_call_of 36 (zm zt j);exact zz (aB P2 _)));go_wp2;go_returns;exact jL.none HR.out (HB1.out.trans ((aI ⟨_,rfl⟩).mono HB1.out.size))
  ·rw [decide_eq_false hi] at P1;have HR:=aA (HBAD.out (λ⟨a,b,p1,p2,p3,p4,_⟩=>hi (by omega)));clear HBAD hi;go_enter zk,zo;go_upto_region 3 with (go_at_call 35;refine (aB CI1).mono ?_;rintro e w1 ⟨rfl,hb1⟩;have HB1:=aA hb1;have hb1s:=hb1.size;clear hb1);go_quiet ((go_at_call 36;exact zz (aB P1 _)));go_wp2;go_returns;exact jL.none HR.out (HB1.out.trans ((aI ⟨_,rfl⟩).mono HB1.out.size))
theorem aRf(a1:Option Addr)(c1:Nat)(c:List Lt)(i j:Int)(w:World)(h1:bE w a1 c)(hT:jF w) :
  Calls zn 19 #[.slice a1 c.length c1,.int .i64 i,.int .i64 j] w λe w'=>jL (kY c i j) w e w':=by
 have C:=aA (aRe a1 c1 c i j w h1 hT);clear h1 hT;go_enter Tryz.func19,Tryz.ntmps19;go_wp2_with (first
  | (go_at_call 29;refine (aB C).mono ?_;rintro e w1 ⟨v,out,yes,er,rfl,h1,h2,h3,h4⟩;have H1:=aA h1;have H2:=aA h2;have H3:=aA h3;have H4:=aA h4;clear h1 h2 h3 h4)
  | go_in)
 go_returns;exact ⟨_,out,yes,er,rfl,H1.out,H2.out,H3.out,H4.out⟩
structure aC5(w w5:World)(vl vk v1:Value)(Ql Qk Q1:List (Lt×Value)):Prop where
 l:mC w.heap.size w5.heap.size w5 vl Ql
 k:mC w.heap.size w5.heap.size w5 vk Qk
 one:mC w.heap.size w5.heap.size w5 v1 Q1
 lk:∀b,jG vl Ql b->¬jG vk Qk b
 l1:∀b,jG vl Ql b->¬jG v1 Q1 b
 k1:∀b,jG vk Qk b->¬jG v1 Q1 b
theorem aC5.of{w1 w3 w4 w5:World}{x:List Lt}{c1:Nat}{vl vk:Value}{Q1:List (Lt×Value)}(h1:zG w x a1 c1 Q1 w1)(hl:bM w1.heap.size w3 vl out)(hk:bM w3.heap.size w4 vk out)(b3:Below w1.heap.size w1 w3)(b4:Below w3.heap.size w3 w4)(b5:Below w4.heap.size w4 w5)
  (sx:x.length<=1000000) (ax:∀z∈x,z.2.length<=1000000) (so:out.length<=1000000) (ao:∀z∈out,z.2.length<=1000000):∃Ql Qk,Ql.map zw=out/\Qk.map zw=out/\aC5 w w5 vl vk (.slice a1 x.length c1) Ql Qk Q1:=by
 have z1:=h1.low.size;have z3:=b3.size;have z4:=b4.size;have z5:=b5.size;obtain ⟨Ql,el,fl,bl⟩:=hl.four (N0:=w.heap.size) (M:=w5.heap.size) (by omega) (by omega) so ao;obtain ⟨Qk,ek,fk,bk⟩:=hk.four (N0:=w.heap.size) (M:=w5.heap.size) (by omega) (by omega) so ao;obtain ⟨f1,g1⟩:=h1.four (N0:=w.heap.size) (M:=w5.heap.size) (zy _) (by omega) sx ax;refine ⟨Ql,Qk,el,ek,(fl.below b4).below b5,fk.below b5,((f1.below b3).below b4).below b5,?_,?_,?_⟩;all_goals
  intro b hb hb'
 ·have:=bl b hb;have:=bk b hb';omega
 ·have:=bl b hb;have:=g1 b hb';omega
 ·have:=bk b hb;have:=g1 b hb';omega
theorem kY.small{i j:Int}{yes:Bool}{e:Int}(h:kY c i j out yes e):aK out<=500:=by
 rcases h with ⟨_,rfl,_⟩ | ⟨_,⟨_,rfl,_⟩ | ⟨_,_,_,h⟩⟩
 ·simp [aK]
 ·simp [aK]
 ·exact h.small
theorem aHa(B bk:Nat)(nv mv xv yv:Value)(E:List (Value×Int))(F:List bZ)(G:List dB)(next:Int)(ax:Option Addr)(cx:Nat)(x:List Lt)(i j:Int)(w:World)(h:dM w B bk nv mv xv yv E F G next)(hx:bE w ax x)(zx:qM w ax x)(hT:jF w)(sx:x.length<=1000000)(qx:∀z∈x,z.2.length<=1000000)(hE:E.length<=6000000000)(hF1:F.length<800000000)(hnx : -6000000000<=next) :
  Calls zn 8 #[.pointer (some ⟨bk,0,none⟩),.slice ax x.length cx,.int .i64 i,.int .i64 j] w λe w'=>e=.returned (.bool true)/\∃nv' mv' xv' E1 F1 next1,LrR w B bk yv E F G next (x.length+200) w' nv' mv' xv' E1 F1 next1:=by
 have C1:=aA (aR7 ax cx x w hx zx);have CR:=aA (λ(w2:World) (a1:Option Addr) (c1:Nat) (l1:bE w2 a1 x) (hb:Below w.heap.size w w2)=>aRf a1 c1 x i j w2 l1 (hT.below hb (zy _)));have CD:=aA (λ(w4:World) (hb:Below w.heap.size w w4)=>aRd ax cx x i j w4 (hx.below hb (zy _)));have HH:=aA h;have HX:=aA hx;have QX:=aA qx;clear h hx zx hT qx;go_enter Tryz.func8,Tryz.ntmps8;go_upto_region 5 with (first
  | (go_at_call 20;refine (aB CD w4 HB4.out).mono ?_;rintro e w5 ⟨oa,oc,out5,yes5,er5,rfl,hs5,hl5,-,hb5⟩;obtain ⟨ho5,rfl,rfl⟩:=HS3.out.one hs5;have HL5:=aA hl5;have HO5:=aA ho5;have HB5:=aA hb5;clear hs5 hl5 hb5 ho5)
  | (go_at_call 19;refine (aB CR w3 a1 c1 (HC1.out.lits.below HB3.out (zy _)) HBW3.out).mono ?_;rintro e w4 ⟨vk,out4,yes4,er4,rfl,hs4,hk4,-,hb4⟩;obtain ⟨ho4,rfl,rfl⟩:=HS3.out.one hs4;have HO4:=aA ho4;have HK4:=aA hk4;have HB4:=aA (HBW3.out.trans (hb4.mono HBW3.out.size));have HBB4:=aA hb4;clear hs4 hk4 hb4 ho4)
  | (go_at_call 19;refine (aB CR w1 a1 c1 HC1.out.lits HC1.out.low).mono ?_;rintro e w3 ⟨vl,out,yes,er,rfl,hs3,hk3,ho100,hb3⟩;have HS3:=aA hs3;have HK3:=aA hk3;have HB3:=aA hb3;have HBW3:=aA (HC1.out.low.trans (hb3.mono HC1.out.low.size));clear hs3 hk3 hb3)
  | (go_at_call 12;refine (aB C1).mono ?_;rintro e w1 ⟨a1,c1,Q1,rfl,hc1⟩;have HC1:=aA hc1;clear hc1)
  | go_in)
 have ho4:=HO4.out;have ho5:=HO5.out;subst ho4;subst ho5;have hcnt:=HS3.out.small;have hao:∀z∈out,z.2.length<=1000000:=λz hz=>by have:=aR9 hz;omega
 obtain ⟨Ql,Qk,el,ek,hF⟩:=aC5.of HC1.out HK3.out HK4.out HB3.out HBB4.out HB5.out sx QX.out (by omega) hao;have hbw5:Below w.heap.size w w5:=HB4.out.trans (HB5.out.mono HB4.out.size);have h1l:Q1.length=x.length:=by have:=congrArg List.length HC1.out.same;simpa using this
 have hll:Ql.length=out.length:=by rw [<-el];simp
 have hkl:Qk.length=out.length:=by rw [<-ek];simp
 obtain ⟨la,lc,rfl⟩ : ∃la lc,vl=.slice la out.length lc:=by obtain ⟨la,lc,e⟩:=aS hF.l.row;exact ⟨la,lc,by rw [e,hll]⟩
 obtain ⟨ka,kc,rfl⟩ : ∃ka kc,vk=.slice ka out.length kc:=by obtain ⟨ka,kc,e⟩:=aS hF.k.row;exact ⟨ka,kc,by rw [e,hkl]⟩
 have CS1:=aA (λwx (hw:qL w5 wx)=>aC3 (c1:=lc) (c2:=oc) (zF HL5.out hF.l.row el hF.l.atoms) HL5.out hw);have CS2:=aA (λwx (hw:qL w5 wx)=>aC3 (c1:=kc) (c2:=oc) (zF HL5.out hF.k.row ek hF.k.atoms) HL5.out hw);have CS3:=aA (λwx (hw:qL w5 wx)=>aC3 (c1:=c1) (c2:=cx) (zF HX.out hF.one.row HC1.out.same hF.one.atoms) (HX.out.below hbw5 (zy _)) hw);have hbkl:=HH.out.base.lt;have hbh:=HH.out.base.high;have HT0:Hid (∀wx,qL w5 wx->aC1 B bk w.heap.size w5.heap.size (λ_=>False) nv mv xv yv E F G next wx):=aA λwx hw=>by
  have hb9:=hbw5.trans (hw.below.mono hbw5.size);refine ⟨HH.out.below hb9,λu hu k hk=>zs ?_,λk hk=>zs (HH.out.heldLt k hk),hbkl,by omega,hw.below.size,hbw5.size⟩;simp at hu;rcases hu with rfl | rfl | rfl | rfl
  ·exact (aT HH.out.base.rn k hk).2
  ·exact (aT HH.out.base.rm k hk).2
  ·exact (aT HH.out.rx k hk).2
  ·exact (aT HH.out.ry k hk).2
 have HF:=aA hF;have HBW5:=aA hbw5;have D5:Hid (qL w5 w5):=aA ⟨0,rfl⟩;clear hF hbw5 hao C1 CR CD HC1 HK3 HK4 HB3 HBB4 HB5 HB4 HBW3 HS3 HL5 HX HO4 HO5 el ek hcnt;generalize hol:out.length=ol at *;generalize hxl:x.length=xl at *;have HEQ:=aA (za hol hxl);have HLN:=aA (za h1l (za hll hkl));clear hol hxl h1l hll hkl;go_upto_region 8 with (first
  | (go_at_call_of 14 (zj a1 xl c1);refine (aB CS3 _ D7.out).mono ?_;rintro e w8 ⟨rfl,hd8⟩;have D8:=aA hd8;clear hd8)
  | (go_at_call_of 14 (zj ka ol kc);refine (aB CS2 _ D6.out).mono ?_;rintro e w7 ⟨rfl,hd7⟩;have D7:=aA hd7;clear hd7)
  | (go_at_call_of 14 (zj la ol lc);refine (aB CS1 _ D5.out).mono ?_;rintro e w6 ⟨rfl,hd6⟩;have D6:=aA hd6;clear hd6)
  | go_in)
 obtain ⟨n1,n3,n4⟩:=HLN.out;have q1:=(HF.out.l.below D8.out.below);have q2:=(HF.out.k.below D8.out.below);have q3:=(HF.out.one.below D8.out.below);have HQ:=aA (za q2 q3);have CT1:=aA (aC2 (HT0.out w8 D8.out) q1 (λk h=>h.elim) (by omega) (by omega) (by omega));have HN:=aA (za n1 (za n3 n4));have HB9:=aA (HBW5.out.trans (D8.out.below.mono HBW5.out.size));have hBw:B<=w.heap.size:=by omega
 clear q1 q2 q3 CS1 CS2 CS3 HT0 D5 D6 D7 n1 n3 n4;go_upto_region 11 with (first
  | (go_at_call_of 15 (zj la ol lc);refine (aB CT1).mono ?_;rintro e w10 ⟨rfl,nv1,mv1,xv1,E1,F1,r1⟩;have e1:=r1.lenE;have f1:=r1.lenF;have m1:=HN.out;have k2:=r1.others _ _ HQ.out.1 HF.out.lk;have k3:=r1.others _ _ HQ.out.2 HF.out.l1;have HK:=aA k3;have CT2:=aA (aC2 r1.st k2 (λb hb hc=>by rcases hb with hb | hb;exact hb.elim;exact HF.out.lk b hb hc) (by omega) (by omega) (by omega));have HR1:=aA r1;clear e1 f1 m1 k2 k3 r1)
  | (go_at_call_of 15 (zj ka ol kc);refine (aB CT2).mono ?_;rintro e w11 ⟨rfl,nv2,mv2,xv2,E2,F2,r2⟩;have e1:=HR1.out.lenE;have f1:=HR1.out.lenF;have e2:=r2.lenE;have f2:=r2.lenF;have m1:=HN.out;have k3:=r2.others _ _ HK.out HF.out.k1;have CT3:=aA (aC2 r2.st k3 (λb hb hc=>by rcases hb with (hb | hb) | hb;exact hb.elim;exact HF.out.l1 b hb hc;exact HF.out.k1 b hb hc) (by omega) (by omega) (by omega));have HR2:=aA r2;clear e1 f1 e2 f2 m1 k3 r2)
  | (go_at_call_of 15 (zj a1 xl c1);refine (aB CT3).mono ?_;rintro e w12 ⟨rfl,nv3,mv3,xv3,E3,F3,r3⟩;have HR3:=aA r3;clear r3)
  | go_in)
 have HFIN:Hid (LrR w B bk yv E F G next (xl+200) w12 nv3 mv3 xv3 E3 F3 (next-Ql.length-1-Qk.length-1-Q1.length-1)):=aA (by
  have m1:=HN.out;have e1:=HR1.out.lenE;have f1:=HR1.out.lenF;have e2:=HR2.out.lenE;have f2:=HR2.out.lenF;have e3:=HR3.out.lenE;have f3:=HR3.out.lenF;exact ⟨HR3.out.st.book,by omega,by omega,by omega,(HB9.out.mono hBw).trans (HR1.out.below.trans (HR2.out.below.trans HR3.out.below))⟩)
 clear HR1 HR2 HR3 HK HQ HF CT1 CT2 CT3 HN HLN HB9 HBW5 HH QX D8;go_wp2_with (first
  | (go_at_call 16;refine (aR8 _ _).mono ?_;rintro e wx ⟨rfl,hwx⟩;rw [hwx];clear hwx wx)
  | go_in)
 go_ret;have hfin:=HFIN.out;rw [<-HEQ.out.2] at hfin;exact ⟨rfl,_,_,_,_,_,_,hfin⟩
end
end Go.Proofs.YtcldkjcpofjmhaaGreatDoor
