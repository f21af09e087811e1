import Derived.Test.YtcldkjcpofjmhaaGreatDoorBCl2M
import Derived.Test.YtcldkjcpofjmhaaGreatDoorWCon0M
open And renaming intro→zm
open List renaming length_map→zv,length_eraseIdx_le→zt,length_append→zs,length_eraseIdx_of_lt→zr,length_take→zp,take_length→zo,take_succ_eq_append_getElem→zj,append_assoc→zi,mem_cons→zh,mem_map_of_mem→zg,getElem?_append_left→zf,getElem?_eq_getElem→ze,mem_of_mem_eraseIdx→zd,mem_map→za,map_append→z0,mem_append→z7,mem_append_right→z8,mem_of_mem_take→z9,mem_append_left→yz,getElem_mem→yx,length→yw
open Nat renaming le_refl→zu,le_trans→zb
open Or renaming inr→zq,inl→zk
open Prod renaming fst→zw
namespace Go.Proofs.YtcldkjcpofjmhaaGreatDoor
open _root_.Go.Proofs.Tryz renaming ntmps13→zn,func13→zl,prog→zc,underlying64→yy
open Value renaming slice→zz
set_option maxHeartbeats 8000000
set_option maxRecDepth 100000
section
open Go.RowKit Go.Shelf
def fX(v:Value)(Q:List (Lt×Value))(k:Nat):Prop:=v.ownBlock=some k\/∃q∈Q,q.2.ownBlock=some k
structure lA(N0 M:Nat)(W:World)(v:Value)(Q:List (Lt×Value)):Prop where
 row:W.ownsRow N0 39 2 v Q.length (bA Q)
 atoms:∀q∈Q,fG W N0 q.2 q.1.2
 nd:((Q.map Prod.snd).filterMap Value.ownBlock).Nodup
 lt:∀k,fX v Q k->k<M
 few:Q.length<=1000000
 small:∀q∈Q,q.1.2.length<=1000000
structure aBm(B bk N0 M:Nat)(tk:Nat->Prop)(nv mv xv yv:Value)(E:List (Value×Int))(F:List bY)(G:List cX)(next:Int)(W:World):Prop where
 book:dM W B bk nv mv xv yv E F G next
 rows:∀u∈[nv,mv,xv,yv],∀k,u.ownBlock=some k->k<N0\/M<=k
 held:∀k∈held E F G,k<N0\/M<=k\/tk k
 bkl:bk<N0
 low:B<=N0
 big:M<=W.heap.size
 nm:N0<=M
section
variable {B bk N0 M:Nat}{tk:Nat->Prop}{nv mv xv yv v v2:Value}{E:List (Value×Int)}{F:List bY}{G:List cX}{next:Int}{W:World}{Q Q2:List (Lt×Value)}
theorem lA.ge(h:lA N0 M W v Q){k:Nat}(hk:fX v Q k):N0<=k:=by
 rcases hk with hk | ⟨q,hq,hk⟩
 ·exact (aT h.row k hk).1
 ·exact (aT (h.atoms q hq) k hk).1
structure TkR(B bk N0 M:Nat)(tk:Nat->Prop)(yv v:Value)(E:List (Value×Int))(F:List bY)(G:List cX)(next:Int)(Q:List (Lt×Value))(W W':World)(nv' mv' xv':Value)(E1:List (Value×Int))(F1:List bY):Prop where
 st:aBm B bk N0 M (λk=>tk k\/fX v Q k) nv' mv' xv' yv E1 F1 G (next-Q.length-1) W'
 lenE:E1.length=E.length+4*Q.length
 lenF:F1.length=F.length+1
 others:∀v2 Q2,lA N0 M W v2 Q2->(∀k,fX v Q k->¬fX v2 Q2 k)->lA N0 M W' v2 Q2
 below:Below B W W'
theorem yR(h:aBm B bk N0 M tk nv mv xv yv E F G next W)(hc:lA N0 M W v Q)(hd:∀k,tk k->¬fX v Q k)(hE:E.length<=8000000000)(hF1:F.length<1000000000)(hnx : -8000000000<=next) :
  Calls zc 15 #[.pointer (some ⟨bk,0,none⟩),v] W λe w'=>e=.returned (.tuple #[])/\∃nv' mv' xv' E1 F1,TkR B bk N0 M tk yv v E F G next Q W w' nv' mv' xv' E1 F1:=by
 have hbw:B<=W.heap.size:=zb h.low (zb h.nm h.big);refine (aL9 B bk nv mv xv yv v E F G next Q W h.book (dI hc.row h.low) (λq hq=>dI (hc.atoms q hq) h.low) hc.small hc.few hc.nd (λk hk=>?_) hE hF1 hnx hbw).mono ?_
 ·have key:¬fX v Q k:=λhb=>by
   have h1:=hc.lt k hb;have h2:=hc.ge hb;rcases h.held k hk with h3 | h3 | h3
   ·omega
   ·omega
   ·exact hd k h3 hb
  exact ⟨λe=>key (zk e),λq hq e=>key (zq ⟨q,hq,e⟩)⟩
 ·rintro e w' ⟨rfl,nv',mv',xv',E1,F1,r⟩;have hmv:∀{u u':Value},aX W u u'->(∀k,u.ownBlock=some k->k<N0\/M<=k)->∀k,u'.ownBlock=some k->k<N0\/M<=k:=by
   intro u u' hm hu k hk;rcases hm with e | ⟨g,e,hg⟩
   ·exact hu k (by rw [<-e];exact hk)
   ·rw [e] at hk;cases hk;have:=h.big;exact zq (by omega)
  have hfar:∀k,N0<=k->k<M->¬fX v Q k->w'.heap[k]?=W.heap[k]?:=λk h1 h2 h3=>by
   have hb:=h.bkl;have hg:=h.big;refine r.far.block k (by omega) (by omega) (λe=>?_) (λe=>?_) (λu hu e=>?_)
   ·have:=h.rows nv (by simp) k e;omega
   ·have:=h.rows mv (by simp) k e;omega
   ·rcases zh.1 hu with rfl | hu
    ·have:=h.rows _ (by simp) k e;omega
    ·rcases zh.1 hu with rfl | hu
     ·exact h3 (zk e)
     ·obtain ⟨q,hq,rfl⟩:=za.1 hu;exact h3 (zq ⟨q,hq,e⟩)
  refine ⟨rfl,nv',mv',xv',E1,F1,⟨r.book,?_,λk hk=>?_,h.bkl,h.low,zb h.big r.far.size,h.nm⟩,r.lenE,r.lenF,λv2 Q2 h2 hdd=>⟨?_,λq hq=>?_,h2.nd,h2.lt,h2.few,h2.small⟩,?_⟩
  ·intro u hu;simp at hu;rcases hu with rfl | rfl | rfl | rfl
   ·exact hmv r.mn (h.rows nv (by simp))
   ·exact hmv r.mm (h.rows mv (by simp))
   ·exact hmv r.mx (h.rows xv (by simp))
   ·exact h.rows _ (by simp)
  ·rcases r.held k hk with q | q | ⟨u,hu,q⟩ | q
   ·rcases h.held k q with x | x | x
    ·exact zk x
    ·exact zq (zk x)
    ·exact zq (zq (zk x))
   ·exact zq (zq (zq (zk q)))
   ·exact zq (zq (zq (zq ⟨u,hu,q⟩)))
   ·exact zq (zk (zb h.big q))
  ·exact rC h2.row λk hk=>hfar k (h2.ge (zk hk)) (h2.lt k (zk hk)) (λhb=>hdd k hb (zk hk))
  ·exact rC (h2.atoms q hq) λk hk=>hfar k (h2.ge (zq ⟨q,hq,hk⟩)) (h2.lt k (zq ⟨q,hq,hk⟩)) (λhb=>hdd k hb (zq ⟨q,hq,hk⟩))
  ·have hb2:∀u∈[nv,mv,xv,yv],∀k,u.ownBlock=some k->B<=k:=by
    intro u hu k hk;simp at hu;rcases hu with rfl | rfl | rfl | rfl
    ·exact (aT h.book.base.rn k hk).1
    ·exact (aT h.book.base.rm k hk).1
    ·exact (aT h.book.rx k hk).1
    ·exact (aT h.book.ry k hk).1
   have hbk:=h.book.base.high;refine ⟨r.far.os,r.far.tape,r.far.output,r.far.size,λk hk=>r.far.block k (by omega) (by omega) (λe=>?_) (λe=>?_) (λu hu e=>?_)⟩
   ·have:=hb2 nv (by simp) k e;omega
   ·have:=hb2 mv (by simp) k e;omega
   ·rcases zh.1 hu with rfl | hu
    ·have:=hb2 _ (by simp) k e;omega
    ·have hlow:=h.low;rcases zh.1 hu with rfl | hu
     ·have:=hc.ge (zk e);omega
     ·obtain ⟨q,hq,rfl⟩:=za.1 hu;have:=hc.ge (zq ⟨q,hq,e⟩);omega
end
end
section
open Go.RowKit Go.Shelf Go.WideMaps
def mS(S:List Lt->Bool->Int->Prop)(w:World)(e:Ending)(w':World):Prop:=
 ∃oa oc out yes er,e=.returned (.tuple #[.slice oa out.length oc,.bool yes,.int .i64 er])/\S out yes er/\bD w' oa out/\out.length<=16/\Below w.heap.size w w'
theorem mS.none{S:List Lt->Bool->Int->Prop}{w w':World}{er:Int}(h:S [] false er)(hb:Below w.heap.size w w'):mS S w (.returned (.tuple #[.slice none 0 0,.bool false,.int .i64 er])) w':=
 ⟨Option.none,0,[],false,er,rfl,h,aDg _,by simp,hb⟩
theorem aPe(a1 a2:Option Addr)(c1 c2:Nat)(c d:List Lt)(i j:Int)(w:World)(h1:bD w a1 c)(h2:bD w a2 d) :
  Calls zc 13 #[.slice a1 c.length c1,.int .i64 i,.slice a2 d.length c2,.int .i64 j] w λe w'=>mS (jP c d i j) w e w':=by
 have CI1:=aA (aFw a1 c1 c w h1);have CI2:=aA (λwx (hx:Below w.heap.size w wx)=>aFw a2 c2 d wx (h2.below hx (zu _)));have H1:=aA h1;have H2:=aA h2;clear h1 h2;by_cases hI:dB c=true/\dB d=true
 ·rw [hI.1] at CI1;rw [hI.2] at CI2;have HI:=aA hI;have HBAD:Hid ((¬∃a b,aAd c d i j a b)->jP c d i j [] false 6):=aA λhn=>zq ⟨hI.1,hI.2,zk ⟨hn,rfl,rfl,rfl⟩⟩
  clear hI;by_cases hi:0<=i/\i<c.length
  ·by_cases hj:0<=j/\j<d.length
   ·obtain ⟨a,rfl⟩ : ∃a:Nat,i=a:=⟨i.toNat,by omega⟩;obtain ⟨b,rfl⟩ : ∃b:Nat,j=b:=⟨j.toNat,by omega⟩;have ha:a<c.length:=by omega
    have hb:b<d.length:=by omega
    have hai:(a:Int)<(c.length:Int):=by omega
    have hbi:(b:Int)<(d.length:Int):=by omega
    have haz:(0:Int)<=(a:Int):=by omega
    have hbz:(0:Int)<=(b:Int):=by omega
    have hd0:decide ((a:Int)<0)=false:=by simp
    have hd2:decide ((b:Int)<0)=false:=by simp
    have hd1:decide (c.length<=a)=false:=by simp;omega
    have hd3:decide (d.length<=b)=false:=by simp;omega
    obtain ⟨b1,o1,aa,ac,rfl,e1,_,_⟩:=H1.out.cell a ha;obtain ⟨b2,o2,ba,bc,rfl,f1,_,_⟩:=H2.out.cell b hb;by_cases hs:c[a].1=d[b].1
    ·have HR:=aA (HBAD.out (λ⟨a',b',p1,p2,p3,p4,p5⟩=>by
      obtain rfl:a=a':=by omega
      obtain rfl:b=b':=by omega
      exact p5 hs))
     rw [hs] at e1;clear HBAD hi hj hs;go_enter zl,zn;go_upto_region 5 with (first
      | (go_at_call_of 24 (zz (some ⟨b1,o1,none⟩) c.length c1);refine (aB CI1).mono ?_;rintro e w1 ⟨rfl,hb1⟩;have HB1:=aA hb1;have hb1s:=hb1.size;clear hb1)
      | (go_at_call_of 24 (zz (some ⟨b2,o2,none⟩) d.length c2);refine (aB CI2 _ HB1.out).mono ?_;rintro e w2 ⟨rfl,hb2⟩;have HB2:=aA (HB1.out.trans (hb2.mono hb1s));clear hb2))
     have e2:=Below.at' HB2.out (zu _) e1;have f2:=Below.at' HB2.out (zu _) f1;go_quiet (fail);go_wp2;go_returns;exact mS.none HR.out (HB2.out.trans ((aJ ⟨_,rfl⟩).mono HB2.out.size))
    ·have hne:(c[a].1 == d[b].1)=false:=by simpa using hs
     obtain ⟨ca,hca⟩ : ∃x,c[a].1=x:=⟨_,rfl⟩;obtain ⟨db,hdb⟩ : ∃x,d[b].1=x:=⟨_,rfl⟩;rw [hca] at e1;rw [hdb] at f1;rw [hca,hdb] at hne;have HSGN:=aA hs;clear HBAD hi hj hca hdb hs;go_enter zl,zn;go_upto_region 5 with (first
      | (go_at_call_of 24 (zz (some ⟨b1,o1,none⟩) c.length c1);refine (aB CI1).mono ?_;rintro e w1 ⟨rfl,hb1⟩;have HB1:=aA hb1;have hb1s:=hb1.size;clear hb1)
      | (go_at_call_of 24 (zz (some ⟨b2,o2,none⟩) d.length c2);refine (aB CI2 _ HB1.out).mono ?_;rintro e w2 ⟨rfl,hb2⟩;have HB2:=aA (HB1.out.trans (hb2.mono hb1s));clear hb2))
     have e2:=Below.at' HB2.out (zu _) e1;have f2:=Below.at' HB2.out (zu _) f1;go_quiet (fail);have hd:Below w.heap.size w (w2.drewN nq):=HB2.out.trans ((aJ (w1:=w2.drewN nq) ⟨nq,rfl⟩).mono HB2.out.size);generalize w2.drewN nq=w0 at *;have HD:=aA hd;have hz0:=hd.size;clear e1 f1 e2 f2 hd hne CI1 CI2 HB1 HB2 hb1s;have nc:=oY HI.out.1;have nd:=oY HI.out.2;have HNC:=aA nc;have HND:=aA nd;have hc8:=nc.len;have hd8:=nd.len;have HTC:Hid (∀k r,r∈(c.take k).map (λl=>((0:Int),l))->aW r.2.2 1=true/\r.2.2.length<=60):=aA λk r hr=>by
      obtain ⟨x,hx,rfl⟩:=za.1 hr;exact nc.term x (z9 hx)
     have HTD:Hid (∀k r,r∈(d.take k).map (λl=>((1:Int),l))->aW r.2.2 1=true/\r.2.2.length<=60):=aA λk r hr=>by
      obtain ⟨x,hx,rfl⟩:=za.1 hr;exact nd.term x (z9 hx)
     obtain ⟨iI,hI,hI0,hI1,hI2⟩:=info_parts aIt;clear nc nd;go_wp2;go_loopw [14,15,16,18] (λrv nv av iv wr=>∃k:Nat,iv=.int .i64 k/\k<=c.length/\aDh w0 c a k rv nv av wr) (λ_ _ _ iv _=>c.length-(intOf iv).toNat);case atStart=>exact ⟨0,rfl,Nat.zero_le _,[],_,_,_,0,rfl,λh=>absurd h (Nat.not_lt_zero _),rfl,fS.start w0⟩
     case round=>
      obtain ⟨k,rfl,hk,S,v,P,g,an,rfl,han,hSl,hp⟩:=hrel;by_cases hlt:k<c.length
      ·obtain ⟨b1',o1',aa',ac',hb1',hput⟩:=aK8 H1.out HD.out HNC.out 0 (by omega) hlt;simp at hb1';obtain ⟨rfl,rfl⟩:=hb1';have hPl:P.length<=1000:=hp.few (λr hr=>(HTC.out k r hr).2) (by rw [zv,zp];omega);obtain ⟨e1,e2,e3,CT⟩:=hput wr v P hp.low hp.tab (by omega) hp.big;have hki:(k:Int)<(c.length:Int):=by omega
       obtain ⟨ra,rcap,rfl⟩:=hp.orv.shape;obtain ⟨na,ncap,rfl⟩:=aS hp.onv;have hrl:(S.eraseIdx a).length<=16:=by have:=zt S a;omega
       have hnl:(((c.take k).map zw).eraseIdx a).length<=16:=by have:=zt ((c.take k).map zw) a;rw [zv,zp] at this;omega
       have HPT:=aA (λ(kx:Nat) (v':Value) (P':Tb) (s':List Nd) (w':World) (hr:nB wr w0.heap.size w0.heap.size v P 0 c[k].2 kx s' w' v' P')=>fS.putT (L0:=[]) (o:=0) (up:=0) (c:=c) (k:=k) hp hlt rfl HNC.out hr);simp only [List.nil_append] at HPT;have HCT:=aA CT;have HE3:=aA e3;have htk:(c.take (k+1)).map zw=(c.take k).map zw++[c[k].1]:=by rw [zj hlt,z0];rfl
       have HTK:=aA htk;have HSL:=aA hSl;obtain ⟨cs,hcs⟩ : ∃x,c[k].1=x:=⟨_,rfl⟩;rw [hcs] at e1 HE3 HTK;have hlk:((c.take k).map zw).length=k:=by rw [zv,zp];omega
       have HLK:=aA hlk;by_cases hka:k=a
       ·subst hka;have HGO:=aA (λ(kx:Nat) (v':Value) (P':Tb) (s':List Nd) (w':World) (hr:nB wr w0.heap.size w0.heap.size v P 0 c[k].2 kx s' w' v' P')=>(show aDh w0 c k (k+1) _ _ (.int .i64 (kx:Nat)) w' from by
         obtain ⟨g',h'⟩:=HPT.out kx v' P' s' w' hr;refine ⟨S++[kx],v',P',g',kx,rfl,λ_=>?_,by simp;exact HSL.out,?_⟩
         ·have:=HSL.out;simp [<-this]
         ·rw [HTK.out,aAa HSL.out.symm,aAa HLK.out.symm];exact h'))
        clear CT e3 htk hSl hcs hlk han hp hput HPT hPl;generalize (S.eraseIdx k).length=rl at *;generalize (((c.take k).map zw).eraseIdx k).length=nl at *;go_wp2_with (first
         | (go_at_call 25;refine (aB HCT).mono ?_;rintro e w3 ⟨kx,i3,v3,P3,s3,rfl,hr3⟩;have G:=aA (HGO.out kx v3 P3 s3 w3 hr3);clear hr3)
         | go_in)
        exact ⟨⟨k+1,by go_num,by omega,G.out⟩,by simp [intOf];omega⟩
       ·obtain ⟨rsk,hrsk⟩ : ∃x,S.eraseIdx a=x:=⟨_,rfl⟩;obtain ⟨nsk,hnsk⟩ : ∃x,((c.take k).map zw).eraseIdx a=x:=⟨_,rfl⟩;have HFIN:=aA (λ(kx:Nat) (v':Value) (P':Tb) (g':Nat->Nat) (rv' nv':Value) (w':World) (h':fS w0 w0.heap.size w0.heap.size ((c.take (k+1)).map λl=>((0:Int),l)) (S++[kx]) (rsk++[kx]) (nsk++[cs]) rv' nv' w' v' P' g')=>(show aDh w0 c a (k+1) rv' nv' (.int .i64 (an:Nat)) w' from by
         refine ⟨S++[kx],v',P',g',an,rfl,λhlt2=>?_,by simp;exact HSL.out,?_⟩
         ·have h1:=han (by omega);have h2:=HSL.out;rw [zf (by omega)];exact h1
         ·rw [HTK.out,aA9 (by rw [HSL.out];omega),aA9 (by rw [HLK.out];omega),hrsk,hnsk];exact h'))
        have hne:((k:Int) == (a:Int))=false:=by simp;omega
        rw [hrsk,hnsk] at HPT;rw [hrsk] at hrl;rw [hnsk] at hnl;rw [hrsk,hnsk];clear CT e3 htk hSl hcs hlk han hp hput hPl hka hrsk hnsk;go_wp2_with (first
         | (at_builtin;refine aCd rfl (.tmp 87) (.tmp 89) rfl w0.heap.size _ _ _ rfl (HP3.out.orv.alloc _) (by omega) (by simp;omega) w3.heap.size 1 (kx:Nat) rfl (by simp) ?_;intro rv4 w4 ho4 hg4 hm4;have h4:=HP3.out.row ho4 hg4 hm4;have d4:=HE3.out w4 h4.low;have hz4:=h4.big;obtain ⟨ra4,rc4,rfl⟩:=aS ho4;have HP4:=aA h4;clear ho4 hg4 hm4 h4)
         | (at_builtin;refine wpList_append_own _ rfl (.tmp 91) (.tmp 97) 64 rfl w0.heap.size 4 iI (.bool false) 1 1 yy hI hI0 hI1 hI2 rfl (by decide) _ _ _ rfl (HP4.out.onv.alloc _) ⟨w4.heap.size,0,none⟩ 1 1 [.bool cs] rfl rfl (rJ w4 _ _ _ rfl) (by intro u hu;simp at hu;subst hu;rfl) (by unfold maxLen;omega) (by omega) (by simp;omega) ?_;intro nv5 w5 ho5 hg5 _;have G:=aA (HFIN.out kx _ _ _ _ _ w5 (HP4.out.sign ho5 hg5));clear ho5 hg5)
         | (go_at_call 25;refine (aB HCT).mono ?_;rintro e w3 ⟨kx,i3,v3,P3,s3,rfl,hr3⟩;obtain ⟨g3,h3⟩:=HPT.out kx v3 P3 s3 w3 hr3;have d3:=HE3.out w3 h3.low;have hz3:=h3.big;have HP3:=aA h3;clear hr3 h3)
         | go_in)
        exact ⟨⟨k+1,by go_num,by omega,G.out⟩,by simp [intOf];omega⟩
      ·obtain rfl:k=c.length:=by omega
       have hp0:=hp;rw [zo] at hp0;have HS:Hid (aAb w0 c d a b 0 an _ _ (.int .i64 0) wr):=aA ⟨S,[],v,P,g,0,rfl,han ha,hSl,λh=>absurd h (Nat.not_lt_zero _),rfl,by simpa using hp0⟩;clear hp hp0 han hSl hlt hk;go_wp2;go_loopw [14,15,17,21] (λrv nv bv iv wr=>∃k:Nat,iv=.int .i64 k/\k<=d.length/\aAb w0 c d a b k an rv nv bv wr) (λ_ _ _ iv _=>d.length-(intOf iv).toNat);case atStart=>exact ⟨0,rfl,Nat.zero_le _,HS.out⟩
       case round=>
        clear HS;obtain ⟨k,rfl,hk,S1,S2,v,P,g,bn,rfl,han,hS1l,hbn,hSl,hp⟩:=hrel;by_cases hlt:k<d.length
        ·obtain ⟨b1',o1',aa',ac',hb1',hput⟩:=aK8 H2.out HD.out HND.out 60 (by omega) hlt;simp at hb1';obtain ⟨rfl,rfl⟩:=hb1';have hPl:P.length<=1000:=hp.few (λr hr=>by
          rcases z7.1 hr with hr | hr
          ·have:=HTC.out c.length r (by rw [zo];exact hr);exact this.2
          ·exact (HTD.out k r hr).2) (by rw [zs,zv,zv,zp];omega)
         obtain ⟨e1,e2,e3,CT⟩:=hput wr v P hp.low hp.tab (by omega) hp.big;have hki:(k:Int)<(d.length:Int):=by omega
         obtain ⟨ra,rcap,rfl⟩:=hp.orv.shape;obtain ⟨na,ncap,rfl⟩:=aS hp.onv;have hrl:(S1.eraseIdx a++S2.eraseIdx b).length<=16:=by have h1:=zt S1 a;have h2:=zt S2 b;rw [zs];omega
         have hnl:((c.map zw).eraseIdx a++((d.take k).map zw).eraseIdx b).length<=16:=by have h1:=zt (c.map zw) a;have h2:=zt ((d.take k).map zw) b;rw [zv] at h1;rw [zv,zp] at h2;rw [zs];omega
         have HPT:=aA (λ(kx:Nat) (v':Value) (P':Tb) (s':List Nd) (w':World) (hr:nB wr w0.heap.size w0.heap.size v P 60 d[k].2 kx s' w' v' P')=>fS.putT (o:=1) (up:=60) (c:=d) (k:=k) hp hlt rfl HND.out hr);have HCT:=aA CT;have HE3:=aA e3;have htk:(d.take (k+1)).map zw=(d.take k).map zw++[d[k].1]:=by rw [zj hlt,z0];rfl
         have HTK:=aA htk;have HSL:=aA hSl;obtain ⟨cs,hcs⟩ : ∃x,d[k].1=x:=⟨_,rfl⟩;rw [hcs] at e1 HE3 HTK;have hlk:((d.take k).map zw).length=k:=by rw [zv,zp];omega
         have HLK:=aA hlk;obtain ⟨rsk,hrsk⟩ : ∃x,S1.eraseIdx a++S2.eraseIdx b=x:=⟨_,rfl⟩;obtain ⟨nsk,hnsk⟩ : ∃x,(c.map zw).eraseIdx a++((d.take k).map zw).eraseIdx b=x:=⟨_,rfl⟩;by_cases hka:k=b
         ·subst hka;have HGO:=aA (λ(kx:Nat) (v':Value) (P':Tb) (s':List Nd) (w':World) (hr:nB wr w0.heap.size w0.heap.size v P 60 d[k].2 kx s' w' v' P')=>(show aAb w0 c d a k (k+1) an _ _ (.int .i64 (kx:Nat)) w' from by
           obtain ⟨g',h'⟩:=HPT.out kx v' P' s' w' hr;refine ⟨S1,S2++[kx],v',P',g',kx,rfl,han,hS1l,λ_=>?_,by simp;exact HSL.out,?_⟩
           ·have:=HSL.out;simp [<-this]
           ·rw [HTK.out,aAa HSL.out.symm,aAa HLK.out.symm,<-zi];exact h'))
          rw [hrsk,hnsk] at HGO;rw [hrsk] at hrl;rw [hnsk] at hnl;rw [hrsk,hnsk];clear CT e3 htk hSl hcs hlk hbn hp hput HPT hPl hrsk hnsk han hS1l;go_wp2_with (first
           | (go_at_call 25;refine (aB HCT).mono ?_;rintro e w3 ⟨kx,i3,v3,P3,s3,rfl,hr3⟩;have G:=aA (HGO.out kx v3 P3 s3 w3 hr3);clear hr3)
           | go_in)
          exact ⟨⟨k+1,by go_num,by omega,G.out⟩,by simp [intOf];omega⟩
         ·have HFIN:=aA (λ(kx:Nat) (v':Value) (P':Tb) (g':Nat->Nat) (rv' nv':Value) (w':World) (h':fS w0 w0.heap.size w0.heap.size ((c.map λl=>((0:Int),l))++(d.take (k+1)).map λl=>((1:Int),l)) (S1++S2++[kx]) (rsk++[kx]) (nsk++[cs]) rv' nv' w' v' P' g')=>(show aAb w0 c d a b (k+1) an rv' nv' (.int .i64 (bn:Nat)) w' from by
           refine ⟨S1,S2++[kx],v',P',g',bn,rfl,han,hS1l,λhlt2=>?_,by simp;exact HSL.out,?_⟩
           ·have h1:=hbn (by omega);have h2:=HSL.out;rw [zf (by omega)];exact h1
           ·rw [HTK.out,aA9 (by rw [HSL.out];omega),aA9 (by rw [HLK.out];omega),<-zi,<-zi,<-zi,hrsk,hnsk];exact h'))
          have hne:((k:Int) == (b:Int))=false:=by simp;omega
          rw [hrsk,hnsk] at HPT;rw [hrsk] at hrl;rw [hnsk] at hnl;rw [hrsk,hnsk];clear CT e3 htk hSl hcs hlk hbn hp hput hPl hka hrsk hnsk han hS1l;go_wp2_with (first
           | (at_builtin;refine aCd rfl (.tmp 119) (.tmp 121) rfl w0.heap.size _ _ _ rfl (HP3.out.orv.alloc _) (by omega) (by simp;omega) w3.heap.size 1 (kx:Nat) rfl (by simp) ?_;intro rv4 w4 ho4 hg4 hm4;have h4:=HP3.out.row ho4 hg4 hm4;have d4:=HE3.out w4 h4.low;have hz4:=h4.big;obtain ⟨ra4,rc4,rfl⟩:=aS ho4;have HP4:=aA h4;clear ho4 hg4 hm4 h4)
           | (at_builtin;refine wpList_append_own _ rfl (.tmp 123) (.tmp 129) 64 rfl w0.heap.size 4 iI (.bool false) 1 1 yy hI hI0 hI1 hI2 rfl (by decide) _ _ _ rfl (HP4.out.onv.alloc _) ⟨w4.heap.size,0,none⟩ 1 1 [.bool cs] rfl rfl (rJ w4 _ _ _ rfl) (by intro u hu;simp at hu;subst hu;rfl) (by unfold maxLen;omega) (by omega) (by simp;omega) ?_;intro nv5 w5 ho5 hg5 _;have G:=aA (HFIN.out kx _ _ _ _ _ w5 (HP4.out.sign ho5 hg5));clear ho5 hg5)
           | (go_at_call 25;refine (aB HCT).mono ?_;rintro e w3 ⟨kx,i3,v3,P3,s3,rfl,hr3⟩;obtain ⟨g3,h3⟩:=HPT.out kx v3 P3 s3 w3 hr3;have d3:=HE3.out w3 h3.low;have hz3:=h3.big;have HP3:=aA h3;clear hr3 h3)
           | go_in)
          exact ⟨⟨k+1,by go_num,by omega,G.out⟩,by simp [intOf];omega⟩
        ·obtain rfl:k=d.length:=by omega
         have hp0:=hp;rw [zo] at hp0;have htm:∀r∈(c.map λl=>((0:Int),l))++(d.map λl=>((1:Int),l)),aW r.2.2 1=true/\r.2.2.length<=60:=λr hr=>by
          rcases z7.1 hr with hr | hr
          ·exact HTC.out c.length r (by rw [zo];exact hr)
          ·exact HTD.out d.length r (by rw [zo];exact hr)
         have hfew:=aX2 (λr hr=>(htm r hr).2);rw [zs,zv,zv] at hfew;have hF:=hp0.facts (λr hr=>(htm r hr).1) (by omega);have ha1:a<S1.length:=by omega
         have hb2:b<S2.length:=by omega
         have hae:S1[a]=an:=by have:=han;rw [ze ha1] at this;simpa using this
         have hbe:S2[b]=bn:=by have:=hbn hb;rw [ze hb2] at this;simpa using this
         have hanl:an<P.length:=hF.lt an (by rw [<-hae];exact yz _ (yx _));have hbnl:bn<P.length:=hF.lt bn (by rw [<-hbe];exact z8 _ (yx _));have hl1:(S1.eraseIdx a++S2.eraseIdx b).length=c.length-1+(d.length-1):=by rw [zs,zr ha1,zr hb2];omega
         have hl2:((c.map zw).eraseIdx a++(d.map zw).eraseIdx b).length=c.length-1+(d.length-1):=by rw [zs,zr (by simpa using ha),zr (by simpa using hb)];simp
         have CM:=aA (aWu w0.heap.size w0.heap.size v P an bn _ _ _ _ wr hp0.tab hF.ok hF.few hF.pts hF.short hanl hbnl hp0.orv hp0.onv (by rw [hl1,hl2]) (by omega) (λr hr=>hF.lt r (by
          rcases z7.1 hr with hr | hr
          ·exact yz _ (zd hr)
          ·exact z8 _ (zd hr))) hp0.big)
         have HFIN:Hid (∀e w',aDf P an bn (S1.eraseIdx a++S2.eraseIdx b) ((c.map zw).eraseIdx a++(d.map zw).eraseIdx b) w0.heap.size wr e w'->mS (jP c d a b) w e w'):=aA λe w' ⟨oa,oc,out,yes,er,h1,h2,h3,h4,h5⟩=>by
          have hsts:=hp0.sts;rw [tZ,z0,Nat.zero_add] at hsts;obtain ⟨k1,k2⟩:=List.append_inj hsts (by rw [zv,xI,zv];exact hS1l.symm);refine ⟨oa,oc,out,yes,er,h1,zq ⟨HI.out.1,HI.out.2,zq ⟨a,b,⟨ha,hb,rfl,rfl,HSGN.out⟩,?_⟩⟩,h3,h4,HD.out.trans (((hp0.low.trans h5)).mono hz0)⟩;have:=aX0 ha hb (λx hx=>(HNC.out.term x hx).1) (λx hx=>(HND.out.term x hx).1) hp0.rows hF.ok k1 k2 ha1 hb2 (by rw [hae,hbe];exact h2);simpa [ha,hb] using this
         obtain ⟨ra,rcap,rfl⟩:=hp.orv.shape;obtain ⟨na,ncap,rfl⟩:=aS hp.onv;rw [zo] at CM ⊢;clear hp hp0 hF hfew htm han hbn hS1l hSl hae hbe hl1 hl2 hanl hbnl;generalize (S1.eraseIdx a++S2.eraseIdx b).length=rl at *;generalize ((c.map zw).eraseIdx a++(d.map zw).eraseIdx b).length=nl at *;go_wp2_with (first
          | (go_at_call 26;refine (aB CM).mono ?_)
          | go_in)
         intro e w4 hq;have hq2:=HFIN.out e w4 hq;obtain ⟨oa,oc,out,yes,er,rfl,h2,h3,h4,h5⟩:=hq2;have HF:Hid (mS (jP c d a b) w (.returned (.tuple #[.slice oa out.length oc,.bool yes,.int .i64 er])) w4):=aA ⟨oa,oc,out,yes,er,rfl,h2,h3,h4,h5⟩;clear hq h2 h3 h4 h5 CM HFIN;generalize out.length=ol at *;go_wp2;go_returns;exact HF.out
   ·have HR:=aA (HBAD.out (λ⟨a,b,p1,p2,p3,p4,_⟩=>hj (by omega)));have hd0:decide (i<0)=false:=by simp;omega
    have hd1:decide ((c.length:Int)<=i)=false:=by simp;omega
    clear HBAD;by_cases h0:j<0
    ·have hd2:decide (j<0)=true:=by simpa using h0
     clear hi hj;go_enter zl,zn;go_upto_region 5 with (first
      | (go_at_call_of 24 (zz a1 c.length c1);refine (aB CI1).mono ?_;rintro e w1 ⟨rfl,hb1⟩;have HB1:=aA hb1;have hb1s:=hb1.size;clear hb1)
      | (go_at_call_of 24 (zz a2 d.length c2);refine (aB CI2 _ HB1.out).mono ?_;rintro e w2 ⟨rfl,hb2⟩;have HB2:=aA (HB1.out.trans (hb2.mono hb1s));clear hb2))
     go_quiet (fail);go_wp2;go_returns;exact mS.none HR.out (HB2.out.trans ((aJ ⟨_,rfl⟩).mono HB2.out.size))
    ·have hd2:decide (j<0)=false:=by simpa using h0
     have hd3:decide ((d.length:Int)<=j)=true:=by simp;omega
     have hd4:(d.length:Int)<=j:=by omega
     clear hi hj;go_enter zl,zn;go_upto_region 5 with (first
      | (go_at_call_of 24 (zz a1 c.length c1);refine (aB CI1).mono ?_;rintro e w1 ⟨rfl,hb1⟩;have HB1:=aA hb1;have hb1s:=hb1.size;clear hb1)
      | (go_at_call_of 24 (zz a2 d.length c2);refine (aB CI2 _ HB1.out).mono ?_;rintro e w2 ⟨rfl,hb2⟩;have HB2:=aA (HB1.out.trans (hb2.mono hb1s));clear hb2))
     go_quiet (fail);go_wp2;go_returns;exact mS.none HR.out (HB2.out.trans ((aJ ⟨_,rfl⟩).mono HB2.out.size))
  ·have HR:=aA (HBAD.out (λ⟨a,b,p1,p2,p3,p4,_⟩=>hi (by omega)));clear HBAD;by_cases h0:i<0
   ·have hd0:decide (i<0)=true:=by simpa using h0
    clear hi;go_enter zl,zn;go_upto_region 5 with (first
     | (go_at_call_of 24 (zz a1 c.length c1);refine (aB CI1).mono ?_;rintro e w1 ⟨rfl,hb1⟩;have HB1:=aA hb1;have hb1s:=hb1.size;clear hb1)
     | (go_at_call_of 24 (zz a2 d.length c2);refine (aB CI2 _ HB1.out).mono ?_;rintro e w2 ⟨rfl,hb2⟩;have HB2:=aA (HB1.out.trans (hb2.mono hb1s));clear hb2))
    go_quiet (fail);go_wp2;go_returns;exact mS.none HR.out (HB2.out.trans ((aJ ⟨_,rfl⟩).mono HB2.out.size))
   ·have hd0:decide (i<0)=false:=by simpa using h0
    have hd1:decide ((c.length:Int)<=i)=true:=by simp;omega
    have hd2:(c.length:Int)<=i:=by omega
    clear hi;go_enter zl,zn;go_upto_region 5 with (first
     | (go_at_call_of 24 (zz a1 c.length c1);refine (aB CI1).mono ?_;rintro e w1 ⟨rfl,hb1⟩;have HB1:=aA hb1;have hb1s:=hb1.size;clear hb1)
     | (go_at_call_of 24 (zz a2 d.length c2);refine (aB CI2 _ HB1.out).mono ?_;rintro e w2 ⟨rfl,hb2⟩;have HB2:=aA (HB1.out.trans (hb2.mono hb1s));clear hb2))
    go_quiet (fail);go_wp2;go_returns;exact mS.none HR.out (HB2.out.trans ((aJ ⟨_,rfl⟩).mono HB2.out.size))
 ·have HR:Hid (jP c d i j [] false 5):=aA (zk ⟨hI,rfl,rfl,rfl⟩);cases i1:dB c with
  | false=>
   rw [i1] at CI1;clear i1 hI;cases i2:dB d <;> rw [i2] at CI2 <;> clear i2;all_goals
    go_enter zl,zn;go_wp2_with (first
     | (go_at_call_of 24 (zz a1 c.length c1);refine (aB CI1).mono ?_;rintro e w1 ⟨rfl,hb1⟩;have HB1:=aA hb1;have hb1s:=hb1.size;clear hb1)
     | (go_at_call_of 24 (zz a2 d.length c2);refine (aB CI2 _ HB1.out).mono ?_;rintro e w2 ⟨rfl,hb2⟩;have HB2:=aA (HB1.out.trans (hb2.mono hb1s));clear hb2))
    go_returns;exact mS.none HR.out HB2.out
  | true=>
   have i2:dB d=false:=by
    cases h:dB d
    ·rfl
    ·exact absurd ⟨i1,h⟩ hI
   rw [i1] at CI1;rw [i2] at CI2;clear i1 i2 hI;go_enter zl,zn;go_wp2_with (first
    | (go_at_call_of 24 (zz a1 c.length c1);refine (aB CI1).mono ?_;rintro e w1 ⟨rfl,hb1⟩;have HB1:=aA hb1;have hb1s:=hb1.size;clear hb1)
    | (go_at_call_of 24 (zz a2 d.length c2);refine (aB CI2 _ HB1.out).mono ?_;rintro e w2 ⟨rfl,hb2⟩;have HB2:=aA (HB1.out.trans (hb2.mono hb1s));clear hb2))
   go_returns;exact mS.none HR.out HB2.out
theorem wE{w W:World}{a a':Option Addr}{c:List Lt}{B cap:Nat}{Q:List (Lt×Value)}(h:bD w a c)(hr:W.ownsRow B 39 2 (.slice a' c.length cap) Q.length (bA Q))(hQ:Q.map zw=c)(ha:∀q∈Q,fG W B q.2 q.1.2):bD W a' c:=by
 refine tC (P:=Q) hr hQ (λq hq=>?_) h.few;have hm:q.1∈c:=by rw [<-hQ];exact zg hq
 obtain ⟨k,hk,e⟩:=List.getElem_of_mem hm;obtain ⟨_,_,_,_,_,_,_,hn⟩:=h.cell k hk;rw [e] at hn;obtain ⟨aa,cpp,e2,hx⟩:=rH (ha q hq) hn.few hn.short;exact ⟨aa,cpp,e2,hx⟩
structure wF(w:World)(x:List Lt)(a1:Option Addr)(c1:Nat)(Q:List (Lt×Value))(w':World):Prop where
 same:Q.map zw=x
 row:w'.ownsRow w.heap.size 39 2 (.slice a1 x.length c1) Q.length (bA Q)
 atoms:∀q∈Q,fG w' w.heap.size q.2 q.1.2
 nd:((Q.map Prod.snd).filterMap Value.ownBlock).Nodup
 lits:bD w' a1 x
 low:Below w.heap.size w w'
theorem aFx(a:Option Addr)(cp:Nat)(c:List Lt)(w:World)(h:bD w a c)(hz:oU w a c) :
  Calls zc 12 #[.slice a c.length cp] w λe w'=>∃a1 c1 Q,e=.returned (.slice a1 c.length c1)/\wF w c a1 c1 Q w':=by
 refine (aPc a cp c w h hz).mono ?_;rintro e w' ⟨v,Q,rfl,hQ,hr,ha,hb,hn⟩;obtain ⟨a1,c1,rfl⟩:=aS hr;have hl:Q.length=c.length:=by rw [<-hQ];simp
 have hr':=hr;rw [hl] at hr;exact ⟨a1,c1,Q,by rw [hl],hQ,by rw [<-hl];exact hr',ha,hn,wE h (by rw [<-hl];exact hr') hQ ha,hb⟩
theorem bM.four{N N0 M:Nat}{w:World}{v:Value}{out:List Lt}(h:bM N w v out)(h0:N0<=N)(hM:w.heap.size<=M)(hl:out.length<=1000000)(hs:∀x∈out,x.2.length<=1000000):∃Q,Q.map zw=out/\lA N0 M w v Q/\∀k,fX v Q k->N<=k/\k<w.heap.size:=by
 obtain ⟨Q,q1,q2,q3,q4⟩:=h;have hb:∀k,fX v Q k->N<=k/\k<w.heap.size:=by
  rintro k (hk | ⟨q,hq,hk⟩)
  ·exact aT q2 k hk
  ·exact aT (q3 q hq) k hk
 refine ⟨Q,q1,⟨dI q2 h0,λq hq=>dI (q3 q hq) h0,q4,λk hk=>?_,?_,λq hq=>hs q.1 (by rw [<-q1];exact zg hq)⟩,hb⟩
 ·have:=(hb k hk).2;omega
 ·rw [<-q1] at hl;simpa using hl
theorem wF.four{w w':World}{x:List Lt}{a1:Option Addr}{c1 N0 M:Nat}{Q:List (Lt×Value)}(h:wF w x a1 c1 Q w')(h0:N0<=w.heap.size)(hM:w'.heap.size<=M)(hl:x.length<=1000000)(hs:∀z∈x,z.2.length<=1000000):lA N0 M w' (.slice a1 x.length c1) Q/\∀k,fX (.slice a1 x.length c1) Q k->w.heap.size<=k/\k<w'.heap.size:=by
 have hb:∀k,fX (.slice a1 x.length c1) Q k->w.heap.size<=k/\k<w'.heap.size:=by
  rintro k (hk | ⟨q,hq,hk⟩)
  ·exact aT h.row k hk
  ·exact aT (h.atoms q hq) k hk
 refine ⟨⟨dI h.row h0,λq hq=>dI (h.atoms q hq) h0,h.nd,λk hk=>?_,?_,λq hq=>hs q.1 (by rw [<-h.same];exact zg hq)⟩,hb⟩
 ·have:=(hb k hk).2;omega
 ·have:=congrArg yw h.same;simp at this;omega
theorem lA.below{N0 M:Nat}{W W':World}{v:Value}{Q:List (Lt×Value)}(h:lA N0 M W v Q)(hb:Below W.heap.size W W'):lA N0 M W' v Q:=
 ⟨aU h.row hb (zu _),λq hq=>aU (h.atoms q hq) hb (zu _),h.nd,h.lt,h.few,h.small⟩
structure aBn(w w6:World)(vl vk v1 v2:Value)(Ql Qk Q1 Q2:List (Lt×Value)):Prop where
 l:lA w.heap.size w6.heap.size w6 vl Ql
 k:lA w.heap.size w6.heap.size w6 vk Qk
 one:lA w.heap.size w6.heap.size w6 v1 Q1
 two:lA w.heap.size w6.heap.size w6 v2 Q2
 lk:∀b,fX vl Ql b->¬fX vk Qk b
 l1:∀b,fX vl Ql b->¬fX v1 Q1 b
 l2:∀b,fX vl Ql b->¬fX v2 Q2 b
 k1:∀b,fX vk Qk b->¬fX v1 Q1 b
 k2:∀b,fX vk Qk b->¬fX v2 Q2 b
 o2:∀b,fX v1 Q1 b->¬fX v2 Q2 b
theorem aBn.of{w w1 w2 w3 w4 w5 w6:World}{x y out:List Lt}{a1 a2:Option Addr}{c1 c2:Nat}{vl vk:Value}{Q1 Q2:List (Lt×Value)}(h1:wF w x a1 c1 Q1 w1)(h2:wF w1 y a2 c2 Q2 w2)(hl:bM w2.heap.size w3 vl out)(hk:bM w3.heap.size w4 vk out)(b3:Below w2.heap.size w2 w3)(b4:Below w3.heap.size w3 w4)(b5:Below w4.heap.size w4 w5)(b6:Below w5.heap.size w5 w6)
  (sx:x.length<=1000000) (ax:∀z∈x,z.2.length<=1000000) (sy:y.length<=1000000) (ay:∀z∈y,z.2.length<=1000000) (so:out.length<=1000000) (ao:∀z∈out,z.2.length<=1000000):∃Ql Qk,Ql.map zw=out/\Qk.map zw=out/\aBn w w6 vl vk (.slice a1 x.length c1) (.slice a2 y.length c2) Ql Qk Q1 Q2:=by
 have z1:=h1.low.size;have z2:=h2.low.size;have z3:=b3.size;have z4:=b4.size;have z5:=b5.size;have z6:=b6.size;obtain ⟨Ql,el,fl,bl⟩:=hl.four (N0:=w.heap.size) (M:=w6.heap.size) (by omega) (by omega) so ao;obtain ⟨Qk,ek,fk,bk⟩:=hk.four (N0:=w.heap.size) (M:=w6.heap.size) (by omega) (by omega) so ao;obtain ⟨f1,g1⟩:=h1.four (N0:=w.heap.size) (M:=w6.heap.size) (zu _) (by omega) sx ax;obtain ⟨f2,g2⟩:=h2.four (N0:=w.heap.size) (M:=w6.heap.size) (by omega) (by omega) sy ay;refine ⟨Ql,Qk,el,ek,((fl.below b4).below b5).below b6,(fk.below b5).below b6,((((f1.below h2.low).below b3).below b4).below b5).below b6,(((f2.below b3).below b4).below b5).below b6,?_,?_,?_,?_,?_,?_⟩;all_goals
  intro b hb hb'
 ·have:=bl b hb;have:=bk b hb';omega
 ·have:=bl b hb;have:=g1 b hb';omega
 ·have:=bl b hb;have:=g2 b hb';omega
 ·have:=bk b hb;have:=g1 b hb';omega
 ·have:=bk b hb;have:=g2 b hb';omega
 ·have:=g1 b hb;have:=g2 b hb';omega
theorem aPf(x:Int)(w:World):Calls zc 16 #[.int .i64 x] w λe w'=>e=.returned (.int .i64 x)/\w'=w:=by go_enter Tryz.func16,Tryz.ntmps16;go_wp2;go_ret;exact ⟨rfl,rfl⟩
theorem gI.small{M0:List Tg}{a b:Nat}{rest:List (Int×Lt)}{out:List Lt}{yes:Bool}{e:Int}(h:gI M0 a b rest out yes e):aK out<=500:=by
 rcases h with ⟨_,rfl,_⟩ | ⟨_,_,_,_,_,⟨_,rfl,_⟩ | ⟨h,rfl,_⟩⟩
 ·simp [aK]
 ·simp [aK]
 ·exact h
theorem jP.small{c d:List Lt}{i j:Int}{out:List Lt}{yes:Bool}{e:Int}(h:jP c d i j out yes e):aK out<=500:=by
 rcases h with ⟨_,rfl,_⟩ | ⟨_,_,⟨_,rfl,_⟩ | ⟨_,_,_,h⟩⟩
 ·simp [aK]
 ·simp [aK]
 ·exact h.small
theorem aPg{c:List Lt}{x:Lt}(h:x∈c):x.2.length<=aK c:=by
 induction c with
 | nil=>simp at h
 | cons y r ih=>
  simp [aK] at ih ⊢;rcases zh.1 h with rfl | h
  ·omega
  ·have:=ih h;omega
def oV(w wx:World):Prop:=∃d,wx=w.drewN d
theorem oV.below{w wx:World}(h:oV w wx):Below w.heap.size w wx:=by obtain ⟨d,rfl⟩:=h;exact aJ ⟨d,rfl⟩
theorem yS{w wx:World}{a1 a2:Option Addr}{c1 c2:Nat}{l:List Lt}(h1:bD w a1 l)(h2:bD w a2 l)(hx:oV w wx):Calls zc 14 #[.slice a1 l.length c1,.slice a2 l.length c2] wx λe w'=>e=.returned (.bool true)/\oV w w':=by obtain ⟨d,rfl⟩:=hx;refine (aH5 a1 a2 c1 c2 l l _ (h1.drewN d) (h2.drewN d)).mono ?_;rintro e w' ⟨rfl,n,rfl⟩;exact ⟨by simp,d+n,by rw [World.drewN_drewN]⟩
structure LrR(w:World)(B bk:Nat)(yv:Value)(E:List (Value×Int))(F:List bY)(G:List cX)(next:Int)(n:Nat)(w':World)(nv' mv' xv':Value)(E1:List (Value×Int))(F1:List bY)(next1:Int):Prop where
 book:dM w' B bk nv' mv' xv' yv E1 F1 G next1
 lenE:E1.length<=E.length+4*n
 lenF:F1.length<=F.length+4
 lo:next-n-4<=next1
 low:Below B w w'
theorem aBo(B bk:Nat)(nv mv xv yv:Value)(E:List (Value×Int))(F:List bY)(G:List cX)(next:Int)(ax ay:Option Addr)(cx cy:Nat)(x y:List Lt)(i j:Int)(w:World)(h:dM w B bk nv mv xv yv E F G next)(hx:bD w ax x)(zx:oU w ax x)(hy:bD w ay y)(zy:oU w ay y)(hT:jY w)(sx:x.length<=1000000)(qx:∀z∈x,z.2.length<=1000000)(sy:y.length<=1000000)(qy:∀z∈y,z.2.length<=1000000)(hE:E.length<=6000000000)(hF1:F.length<800000000)(hnx : -6000000000<=next) :
  Calls zc 6 #[.pointer (some ⟨bk,0,none⟩),.slice ax x.length cx,.int .i64 i,.slice ay y.length cy,.int .i64 j] w λe w'=>e=.returned (.bool true)/\∃nv' mv' xv' E1 F1 next1,LrR w B bk yv E F G next (x.length+y.length+200) w' nv' mv' xv' E1 F1 next1:=by
 have C1:=aA (aFx ax cx x w hx zx);have C2:=aA (λwx (hb:Below w.heap.size w wx)=>aFx ay cy y wx (hy.below hb (zu _)) (zy.below hy hb));have CR:=aA (λ(w2:World) (a1 a2:Option Addr) (c1 c2:Nat) (l1:bD w2 a1 x) (l2:bD w2 a2 y) (hb:Below w.heap.size w w2)=>aKo a1 a2 c1 c2 x y i j w2 l1 l2 (hT.below hb (zu _)));have CD:=aA (λ(w4:World) (hb:Below w.heap.size w w4)=>aPe ax ay cx cy x y i j w4 (hx.below hb (zu _)) (hy.below hb (zu _)));have HH:=aA h;have HX:=aA hx;have HY:=aA hy;have QX:=aA qx;have QY:=aA qy;clear h hx zx hy zy hT qx qy;go_enter Tryz.func6,Tryz.ntmps6;go_upto_region 6 with (first
  | (go_at_call 13;refine (aB CD w4 HB4.out).mono ?_;rintro e w5 ⟨oa,oc,out5,yes5,er5,rfl,hs5,hl5,-,hb5⟩;obtain ⟨ho5,rfl,rfl⟩:=HS3.out.one hs5;have HL5:=aA hl5;have HO5:=aA ho5;have HB5:=aA hb5;clear hs5 hl5 hb5 ho5)
  | (go_at_call 10;refine (aB CR w3 a1 a2 c1 c2 (HC1.out.lits.below (HC2.out.low.trans (HB3.out.mono hz2)) (zu _)) (HC2.out.lits.below HB3.out (zu _)) HBW3.out).mono ?_;rintro e w4 ⟨vk,out4,yes4,er4,rfl,hs4,hk4,-,hb4⟩;obtain ⟨ho4,rfl,rfl⟩:=HS3.out.one hs4;have HO4:=aA ho4;have HK4:=aA hk4;have HB4:=aA (HBW3.out.trans (hb4.mono HBW3.out.size));have HBB4:=aA hb4;clear hs4 hk4 hb4 ho4)
  | (go_at_call 10;refine (aB CR w2 a1 a2 c1 c2 (HC1.out.lits.below HC2.out.low (zu _)) HC2.out.lits HBW2.out).mono ?_;rintro e w3 ⟨vl,out,yes,er,rfl,hs3,hk3,ho100,hb3⟩;have HS3:=aA hs3;have HK3:=aA hk3;have HB3:=aA hb3;have HBW3:=aA (HBW2.out.trans (hb3.mono HBW2.out.size));clear hs3 hk3 hb3)
  | (go_at_call 12;refine (aB C2 w1 HC1.out.low).mono ?_;rintro e w2 ⟨a2,c2,Q2,rfl,hc2⟩;have HC2:=aA hc2;have HBW2:=aA (HC1.out.low.trans (hc2.low.mono HC1.out.low.size));have hz2:=hc2.low.size;clear hc2)
  | (go_at_call 12;refine (aB C1).mono ?_;rintro e w1 ⟨a1,c1,Q1,rfl,hc1⟩;have HC1:=aA hc1;clear hc1)
  | go_in)
 have ho4:=HO4.out;have ho5:=HO5.out;subst ho4;subst ho5;have hcnt:=HS3.out.small;have hao:∀z∈out,z.2.length<=1000000:=λz hz=>by have:=aPg hz;omega
 obtain ⟨Ql,Qk,el,ek,hF⟩:=aBn.of HC1.out HC2.out HK3.out HK4.out HB3.out HBB4.out HB5.out (Below.refl _ w5) sx QX.out sy QY.out (by omega) hao;have hbw5:Below w.heap.size w w5:=HB4.out.trans (HB5.out.mono HB4.out.size);have h1l:Q1.length=x.length:=by have:=congrArg yw HC1.out.same;simpa using this
 have h2l:Q2.length=y.length:=by have:=congrArg yw HC2.out.same;simpa using this
 have hll:Ql.length=out.length:=by rw [<-el];simp
 have hkl:Qk.length=out.length:=by rw [<-ek];simp
 obtain ⟨la,lc,rfl⟩ : ∃la lc,vl=.slice la out.length lc:=by obtain ⟨la,lc,e⟩:=aS hF.l.row;exact ⟨la,lc,by rw [e,hll]⟩
 obtain ⟨ka,kc,rfl⟩ : ∃ka kc,vk=.slice ka out.length kc:=by obtain ⟨ka,kc,e⟩:=aS hF.k.row;exact ⟨ka,kc,by rw [e,hkl]⟩
 have CS1:=aA (λwx (hw:oV w5 wx)=>yS (c1:=lc) (c2:=oc) (wE HL5.out hF.l.row el hF.l.atoms) HL5.out hw);have CS2:=aA (λwx (hw:oV w5 wx)=>yS (c1:=kc) (c2:=oc) (wE HL5.out hF.k.row ek hF.k.atoms) HL5.out hw);have CS3:=aA (λwx (hw:oV w5 wx)=>yS (c1:=c1) (c2:=cx) (wE HX.out hF.one.row HC1.out.same hF.one.atoms) (HX.out.below hbw5 (zu _)) hw);have CS4:=aA (λwx (hw:oV w5 wx)=>yS (c1:=c2) (c2:=cy) (wE HY.out hF.two.row HC2.out.same hF.two.atoms) (HY.out.below hbw5 (zu _)) hw);have hbkl:=HH.out.base.lt;have hbh:=HH.out.base.high;have HT0:Hid (∀wx,oV w5 wx->aBm B bk w.heap.size w5.heap.size (λ_=>False) nv mv xv yv E F G next wx):=aA λwx hw=>by
  have hb9:=hbw5.trans (hw.below.mono hbw5.size);refine ⟨HH.out.below hb9,λu hu k hk=>zk ?_,λk hk=>zk (HH.out.heldLt k hk),hbkl,by omega,hw.below.size,hbw5.size⟩;simp at hu;rcases hu with rfl | rfl | rfl | rfl
  ·exact (aT HH.out.base.rn k hk).2
  ·exact (aT HH.out.base.rm k hk).2
  ·exact (aT HH.out.rx k hk).2
  ·exact (aT HH.out.ry k hk).2
 have HF:=aA hF;have HBW5:=aA hbw5;have D5:Hid (oV w5 w5):=aA ⟨0,rfl⟩;clear hF hbw5 hao C1 C2 CR CD HC1 HC2 HK3 HK4 HB3 HBB4 HB5 HB4 HBW3 HBW2 HS3 HL5 HX HY HO4 HO5 el ek hcnt;generalize hol:out.length=ol at *;generalize hxl:x.length=xl at *;generalize hyl:y.length=yl at *;have HEQ:=aA (zm hol (zm hxl hyl));have HLN:=aA (zm h1l (zm h2l (zm hll hkl)));clear hol hxl hyl h1l h2l hll hkl;go_upto_region 10 with (first
  | (go_at_call_of 14 (zz a2 yl c2);refine (aB CS4 _ D8.out).mono ?_;rintro e w9 ⟨rfl,hd9⟩;have D9:=aA hd9;clear hd9)
  | (go_at_call_of 14 (zz a1 xl c1);refine (aB CS3 _ D7.out).mono ?_;rintro e w8 ⟨rfl,hd8⟩;have D8:=aA hd8;clear hd8)
  | (go_at_call_of 14 (zz ka ol kc);refine (aB CS2 _ D6.out).mono ?_;rintro e w7 ⟨rfl,hd7⟩;have D7:=aA hd7;clear hd7)
  | (go_at_call_of 14 (zz la ol lc);refine (aB CS1 _ D5.out).mono ?_;rintro e w6 ⟨rfl,hd6⟩;have D6:=aA hd6;clear hd6)
  | go_in)
 obtain ⟨n1,n2,n3,n4⟩:=HLN.out;have q1:=(HF.out.l.below D9.out.below);have q2:=(HF.out.k.below D9.out.below);have q3:=(HF.out.one.below D9.out.below);have q4:=(HF.out.two.below D9.out.below);have HQ:=aA (zm q2 (zm q3 q4));have CT1:=aA (yR (HT0.out w9 D9.out) q1 (λk h=>h.elim) (by omega) (by omega) (by omega));have HN:=aA (zm n1 (zm n2 (zm n3 n4)));have HB9:=aA (HBW5.out.trans (D9.out.below.mono HBW5.out.size));have hBw:B<=w.heap.size:=by omega
 clear q1 q2 q3 q4 CS1 CS2 CS3 CS4 HT0 D5 D6 D7 D8 n1 n2 n3 n4;go_upto_region 14 with (first
  | (go_at_call_of 15 (zz la ol lc);refine (aB CT1).mono ?_;rintro e w10 ⟨rfl,nv1,mv1,xv1,E1,F1,r1⟩;have e1:=r1.lenE;have f1:=r1.lenF;have m1:=HN.out;have k2:=r1.others _ _ HQ.out.1 HF.out.lk;have k3:=r1.others _ _ HQ.out.2.1 HF.out.l1;have k4:=r1.others _ _ HQ.out.2.2 HF.out.l2;have HK:=aA (zm k3 k4);have CT2:=aA (yR r1.st k2 (λb hb hc=>by rcases hb with hb | hb;exact hb.elim;exact HF.out.lk b hb hc) (by omega) (by omega) (by omega));have HR1:=aA r1;clear e1 f1 m1 k2 k3 k4 r1)
  | (go_at_call_of 15 (zz ka ol kc);refine (aB CT2).mono ?_;rintro e w11 ⟨rfl,nv2,mv2,xv2,E2,F2,r2⟩;have e1:=HR1.out.lenE;have f1:=HR1.out.lenF;have e2:=r2.lenE;have f2:=r2.lenF;have m1:=HN.out;have k3:=r2.others _ _ HK.out.1 HF.out.k1;have k4:=r2.others _ _ HK.out.2 HF.out.k2;have HK2:=aA k4;have CT3:=aA (yR r2.st k3 (λb hb hc=>by rcases hb with (hb | hb) | hb;exact hb.elim;exact HF.out.l1 b hb hc;exact HF.out.k1 b hb hc) (by omega) (by omega) (by omega));have HR2:=aA r2;clear e1 f1 e2 f2 m1 k3 k4 r2)
  | (go_at_call_of 15 (zz a1 xl c1);refine (aB CT3).mono ?_;rintro e w12 ⟨rfl,nv3,mv3,xv3,E3,F3,r3⟩;have e1:=HR1.out.lenE;have f1:=HR1.out.lenF;have e2:=HR2.out.lenE;have f2:=HR2.out.lenF;have e3:=r3.lenE;have f3:=r3.lenF;have m1:=HN.out;have k4:=r3.others _ _ HK2.out HF.out.o2;have CT4:=aA (yR r3.st k4 (λb hb hc=>by rcases hb with ((hb | hb) | hb) | hb;exact hb.elim;exact HF.out.l2 b hb hc;exact HF.out.k2 b hb hc;exact HF.out.o2 b hb hc) (by omega) (by omega) (by omega));have HR3:=aA r3;clear e1 f1 e2 f2 e3 f3 m1 k4 r3)
  | (go_at_call_of 15 (zz a2 yl c2);refine (aB CT4).mono ?_;rintro e w13 ⟨rfl,nv4,mv4,xv4,E4,F4,r4⟩;have HR4:=aA r4;clear r4)
  | go_in)
 have HFIN:Hid (LrR w B bk yv E F G next (xl+yl+200) w13 nv4 mv4 xv4 E4 F4 (next-Ql.length-1-Qk.length-1-Q1.length-1-Q2.length-1)):=aA (by
  have m1:=HN.out;have e1:=HR1.out.lenE;have f1:=HR1.out.lenF;have e2:=HR2.out.lenE;have f2:=HR2.out.lenF;have e3:=HR3.out.lenE;have f3:=HR3.out.lenF;have e4:=HR4.out.lenE;have f4:=HR4.out.lenF;exact ⟨HR4.out.st.book,by omega,by omega,by omega,(HB9.out.mono hBw).trans (HR1.out.below.trans (HR2.out.below.trans (HR3.out.below.trans HR4.out.below)))⟩)
 clear HR1 HR2 HR3 HR4 HK HK2 HQ HF CT1 CT2 CT3 CT4 HN HLN HB9 HBW5 HH QX QY D9;go_wp2_with (first
  | (go_at_call 16;refine (aPf _ _).mono ?_;rintro e wx ⟨rfl,hwx⟩;rw [hwx];clear hwx wx)
  | go_in)
 go_ret;have hfin:=HFIN.out;rw [<-HEQ.out.2.1,<-HEQ.out.2.2] at hfin;exact ⟨rfl,_,_,_,_,_,_,hfin⟩
end
end Go.Proofs.YtcldkjcpofjmhaaGreatDoor
