import Derived.Test.YtcldkjcpofjmhaaGreatDoorTPut0F
import Derived.Test.YtcldkjcpofjmhaaGreatDoorVRes1F
import Derived.Deep.RegionWith
open List renaming take_succ_eq_append_getElem→zy,take_of_length_le→zx,zipWith→zw,getElem_mem→zu,drop_eq_getElem_cons→zn,mem_map_of_mem→zj,mem_cons→zi
open Nat renaming le_refl→zz,le_trans→zs,zero_le→zq
open Or renaming inr→zf,inl→ze
namespace Go.Proofs.YtcldkjcpofjmhaaGreatDoor
open Calls renaming quiet_of_same→zv
open _root_.Go.Proofs.Tryz renaming prog→zt,ntmps22→zr,func22→zp,results26→zk,ntmps36→zh,func36→zg
open Value renaming slice→zo
open World renaming ownsRow_nil→zm
set_option maxHeartbeats 8000000
set_option maxRecDepth 100000
section
open Go.RowKit Go.Shelf Go.WideMaps
theorem aXk(a:Option Addr)(cp:Nat)(c:List Lt)(w:World)(h:bE w a c)(hc:aK c<=1000000) :
  Calls zt 46 #[.slice a c.length cp] w λe w'=>e=.returned (.int .i64 (aK c))/\w'=w:=by
 have hl:c.length<=4398046511104:=h.few;go_enter Tryz.func46,Tryz.ntmps46;go_wp2;go_loop [3,4] (λs i=>∃k:Nat,k<=c.length/\i=.int .i64 k/\s=.int .i64 (aK (c.take k))) (λ_ i=>c.length-(intOf i).toNat);case atStart=>exact ⟨0,zq _,rfl,rfl⟩
 case round=>
  obtain ⟨k,hk,rfl,rfl⟩:=hrel;have hct:=sE c k;by_cases hlt:k<c.length
  ·obtain ⟨p1,o1,aa1,cp1,rfl,e1,f1,g1⟩:=h.cell k hlt;have hg:=g1.few;have HS:Hid (aK (c.take (k+1))=aK (c.take k)+c[k].2.length):=by
    rw [zy hlt,oM];exact rfl
   clear h g1;go_wp2;go_round;case rel=>exact ⟨k+1,by omega,by go_num,by rw [HS.out];go_num⟩
   case measure=>simp [intOf];omega
  ·go_wp2;go_ret;have hk1:c.take k=c:=zx (by omega);rw [hk1];exact ⟨rfl,rfl⟩
theorem aXl{ns:List Bool}:∀{ms:List (List Nd)},(∀m∈ms,m.length<=501)->zw Prod.mk ns (ms.map λm=>m.take 501)=zw Prod.mk ns ms:=by
 intro ms h;congr 1
 rw [List.map_congr_left (g:=id)]
 ·simp
 ·intro m hm;exact zx (h m hm)
theorem aDm:∀{ns:List Bool} {ms:List (List Nd)} {m:List Nd},ns.length=ms.length->m∈ms->∃n,(n,m)∈zw Prod.mk ns ms
 | [],[],m,_,hm=>by simp at hm
 | [],_ :: _,_,h,_=>by simp at h
 | _ :: _,[],_,h,_=>by simp at h
 | n :: ns,x :: ms,m,h,hm=>by
  rcases zi.1 hm with rfl | hm
  ·exact ⟨n,by simp⟩
  ·obtain ⟨k,hk⟩:=aDm (ns:=ns) (ms:=ms) (by simpa using h) hm;exact ⟨k,by simp [hk]⟩
theorem aKi:∀{ns:List Bool} {ms:List (List Nd)} {x:Lt},x∈zw Prod.mk ns ms->∃m∈ms,x.2=m
 | [],_,x,h=>by simp at h
 | _ :: _,[],x,h=>by simp at h
 | n :: ns,m :: ms,x,h=>by
  simp only [List.zipWith_cons_cons,zi] at h;rcases h with rfl | h
  ·exact ⟨m,by simp,rfl⟩
  ·obtain ⟨m',h1,h2⟩:=aKi h;exact ⟨m',by simp [h1],h2⟩
theorem aKj{ns:List Bool}{ms:List (List Nd)}(hl:ns.length=ms.length):(500<aK (aR (zw Prod.mk ns (ms.map λm=>m.take 501)))/\500<aK (aR (zw Prod.mk ns ms)))\/zw Prod.mk ns (ms.map λm=>m.take 501)=zw Prod.mk ns ms:=by
 by_cases h:∀m∈ms,m.length<=501
 ·exact zf (aXl h)
 ·obtain ⟨m,hm,hb⟩ : ∃m,m∈ms/\¬m.length<=501:=Classical.byContradiction λhc=>h λm hm=>Classical.byContradiction λhb=>hc ⟨m,hm,hb⟩
  obtain ⟨n,h1⟩:=aDm hl hm;obtain ⟨n',h2⟩:=aDm (ns:=ns) (ms:=ms.map λm=>m.take 501) (by simpa using hl) (List.mem_map.2 ⟨m,hm,rfl⟩);exact ze ⟨aDi h2 (by simp;omega),aDi h1 (by simp;omega)⟩
theorem aKk{S:List TypeId}{B':Nat}{e:TypeId}{z:Nat}{v:Value}{k:Nat}{ys:List Value}{W W':World}(hr:W.ownsRow B' e z v k ys)(hg:W.grownBy W' v.ownBlock)(he:e∈S):Mv S B' W W':=Mv.of_grown hg (λk hk=>by
 obtain ⟨_,⟨rfl,_⟩ | ⟨g,cap,cur,rfl,hb,hh,_⟩⟩:=hr
 ·cases hk
 ·cases hk;exact ⟨hb,cur,_,hh,he⟩)
structure MkI(B1:Nat)(w6:World)(Z:List Lt)(k:Nat)(l:Value)(wr:World)(LQ:List (Lt×Value)):Prop where
 made:LQ.map Prod.fst=Z.take k
 row:wr.ownsRow B1 39 2 l LQ.length (bA LQ)
 atoms:∀q∈LQ,fP wr B1 q.2 q.1.2
 low:Below B1 w6 wr
def aDn(P:Tb)(a b:Nat)(rs:List Nat)(ns:List Bool)(B:Nat)(w:World)(e:Ending)(w':World):Prop:=
 ∃oa oc out yes er,e=.returned (.tuple #[.slice oa out.length oc,.bool yes,.int .i64 er])/\sU P a b rs ns out yes er/\bE w' oa out/\out.length<=16/\Below B w w'
theorem aDo(w:World):bE w none []:=tT (B:=0) (cap:=0) (P:=[]) (zm _ _ _ _) rfl (λp hp=>by simp at hp) (by simp)
theorem MkI.next{B1:Nat}{w6 wr w2 w3:World}{Z:List Lt}{k:Nat}{l l' va:Value}{LQ:List (Lt×Value)}{x:Lt}{o:Obj}(h:MkI B1 w6 Z k l wr LQ)(hk:Z[k]?=some x)(hb:Below wr.heap.size wr w2)(hz:B1<=wr.heap.size)(ha:fP w2 B1 va x.2)(ho:w3.ownsRow B1 39 2 l' (LQ.length+1) (bA LQ++[.bool x.1,va]))(hg:(w2.alloc o).grownBy w3 l.ownBlock):MkI B1 w6 Z (k+1) l' w3 (LQ++[(x,va)]):=by
 have hbA:Below w2.heap.size w2 (w2.alloc o):=(Below.refl _ w2).alloc (zz _) _;have hl:=aU h.row hb (zz _);have hm:Mv [39] B1 (w2.alloc o) w3:=aKk (aU hl hbA (zz _)) hg (by simp);have hz2:B1<=w2.heap.size:=zs hz hb.size;refine ⟨?_,?_,λq hqm=>?_,?_⟩
 ·rw [List.map_append,h.made,List.take_add_one,hk];rfl
 ·have:=ho;simpa [bA] using this
 ·rcases List.mem_append.1 hqm with hqm | hqm
  ·have hq:fP w2 B1 q.2 q.1.2:=aU (h.atoms q hqm) hb (zz _);exact hm.row (aU hq hbA (zz _)) (by decide)
  ·simp at hqm;subst hqm;exact hm.row (aU ha hbA (zz _)) (by decide)
 ·exact (h.low.trans ((hb.mono hz).trans (hbA.mono hz2))).trans (hm.below (by simp;omega))
theorem aM.at{α β:Type}{R:α->β->Prop}{l:List α}{m:List β}(h:aM R l m):∀{k:Nat} (h1:k<l.length) (h2:k<m.length),R l[k] m[k]:=by
 induction h with
 | nil=>intro k h1;simp at h1
 | cons x _ ih=>
  intro k h1 h2;cases k with
  | zero=>exact x
  | succ k=>simpa using ih (by simpa using h1) (by simpa using h2)
theorem aXm{w:World}{B:Nat}{e:TypeId}{size:Nat}{v:Value}{n:Nat}{xs:List Value}(h:w.ownsRow B e size v n xs)(hn:0<n):∃g c,v=.slice (some ⟨g,0,none⟩) n c:=by
 obtain ⟨_,⟨rfl,h2⟩ | ⟨g,cap,cur,rfl,_⟩⟩:=h
 ·omega
 ·exact ⟨g,cap,rfl⟩
theorem aXn(B tp:Nat)(v:Value)(P:Tb)(a b:Nat)(rs:List Nat)(ns:List Bool)(rv nv:Value)(w:World)(h:bU w B tp v P)(hok:gS P)(hf:P.length<=1000000)(hps:∀p∈P,p.1.parts.length<=1000000)(hsh:∀i (h:i<P.length),P[i].1.node.1.size<=1000000)(ha:a<P.length)(hb:b<P.length)(hr:dH B w rv rs)(hn:w.ownsRow B 4 1 nv ns.length (ns.map Value.bool))(hrn:ns.length=rs.length)(hr16:rs.length<=16)(hrs:∀r∈rs,r<P.length)(hB:B<=w.heap.size) :
  Calls zt 26 #[.pointer (some ⟨tp,0,none⟩),rv,nv,.int .i64 a,.int .i64 b] w λe w'=>aDn P a b rs ns B w e w':=by
 obtain ⟨iL,hL,hL0,hL1,hL2⟩:=info_parts sF;obtain ⟨ra,rc,rfl⟩:=hr.shape;obtain ⟨na,nc,rfl⟩:=aS hn;have CS:=aA (aVr B tp v P a b ha hb w h hok hf hps);have HH:=aA h;have HR:=aA hr;have HN:=aA hn;have HRS:=aA hrs;have HPS:=aA hps;have HSH:=aA hsh;have HRN:=aA hrn;clear h hr hn hrs hps hsh hrn;go_enter Tryz.func26,Tryz.ntmps26;go_wp2_with (first
  | (go_at_call 44;refine (aB CS).mono ?_)
  | go_in)
 rintro e w6 ⟨r,rfl,⟨bb,rfl,hb1,hb2⟩,hg6⟩;clear CS;have hm6:Mv [94] B w w6:=aKk HH.out.row hg6 (by simp);have hB6:Below B w w6:=hm6.below hB;have hz6:=hm6.size;have HB6:=aA hB6;cases bb with
 | false=>
  have HU:Hid (sU P a b rs ns [] false 0):=aA (ze ⟨λhh=>(by have:=hb1.2 hh;cases this),rfl,rfl,rfl⟩);clear hb1 hb2 hg6 hm6 hB6;go_wp2;refine bodyPost_ret (v:=.tuple #[.slice none 0 0,.bool false,.int .i64 0]) (by simp [results,zk,go_sem]) rfl ?_;exact ⟨none,0,[],false,0,rfl,HU.out,aDo _,by simp,HB6.out⟩
 | true=>
  have hyes:=hb1.1 rfl;obtain ⟨Q,hQt,hSh,hgr,hQok,hcls⟩:=hb2 rfl;have hcf:aZ Q=Cl (aV P) (iO P a b):=by funext i j;exact propext (hcls i j)
  have hD:eK (aV Q) (aZ Q):=by rw [hgr,hcf];exact Cl.isDown _ _
  have hNC:dW (aV Q) (aZ Q):=by rw [hgr,hcf];exact hyes.1
  have hlQ:Q.length=P.length:=hSh.len;obtain ⟨ms,hms⟩ : ∃ms,aM (λr m=>aL (aV Q) (aZ Q) (nN Q) [r] m) rs ms:=by
   have key:∀rs:List Nat,(∀r∈rs,r<P.length)->∃ms,aM (λr m=>aL (aV Q) (aZ Q) (nN Q) [r] m) rs ms:=by
    intro rs;induction rs with
    | nil=>intro _;exact ⟨[],aM.nil⟩
    | cons r rs ih=>
     intro hh;obtain ⟨ms,i1⟩:=ih λx hx=>hh x (by simp [hx])
     obtain ⟨m,hm⟩:=(hyes.2 r (hh r (by simp))).exp (rep:=nN Q);exact ⟨m :: ms,aM.cons (by rw [hgr,hcf];exact hm) i1⟩
   exact key rs HRS.out
  have hml:=hms.length;have HANS:Hid (∀(l:List Lt) (y:Bool) (e:Int),((500<aK (aR (zw Prod.mk ns ms))/\l=[]/\y=false/\e=4)\/(aK (aR (zw Prod.mk ns ms))<=500/\l=aR (zw Prod.mk ns ms)/\y=true/\e=0))->sU P a b rs ns l y e):=aA λl y e hh=>zf ⟨hyes,nN Q,ms,λp q=>(aCo hQok p q).trans (hcls p q),by have hh:=hms;rw [hgr,hcf] at hh;exact hh,hh⟩
  have hsz:∀m∈ms,∀n∈m,n.1.size<=1000000:=by
   intro m hm n hn;obtain ⟨r,_,hr⟩:=hms.mem_right hm;rcases aUe hr n hn with e | ⟨i,hi,rfl⟩
   ·rw [e];exact zq _
   ·rw [(hSh.row i (by omega) hi).2.2];exact HSH.out i (by omega)
  have hr6:dH B w6 (.slice ra rs.length rc) rs:=hm6.row HR.out (by decide);have hn6:=hm6.row HN.out (by decide);have hmn:ns.length=ms.length:=HRN.out.trans hml;obtain ⟨Z,hZ⟩ : ∃Z,zw Prod.mk ns (ms.map λm=>m.take 501)=Z:=⟨_,rfl⟩;have hZl:Z.length=rs.length:=by rw [<-hZ];simp;omega
  have hZat:∀k (h1:k<ns.length) (h2:k<ms.length),Z[k]?=some (ns[k],(ms[k]).take 501):=λk h1 h2=>by rw [<-hZ,List.getElem?_zipWith];simp [h1,h2]
  have hCN:∀(k:Nat) (hk:k<rs.length) (hk2:k<ms.length) (wr:World),Below w6.heap.size w6 wr->Calls zt 45 #[.pointer (some ⟨tp,0,none⟩),.slice none 0 0,.int .i64 (rs[k]:Nat)] wr λe w'=>∃xa xn xc,e=.returned (.slice xa xn xc)/\fP w' w6.heap.size (.slice xa xn xc) ((ms[k]).take 501)/\Below wr.heap.size wr w':=λk hk hk2 wr hbr=>by
   refine (aU6 B tp v Q hQok hD hNC (by rw [hlQ];exact hf) (λp hp=>by
    obtain ⟨i,hi,rfl⟩:=List.getElem_of_mem hp;rw [(hSh.row i (by omega) hi).2.1];exact HPS.out _ (zu _)) wr (hQt.below hbr) wr.heap.size (zz _) (ms[k].length+1) rs[k] ms[k] [] (.slice none 0 0) wr (by omega) (hms.at hk hk2) (by rw [hlQ];exact HRS.out _ (zu _)) (Below.refl _ _) (zz _) (zm _ _ _ _) (by simp)).mono ?_
   rintro e w' ⟨vo,rfl,h1,h2⟩;rw [List.nil_append] at h1;obtain ⟨xa,xc,rfl⟩:=aS h1;exact ⟨xa,_,xc,rfl,dN h1 hbr.size,h2⟩
  have HCN:=aA hCN;have HR6:=aA hr6;have HN6:=aA hn6;have HZat:=aA hZat;have HMN:=aA hmn;have HML:=aA hml;have HSZ:=aA hsz;have HZ:=aA hZ;have HZL:=aA hZl;clear hb1 hb2 hyes hQt hSh hgr hQok hcls hcf hD hNC hlQ hms hsz hr6 hn6 hCN hm6 hg6 hZat hmn hml hB6 hZ hZl HH HPS HSH HR HN;go_wp2;go_loopw [14,15] (λl i wr=>∃(k:Nat) (LQ:List (Lt×Value)),i=.int .i64 k/\k<=rs.length/\MkI w6.heap.size w6 Z k l wr LQ) (λ_ i _=>rs.length-(intOf i).toNat);case atStart=>exact ⟨0,[],rfl,zq _,⟨rfl,zm _ _ _ _,λq hq=>by simp at hq,Below.refl _ _⟩⟩
  case round=>
   obtain ⟨k,LQ,rfl,hk,hI⟩:=hrel;obtain ⟨la,lc,rfl⟩:=aS hI.row;have hLQ:LQ.length<=16:=by have:=congrArg List.length hI.made;simp at this;omega
   by_cases hlt:k<rs.length
   ·obtain ⟨gr,e1,c1⟩:=HR6.out.cell hlt;subst e1;have hkn:k<ns.length:=by have:=HRN.out;omega
    have hkm:k<ms.length:=by have:=HML.out;omega
    have hn6:=HN6.out;obtain ⟨gn,ncp,e2⟩:=aXm hn6 (by omega);simp at e2;obtain ⟨rfl,rfl⟩:=e2;have c2:w6.cell? ⟨gn,k,none⟩=some (.bool ns[k]):=by rw [hn6.cellAt k (by omega)];simp [hkn]
    have d1:=Below.at' hI.low (zz _) c1;have CN:=aA (HCN.out k hlt hkm wr hI.low);have hki:(k:Int)<(rs.length:Int):=by omega
    have hkj:(k:Int)<(ns.length:Int):=by omega
    have HC2:=aA c2;have HI:=aA hI;have HX:=aA (HZat.out k hkn hkm);have hB1:=hI.low.size;have nsk:∃nb,ns[k]=nb:=⟨_,rfl⟩;obtain ⟨nb,hnb⟩:=nsk;rw [hnb] at HC2 HX;obtain ⟨rk,hrk⟩ : ∃rk,rs[k]=rk:=⟨_,rfl⟩;rw [hrk] at d1 CN;clear hI c1 c2 hn6 hnb hrk;go_wp2_with (first
     | (at_builtin;refine wpList_append_own _ rfl (.tmp 36) (.tmp 43) 22 rfl w6.heap.size 39 iL (.agg #[.bool false,.slice none 0 0]) 2 32 Tryz.underlying22 hL hL0 hL1 hL2 rfl (by decide) _ _ _ rfl (HL2.out.alloc _) ⟨w2.heap.size,0,none⟩ 1 1 [.bool nb,.slice xa xn xc] rfl rfl (gK w2 _ _ _ _ rfl) (sG _ _ _ _) (by unfold maxLen;omega) (by omega) (by simp;omega) ?_;intro v3 w3 ho3 hg3 _;have G:=aA (HI.out.next HX.out HB2.out hB1 HO2.out ho3 hg3);clear ho3 hg3)
     | (go_at_call 45;refine (aB CN).mono ?_;rintro e w2 ⟨xa,xn,xc,rfl,ho2,hb2⟩;have hz2:=hb2.size;have d2:=Below.at' (HI.out.low.trans (hb2.mono hB1)) (zz _) HC2.out;have HL2:=aA (aU HI.out.row hb2 (zz _));have HO2:=aA ho2;have HB2:=aA hb2;clear ho2 hb2)
     | go_in)
    exact ⟨⟨k+1,_,by go_num,by omega,G.out⟩,by simp [intOf];omega⟩
   ·have hkz:Z.take k=Z:=zx (by have:=HZL.out;omega);have hmade:LQ.map Prod.fst=Z:=by rw [hI.made,hkz]
    have hZs:∀x∈Z,dS x.2/\x.2.length<=501:=by intro x hx;rw [<-HZ.out] at hx;obtain ⟨m,hm,e⟩:=aKi hx;obtain ⟨m',hm',rfl⟩:=List.mem_map.1 hm;rw [e];refine ⟨λn hn=>HSZ.out m' hm' n (List.mem_of_mem_take hn),?_⟩;simp;omega
    have hZc:aK Z<=100000:=by have h1:=vT (m:=501) (λx hx=>(hZs x hx).2);have:=HZL.out;omega
    have hlit:bE wr la Z:=by
     have hlen:LQ.length=Z.length:=by rw [<-hmade];simp
     refine tT (P:=LQ) (cap:=lc) (by rw [<-hlen];exact hI.row) hmade (λq hq=>?_) (by omega);have hqz:q.1∈Z:=by rw [<-hmade];exact zj hq
     obtain ⟨aa,cpp,e,hx⟩:=rT (hI.atoms q hq) (by have:=(hZs _ hqz).2;omega) (λk hk=>zs ((hZs _ hqz).1 _ (zu hk)) (by decide));exact ⟨aa,cpp,e,hx⟩
    have hlen:LQ.length=Z.length:=by rw [<-hmade];simp
    have CO:=aA (aI6 la lc Z wr hlit (by omega));rw [<-hlen] at CO;have HB:=aA (HB6.out.trans (hI.low.mono (zs hB hz6)));obtain ⟨o1,o2,o3⟩:=aIh Z (λx hx=>(hZs x hx).1);have hol:(aR Z).length<=16:=by have:=HZL.out;omega
    have hoc:aK (aR Z)<=1000000:=by omega
    have HO1:=aA o1;have HOL:Hid (∀x∈aR Z,x.2.length<=100000):=aA λx hx=>by
     have h1:x.2.length<=aK (aR Z):=by
      have:∀(c:List Lt),x∈c->x.2.length<=aK c:=by
       intro c;induction c with
       | nil=>intro h;simp at h
       | cons y r ih=>
        intro h;simp [aK] at ih ⊢;rcases zi.1 h with rfl | h
        ·omega
        ·have:=ih h;omega
      exact this _ hx
     omega
    have HI:=aA hI;clear hI hkz hmade hZs hlit hlen o1 o2 o3;generalize LQ.length=ln at *;go_wp2_with (first
     | (go_at_call 43;refine (aB CO).mono ?_)
     | go_in)
    rintro e w4 ⟨v4,Q4,rfl,hq4,hr4,ha4,hb4⟩;obtain ⟨va4,vc4,rfl⟩:=aS hr4;have hlen4:Q4.length=(aR Z).length:=by rw [<-hq4];simp
    have hlit4:bE w4 va4 (aR Z):=by
     refine tT (P:=Q4) (cap:=vc4) (by rw [<-hlen4];exact hr4) hq4 (λq hq=>?_) (by omega);have hqz:q.1∈aR Z:=by rw [<-hq4];exact zj hq
     obtain ⟨aa,cpp,e,hx⟩:=rT (ha4 q hq) (by have:=HOL.out _ hqz;omega) (λk hk=>zs (HO1.out _ hqz _ (zu hk)) (by decide));exact ⟨aa,cpp,e,hx⟩
    have CC:=aA (aXk va4 vc4 (aR Z) w4 hlit4 hoc);have HL4:=aA hlit4;have HB4:=aA (HB.out.trans (hb4.mono (zs hB (zs hz6 HI.out.low.size))));rw [hlen4];clear CO hr4 ha4 hb4 hlit4 hlen4 hq4 HI HB HO1 HOL;by_cases hbig:500<aK (aR Z)
    ·have HU:Hid (sU P a b rs ns [] false 4):=aA (HANS.out [] false 4 (ze ⟨by
      rcases aKj (ns:=ns) (ms:=ms) HMN.out with ⟨_,h⟩ | h
      ·exact h
      ·rw [<-h,HZ.out];exact hbig,rfl,rfl,rfl⟩))
     generalize aK (aR Z)=cn at *;generalize (aR Z).length=on at *;have hbi:(500:Int)<(cn:Int):=by omega
     go_wp2_with (first
      | (go_at_call 46;refine (aB CC).mono ?_;rintro e w5 ⟨rfl,rfl⟩)
      | go_in)
     refine bodyPost_ret (v:=.tuple #[.slice none 0 0,.bool false,.int .i64 4]) (by simp [results,zk,go_sem]) rfl ?_;exact ⟨none,0,[],false,4,rfl,HU.out,aDo _,by simp,HB4.out⟩
    ·have HU:Hid (sU P a b rs ns (aR Z) true 0):=aA (HANS.out (aR Z) true 0 (zf (by
      rcases aKj (ns:=ns) (ms:=ms) HMN.out with ⟨h,_⟩ | h
      ·rw [HZ.out] at h;exact absurd h hbig
      ·rw [<-h,HZ.out];exact ⟨by omega,rfl,rfl,rfl⟩)))
     have HFIN:Hid (aDn P a b rs ns B w (.returned (.tuple #[.slice va4 (aR Z).length vc4,.bool true,.int .i64 0])) w4):=aA ⟨va4,vc4,aR Z,true,0,rfl,HU.out,HL4.out,hol,HB4.out⟩;generalize aK (aR Z)=cn at *;have hbi:¬(500:Int)<(cn:Int):=by omega
     clear HU HL4 HB4;go_wp2_with (first
      | (go_at_call 46;refine (aB CC).mono ?_;rintro e w5 ⟨rfl,rfl⟩)
      | go_in)
     refine bodyPost_ret (v:=.tuple #[.slice va4 (aR Z).length vc4,.bool true,.int .i64 0]) (by simp [results,zk,go_sem]) rfl ?_;exact HFIN.out
end
section
open Go.RowKit Go.Shelf
theorem aXo(c:List Lt)(k:Nat)(h:k<c.length)(n:Nat)(hn:n<c[k].2.length)(x:Int)(hx:eR (c[k].2.take n) (mB (c.take k))=some x)(hb:iY (some x) c[k].2[n]=none):mB c=none:=by
 rw [aQv c k,zn h,List.foldl_cons,aQu c[k].2 _ n,hx,zn hn];have:eR (c[k].2[n] :: c[k].2.drop (n+1)) (some x)=none:=by show eR (c[k].2.drop (n+1)) (iY (some x) c[k].2[n])=none;rw [hb,aC0]
 rw [this,aH1]
theorem aXp(a:Option Addr)(cp:Nat)(c:List Lt)(w:World)(h:bE w a c)(h60:aK c<=60) :
  Calls zt 87 #[.slice a c.length cp] w λe w'=>e=.returned (.bool (mB c).isSome)/\Below w.heap.size w w':=by
 have hf:=h.few;have HH:=aA h;clear h;go_enter Tryz.func87,Tryz.ntmps87;go_wp2;go_loopw [3,10] (λnx i wr=>∃(k:Nat) (x:Int),k<=c.length/\i=.int .i64 k/\nx=.int .i64 x/\0<=x/\x<=aK (c.take k)/\mB (c.take k)=some x/\Below w.heap.size w wr) (λ_ i _=>c.length-(intOf i).toNat);case atStart=>exact ⟨0,0,zq _,rfl,rfl,by omega,by simp,rfl,Below.refl _ _⟩
 case round=>
  obtain ⟨k,x,hk,rfl,rfl,hx0,hx1,hnc,hb⟩:=hrel;have hct:=sE c k;by_cases hlt:k<c.length
  ·obtain ⟨b,q,aa,acp,rfl,e1,f1,g1⟩:=HH.out.cell k hlt;have e2:=Below.at' hb (zz _) e1;have f2:=Below.at' hb (zz _) f1;have hcs:=sE c (k+1);rw [zy hlt,oM] at hcs;have HS:=aA (aQt c k hlt);have HCS:Hid (aK (c.take (k+1))=aK (c.take k)+c[k].2.length):=by
    rw [zy hlt,oM];exact rfl
   have HE:=aA (λn hn y=>aXo c k hlt n hn y);rw [hnc] at HS HE;have HG:=aA g1;have HB:=aA hb;have hbs:=hb.size;generalize c[k]=z at *;obtain ⟨zb,zl⟩:=z;simp only at e2 f2 HS HE HG HCS hcs;have hzl:=HG.out.few;clear e1 f1 g1 hb hnc;go_wp2;go_loopw [3,17] (λnx j wi=>∃(n:Nat) (y:Int),n<=zl.length/\j=.int .i64 n/\nx=.int .i64 y/\0<=y/\y<=aK (c.take k)+n/\eR (zl.take n) (some x)=some y/\Below w.heap.size w wi) (λ_ j _=>zl.length-(intOf j).toNat);case atStart=>exact ⟨0,x,zq _,rfl,rfl,hx0,by omega,rfl,HB.out.alloc hbs _⟩
   case round=>
    obtain ⟨n,y,hn,rfl,rfl,hy0,hy1,hny,hb2⟩:=hrel;by_cases hnl:n<zl.length
    ·obtain ⟨b3,o3,rfl,e3,f3⟩:=HG.out.cell n hnl;have q3:=Below.at' hb2 (zz _) e3;have q4:=Below.at' hb2 (zz _) f3;have HT:=aA (aQs zl (some x) n hnl);have HX:=aA (HE.out n hnl y hny);rw [hny] at HT;generalize zl[n]=nd at *;obtain ⟨s,v⟩:=nd;simp only at q3 q4;have CV:=aA (λwx=>qS s v wx);have HB2:=aA hb2;have hb2s:=hb2.size;clear e3 f3 hny hb2;cases hv:s.toList.isEmpty
     ·have HN:Hid (iY (some y) (s,v)=some y):=aA (by simp [iY,aF,hv]);rw [hv] at CV;rw [HN.out] at HT;clear hv HX HN;go_wp2_with (go_at_call 83;refine (aB CV _).mono ?_;rintro e w1 ⟨rfl,hb1⟩;obtain ⟨r1,r2,r3⟩:=jR hb1;have HB3:=aA (HB2.out.trans (r3.mono hb2s));clear hb1 r3);go_roundw;case rel=>exact ⟨n+1,y,by omega,by go_num,rfl,hy0,by omega,HT.out,HB3.out⟩
      case measure=>simp [intOf];omega
     ·rw [hv] at CV;by_cases h1:y<v
      ·have HN:=aA (HX.out (by simp [iY,aF,hv,h1]));clear hv HX HT;go_wp2_with (go_at_call 83;refine (aB CV _).mono ?_;rintro e w1 ⟨rfl,hb1⟩;obtain ⟨r1,r2,r3⟩:=jR hb1;have HB3:=aA (HB2.out.trans (r3.mono hb2s));clear hb1 r3);go_ret;exact ⟨cI (by rw [HN.out];rfl),HB3.out⟩
      ·by_cases h2:v=y
       ·have HN:Hid (iY (some y) (s,v)=some (y+1)):=aA (by simp [iY,aF,hv,h2]);rw [HN.out] at HT;have h2':(v == y)=true:=by simp [h2]
        clear hv HX HN h2;go_wp2_with (go_at_call 83;refine (aB CV _).mono ?_;rintro e w1 ⟨rfl,hb1⟩;obtain ⟨r1,r2,r3⟩:=jR hb1;have HB3:=aA (HB2.out.trans (r3.mono hb2s));clear hb1 r3);go_roundw;case rel=>exact ⟨n+1,y+1,by omega,by go_num,by go_num,by omega,by omega,HT.out,HB3.out⟩
        case measure=>simp [intOf];omega
       ·have HN:Hid (iY (some y) (s,v)=some y):=aA (by simp only [iY,aF,hv,if_true,if_neg h1,if_neg h2]);rw [HN.out] at HT;have h2':(v == y)=false:=by simp [h2]
        clear hv HX HN h2;go_wp2_with (go_at_call 83;refine (aB CV _).mono ?_;rintro e w1 ⟨rfl,hb1⟩;obtain ⟨r1,r2,r3⟩:=jR hb1;have HB3:=aA (HB2.out.trans (r3.mono hb2s));clear hb1 r3);go_roundw;case rel=>exact ⟨n+1,y,by omega,by go_num,rfl,hy0,by omega,HT.out,HB3.out⟩
        case measure=>simp [intOf];omega
    ·have hn1:zl.take n=zl:=zx (by omega);rw [hn1] at hny;have HN:=aA (HS.out.trans hny);have HB2:=aA hb2;have hnn:n=zl.length:=by omega
     have hyy:y<=aK (c.take k)+zl.length:=by omega
     clear hny hb2 hn1 HE HS;go_wp2;go_roundw;case rel=>exact ⟨k+1,y,by omega,by go_num,rfl,hy0,by rw [HCS.out];omega,HN.out,HB2.out⟩
     case measure=>simp [intOf];omega
  ·have hk1:c.take k=c:=zx (by omega);rw [hk1] at hnc;have HN:=aA hnc;have HB:=aA hb;clear hk1 hnc hb;go_wp2;go_ret;exact ⟨cI (by rw [HN.out];rfl),HB.out⟩
theorem aXq(a:Option Addr)(cp:Nat)(c:List Lt)(w:World)(h:bE w a c)(h60:aK c<=60)(hn:∀x∈c,pC x.2) :
  Calls zt 55 #[.slice a c.length cp] w λe w'=>e=.returned (.bool (decide (c=aR c)))/\Below w.heap.size w w':=by
 have HE:=aA (aR4 c hn);have CD:=aA (aHk a cp c w h);have hf:=h.few;have hdb:=(qQ c).1;have CN:=aA (λwx (hx:bE wx a c)=>aXp a cp c wx hx h60);have HH:=aA h;clear h hn;by_cases hl:(cK c).length=c.length
 ·have hle:(((cK c).length:Int) == (c.length:Int))=true:=by rw [beq_iff_eq];omega
  have HR:Hid (decide (c=aR c)=(mB c).isSome):=aA (by rw [HE.out,hl];simp);clear hl;generalize hdl:(cK c).length=m at *;go_enter Tryz.func55,Tryz.ntmps55;go_wp2_with (first
   | (go_at_call 85;refine (aB CD).mono ?_;rintro e w1 ⟨v,P,rfl,hP,hA,ho,hb⟩;obtain ⟨va,vcp,rfl⟩:=aS ho;have hPl:P.length=m:=(by rw [<-hdl,<-hP];simp);rw [hPl];have HB:=aA hb;have hbs:=hb.size;clear hP hA ho hb hPl)
   | (go_at_call 87;refine (aB CN _ (HH.out.below HB.out (zz _))).mono ?_;rintro e w2 ⟨rfl,hb2⟩;have HB2:=aA (HB.out.trans (hb2.mono hbs));clear hb2))
  go_ret;exact ⟨cI HR.out.symm,HB2.out⟩
 ·have hle:(((cK c).length:Int) == (c.length:Int))=false:=by rw [beq_eq_false_iff_ne];omega
  have HR:Hid (decide (c=aR c)=false):=aA (by rw [HE.out];simp [hl]);clear hl;generalize hdl:(cK c).length=m at *;go_enter Tryz.func55,Tryz.ntmps55;go_wp2_with (first
   | (go_at_call 85;refine (aB CD).mono ?_;rintro e w1 ⟨v,P,rfl,hP,hA,ho,hb⟩;obtain ⟨va,vcp,rfl⟩:=aS ho;have hPl:P.length=m:=(by rw [<-hdl,<-hP];simp);rw [hPl];have HB:=aA hb;clear hP hA ho hb hPl))
  go_ret;exact ⟨cI HR.out.symm,HB.out⟩
theorem aDp(a:Option Addr)(cp:Nat)(c:List Lt)(w:World)(h:bE w a c)(hT:jF w) :
  Calls zt 35 #[.slice a c.length cp] w λe w'=>e=.returned (.bool (dI c))/\Below w.heap.size w w':=by
 have hf:=h.few;have cF:=zQ a cp c w h;have HT:=aA hT;have HH:=aA h;clear hT;by_cases hfit:dP c=true
 ·have hcount:c.length<=8/\aK c<=60:=by simpa [dP] using hfit
  rw [hfit] at cF;have HF:=aA cF;have HE:Hid (dI c=((c.all λl=>fQ l.2) && decide (c=aR c))):=by unfold dI;rw [hfit];exact Bool.true_and _▸rfl
  obtain ⟨h8,h60⟩:=hcount;clear cF hfit h;go_enter Tryz.func35,Tryz.ntmps35;go_wp2_with (go_at_call 53;refine (aB HF).mono ?_;rintro e w0 ⟨rfl,hb0⟩);go_loopw [10] (λi wr=>∃k:Nat,k<=c.length/\i=.int .i64 k/\Below w.heap.size w wr/\((c.take k).all λl=>fQ l.2)=true) (λi _=>c.length-(intOf i).toNat);case atStart=>exact ⟨0,zq _,rfl,hb0,rfl⟩
  case round=>
   obtain ⟨k,hk,rfl,hb,hall⟩:=hrel;by_cases hlt:k<c.length
   ·obtain ⟨b,q,aa,acp,rfl,e1,f1,g1⟩:=HH.out.cell k hlt;have e2:=Below.at' hb (zz _) e1;have f2:=Below.at' hb (zz _) f1;have HSN:Hid (((c.take (k+1)).all λl=>fQ l.2)=fQ c[k].2):=by
     rw [zy hlt,List.all_append,hall];exact Bool.and_true _▸rfl
    have HN:Hid (fQ c[k].2=false->dI c=false):=λhx=>by
     rw [HE.out,Bool.and_eq_false_iff];left;rw [List.all_eq_false];exact ⟨c[k],zu _,by simp [hx]⟩
    have hbs:=hb.size;generalize c[k]=x at *;obtain ⟨xb,xl⟩:=x;simp only at e2 f2 g1;have hbx:Below w.heap.size w (wr.alloc (.cells #[.bool xb,.slice aa xl.length acp] 39)):=hb.alloc hbs _;have cA:=aQr aa acp xl _ (g1.below hbx (zz _)) (HT.out.below hbx (zz _));have HBX:=aA hbx;clear e1 f1 hall hb g1 hbx;cases ha:fQ xl
    ·rw [ha] at cA;have HV:=aA (HN.out ha);have CA:=aA cA;clear cA ha HN HSN;go_wp2_with (go_at_call 54;refine (aB CA).mono ?_;rintro e w1 ⟨rfl,hb1⟩;have HB1:=aA (HBX.out.trans (hb1.mono HBX.out.size));clear hb1);go_ret;exact ⟨cI HV.out.symm,HB1.out⟩
    ·rw [ha] at cA;have HV:=aA (HSN.out.trans ha);have CA:=aA cA;clear cA ha HN HSN;go_wp2_with (go_at_call 54;refine (aB CA).mono ?_;rintro e w1 ⟨rfl,hb1⟩;have HB1:=aA (HBX.out.trans (hb1.mono HBX.out.size));clear hb1);go_roundw;case rel=>exact ⟨k+1,by omega,by go_num,HB1.out,HV.out⟩
     case measure=>simp [intOf];omega
   ·have hk1:c.take k=c:=zx (by omega);rw [hk1] at hall;have HA:Hid (dI c=decide (c=aR c)):=by rw [HE.out,hall];exact Bool.true_and _▸rfl
    have hnn:∀x∈c,pC x.2:=λx hx=>aR5 (List.all_eq_true.1 hall x hx)
    have CO:=aA (aXq a cp c wr (HH.out.below hb (zz _)) h60 hnn);have HB:=aA hb;have hbs:=hb.size;clear hk1 hall hb hnn;go_wp2_with (go_at_call 55;refine (aB CO).mono ?_;rintro e w1 ⟨rfl,hb1⟩;have HB1:=aA (HB.out.trans (hb1.mono hbs));clear hb1);go_ret;exact ⟨cI HA.out.symm,HB1.out⟩
 ·have hfit':dP c=false:=by simpa using hfit
  rw [hfit'] at cF;have HE:Hid (dI c=false):=by unfold dI;rw [hfit'];rfl
  have HF:=aA cF;clear cF hfit hfit' h;go_enter Tryz.func35,Tryz.ntmps35;go_wp2_with (go_at_call 53;refine (aB HF).mono ?_;rintro e w' ⟨rfl,hb⟩;have HB:=aA hb;clear hb);go_ret;exact ⟨cI HE.out.symm,HB.out⟩
end
section
open Go.RowKit Go.Shelf Go.WideMaps
def aDq(c d:List Lt)(i j:Int)(a b:Nat):Prop:=∃(ha:a<c.length) (hb:b<d.length),i=a/\j=b/\c[a].1≠d[b].1
def pQ(c d:List Lt)(i j:Int)(out:List Lt)(yes:Bool)(e:Int):Prop:=
 (¬(dI c=true/\dI d=true)/\out=[]/\yes=false/\e=5)\/
 (dI c=true/\dI d=true/\(((¬∃a b,aDq c d i j a b)/\out=[]/\yes=false/\e=6)\/
  ∃a b,aDq c d i j a b/\eY (aO 0 (c.getD a default).2++aO 1 (d.getD b default).2) 0 (c.getD a default).2.length (bG 0 [(c,a),(d,b)]) out yes e))
def aAj(c:List Lt)(i j:Int)(a b:Nat):Prop:=∃(ha:a<c.length) (hb:b<c.length),i=a/\j=b/\a<b/\c[a].1=c[b].1
def kY(c:List Lt)(i j:Int)(out:List Lt)(yes:Bool)(e:Int):Prop:=
 (dI c=false/\out=[]/\yes=false/\e=5)\/
 (dI c=true/\(((¬∃a b,aAj c i j a b)/\out=[]/\yes=false/\e=6)\/
  ∃a b,aAj c i j a b/\eY (aO 0 (c.getD a default).2++aO 0 (c.getD b default).2) 0 (c.getD a default).2.length (bG 0 [(c,b)]) out yes e))
theorem pQ.one{c d:List Lt}{i j:Int}{o o':List Lt}{y y':Bool}{e e':Int}(h:pQ c d i j o y e)(h':pQ c d i j o' y' e'):o=o'/\y=y'/\e=e':=by
 rcases h with ⟨h1,rfl,rfl,rfl⟩ | ⟨h1,h2,h⟩
 ·rcases h' with ⟨_,rfl,rfl,rfl⟩ | ⟨h3,h4,_⟩
  ·exact ⟨rfl,rfl,rfl⟩
  ·exact absurd ⟨h3,h4⟩ h1
 ·rcases h' with ⟨h3,_⟩ | ⟨_,_,h'⟩
  ·exact absurd ⟨h1,h2⟩ h3
  ·rcases h with ⟨h3,rfl,rfl,rfl⟩ | ⟨a,b,hp,h⟩
   ·rcases h' with ⟨_,rfl,rfl,rfl⟩ | ⟨a,b,hp,_⟩
    ·exact ⟨rfl,rfl,rfl⟩
    ·exact absurd ⟨a,b,hp⟩ h3
   ·rcases h' with ⟨h3,_⟩ | ⟨a',b',hp',h'⟩
    ·exact absurd ⟨a,b,hp⟩ h3
    ·obtain ⟨_,_,p1,p2,_⟩:=hp;obtain ⟨_,_,q1,q2,_⟩:=hp';obtain rfl:a=a':=by omega
     obtain rfl:b=b':=by omega
     exact aAc h h'
theorem kY.one{c:List Lt}{i j:Int}{o o':List Lt}{y y':Bool}{e e':Int}(h:kY c i j o y e)(h':kY c i j o' y' e'):o=o'/\y=y'/\e=e':=by
 rcases h with ⟨h1,rfl,rfl,rfl⟩ | ⟨h1,h⟩
 ·rcases h' with ⟨_,rfl,rfl,rfl⟩ | ⟨h3,_⟩
  ·exact ⟨rfl,rfl,rfl⟩
  ·rw [h1] at h3;cases h3
 ·rcases h' with ⟨h3,_⟩ | ⟨_,h'⟩
  ·rw [h1] at h3;cases h3
  ·rcases h with ⟨h3,rfl,rfl,rfl⟩ | ⟨a,b,hp,h⟩
   ·rcases h' with ⟨_,rfl,rfl,rfl⟩ | ⟨a,b,hp,_⟩
    ·exact ⟨rfl,rfl,rfl⟩
    ·exact absurd ⟨a,b,hp⟩ h3
   ·rcases h' with ⟨h3,_⟩ | ⟨a',b',hp',h'⟩
    ·exact absurd ⟨a,b,hp⟩ h3
    ·obtain ⟨_,_,p1,p2,_⟩:=hp;obtain ⟨_,_,q1,q2,_⟩:=hp';obtain rfl:a=a':=by omega
     obtain rfl:b=b':=by omega
     exact aAc h h'
def jL(S:List Lt->Bool->Int->Prop)(w:World)(e:Ending)(w':World):Prop:=
 ∃v out yes er,e=.returned (.tuple #[v,.bool yes,.int .i64 er])/\S out yes er/\bM w.heap.size w' v out/\out.length<=100/\Below w.heap.size w w'
theorem jL.none{S:List Lt->Bool->Int->Prop}{w w':World}{er:Int}(h:S [] false er)(hb:Below w.heap.size w w'):jL S w (.returned (.tuple #[.slice none 0 0,.bool false,.int .i64 er])) w':=
 ⟨_,[],false,er,rfl,h,bM.nil _ _,by simp,hb⟩
theorem aAk(a:Option Addr)(n cp:Nat)(i:Int)(w:World):Calls zt 36 #[.slice a n cp,.int .i64 i] w λe w'=>e=.returned (.bool (decide (0<=i/\i<n)))/\w'=w:=by
 by_cases h0:0<=i
 ·by_cases h1:i<n
  ·have:decide (0<=i/\i<n)=true:=by simp [h0,h1]
   rw [this];go_enter zg,zh;go_wp2;go_ret;exact ⟨rfl,rfl⟩
  ·have:decide (0<=i/\i<n)=false:=by simp [h1]
   rw [this];go_enter zg,zh;go_wp2;go_ret;exact ⟨rfl,rfl⟩
 ·have:decide (0<=i/\i<n)=false:=by simp [h0]
  rw [this];go_enter zg,zh;go_wp2;go_ret;exact ⟨rfl,rfl⟩
theorem aXr(a1 a2:Option Addr)(c1 c2:Nat)(c d:List Lt)(i j:Int)(w:World)(h1:bE w a1 c)(h2:bE w a2 d)(hT:jF w) :
  Calls zt 22 #[.slice a1 c.length c1,.int .i64 i,.slice a2 d.length c2,.int .i64 j] w λe w'=>jL (pQ c d i j) w e w':=by
 have CI1:=aA (aDp a1 c1 c w h1 hT);have HT:=aA hT;have H1:=aA h1;have H2:=aA h2;clear h1 h2 hT;cases i1:dI c with
 | false=>
  have HR:Hid (pQ c d i j [] false 5):=aA (ze ⟨by simp [i1],rfl,rfl,rfl⟩);rw [i1] at CI1;clear i1;go_enter zp,zr;go_wp2_with (go_at_call 35;refine (aB CI1).mono ?_;rintro e w1 ⟨rfl,hb1⟩;have HB1:=aA hb1;clear hb1);go_returns;exact jL.none HR.out HB1.out
 | true=>
  rw [i1] at CI1;have CI2:=aA (λwx (hx:Below w.heap.size w wx)=>aDp a2 c2 d wx (H2.out.below hx (zz _)) (HT.out.below hx (zz _)));cases i2:dI d with
  | false=>
   have HR:Hid (pQ c d i j [] false 5):=aA (ze ⟨by simp [i2],rfl,rfl,rfl⟩);rw [i2] at CI2;clear i1 i2;go_enter zp,zr;go_wp2_with (first
    | (go_at_call 35;refine (aB CI2 _ HB1.out).mono ?_;rintro e w2 ⟨rfl,hb2⟩;have HB2:=aA (HB1.out.trans (hb2.mono hb1s));clear hb2)
    | (go_at_call 35;refine (aB CI1).mono ?_;rintro e w1 ⟨rfl,hb1⟩;have HB1:=aA hb1;have hb1s:=hb1.size;clear hb1))
   go_returns;exact jL.none HR.out HB2.out
  | true=>
   rw [i2] at CI2;have HI:=aA (And.intro i1 i2);have P1:=aA (λwx=>aAk a1 c.length c1 i wx);have P2:=aA (λwx=>aAk a2 d.length c2 j wx);have HBAD:Hid ((¬∃a b,aDq c d i j a b)->pQ c d i j [] false 6):=aA λhn=>zf ⟨i1,i2,ze ⟨hn,rfl,rfl,rfl⟩⟩
   clear i1 i2;by_cases hi:0<=i/\i<c.length
   ·rw [decide_eq_true hi] at P1;obtain ⟨a,rfl⟩ : ∃a:Nat,i=a:=⟨i.toNat,by omega⟩;have ha:a<c.length:=by omega
    by_cases hj:0<=j/\j<d.length
    ·rw [decide_eq_true hj] at P2;obtain ⟨b,rfl⟩ : ∃b:Nat,j=b:=⟨j.toNat,by omega⟩;have hb:b<d.length:=by omega
     have hai:(a:Int)<(c.length:Int):=by omega
     have hbi:(b:Int)<(d.length:Int):=by omega
     have haz:(0:Int)<=(a:Int):=by omega
     have hbz:(0:Int)<=(b:Int):=by omega
     obtain ⟨b1,o1,aa,ac,rfl,e1,_,_⟩:=H1.out.cell a ha;obtain ⟨b2,o2,ba,bc,rfl,f1,_,_⟩:=H2.out.cell b hb;by_cases hs:c[a].1=d[b].1
     ·have HR:=aA (HBAD.out (λ⟨a',b',p1,p2,p3,p4,p5⟩=>by
       obtain rfl:a=a':=by omega
       obtain rfl:b=b':=by omega
       exact p5 hs))
      rw [hs] at e1;clear HBAD hi hj hs;go_enter zp,zr;go_upto_region 3 with (first
       | (go_at_call 35;refine (aB CI2 _ HB1.out).mono ?_;rintro e w2 ⟨rfl,hb2⟩;have HB2:=aA (HB1.out.trans (hb2.mono hb1s));clear hb2)
       | (go_at_call 35;refine (aB CI1).mono ?_;rintro e w1 ⟨rfl,hb1⟩;have HB1:=aA hb1;have hb1s:=hb1.size;clear hb1))
      have e2:=Below.at' HB2.out (zz _) e1;have f2:=Below.at' HB2.out (zz _) f1;go_quiet (first | (go_at_call_of 36 (zo (some ⟨b1,o1,none⟩) c.length c1);exact zv (aB P1 _)) | (go_at_call_of 36 (zo (some ⟨b2,o2,none⟩) d.length c2);exact zv (aB P2 _)));go_wp2;go_returns;exact jL.none HR.out (HB2.out.trans ((aI ⟨_,rfl⟩).mono HB2.out.size))
     ·have hne:(c[a].1 == d[b].1)=false:=by simpa using hs
      have hcc:=pD HI.out.1;have hdd:=pD HI.out.2;have CR:=aA (λ(wx:World) (hx:Below w.heap.size w wx)=>aK9 (some ⟨b1,o1,none⟩) (some ⟨b2,o2,none⟩) c1 c2 c d a b wx (H1.out.below hx (zz _)) (H2.out.below hx (zz _)) hcc.term hdd.term ha hb hcc.len hdd.len);have HR:Hid (∀v yes er w3 w4,Below w.heap.size w w3->vR w3 w3.heap.size (aO 0 c[a].2++aO 1 d[b].2) 0 c[a].2.length (bG 0 [(c,a),(d,b)]) v yes er w4->jL (pQ c d a b) w (.returned (.tuple #[v,.bool yes,.int .i64 er])) w4):=aA λv yes er w3 w4 hx hC=>by
       obtain ⟨out,h1,h2,h3⟩:=(hC.lift hx).out;exact ⟨v,out,yes,er,rfl,zf ⟨HI.out.1,HI.out.2,zf ⟨a,b,⟨ha,hb,rfl,rfl,hs⟩,by simpa [ha,hb] using h1⟩⟩,h2,h3,(hC.lift hx).low⟩
      clear HBAD hi hj hcc hdd;obtain ⟨ca,hca⟩ : ∃x,c[a].1=x:=⟨_,rfl⟩;obtain ⟨db,hdb⟩ : ∃x,d[b].1=x:=⟨_,rfl⟩;rw [hca] at e1;rw [hdb] at f1;rw [hca,hdb] at hne;clear hca hdb hs;go_enter zp,zr;go_upto_region 3 with (first
       | (go_at_call 35;refine (aB CI2 _ HB1.out).mono ?_;rintro e w2 ⟨rfl,hb2⟩;have HB2:=aA (HB1.out.trans (hb2.mono hb1s));clear hb2)
       | (go_at_call 35;refine (aB CI1).mono ?_;rintro e w1 ⟨rfl,hb1⟩;have HB1:=aA hb1;have hb1s:=hb1.size;clear hb1))
      have e2:=Below.at' HB2.out (zz _) e1;have f2:=Below.at' HB2.out (zz _) f1;go_quiet (first | (go_at_call_of 36 (zo (some ⟨b1,o1,none⟩) c.length c1);exact zv (aB P1 _)) | (go_at_call_of 36 (zo (some ⟨b2,o2,none⟩) d.length c2);exact zv (aB P2 _)));have hd:Below w.heap.size w (w2.drewN nq):=HB2.out.trans ((aI (w1:=w2.drewN nq) ⟨nq,rfl⟩).mono HB2.out.size);have CR2:=aA (CR.out _ hd);have HD:=aA hd;clear e1 f1 e2 f2 hd;go_wp2_with (first
       | (go_at_call 37;refine (aB CR2).mono ?_)
       | go_in)
      rintro e w4 ⟨v4,y4,r4,rfl,h4⟩;have H4:=aA (HR.out v4 y4 r4 _ w4 HD.out h4);clear h4;go_wp2;go_returns;exact H4.out
    ·rw [decide_eq_false hj] at P2;have HR:=aA (HBAD.out (λ⟨a',b',p1,p2,p3,p4,_⟩=>hj (by omega)));clear HBAD hi hj;go_enter zp,zr;go_upto_region 3 with (first
      | (go_at_call 35;refine (aB CI2 _ HB1.out).mono ?_;rintro e w2 ⟨rfl,hb2⟩;have HB2:=aA (HB1.out.trans (hb2.mono hb1s));clear hb2)
      | (go_at_call 35;refine (aB CI1).mono ?_;rintro e w1 ⟨rfl,hb1⟩;have HB1:=aA hb1;have hb1s:=hb1.size;clear hb1))
     go_quiet (first | (go_at_call_of 36 (zo a1 c.length c1);exact zv (aB P1 _)) | (go_at_call_of 36 (zo a2 d.length c2);exact zv (aB P2 _)));go_wp2;go_returns;exact jL.none HR.out (HB2.out.trans ((aI ⟨_,rfl⟩).mono HB2.out.size))
   ·rw [decide_eq_false hi] at P1;have HR:=aA (HBAD.out (λ⟨a,b,p1,p2,p3,p4,_⟩=>hi (by omega)));clear HBAD hi;go_enter zp,zr;go_upto_region 3 with (first
     | (go_at_call 35;refine (aB CI2 _ HB1.out).mono ?_;rintro e w2 ⟨rfl,hb2⟩;have HB2:=aA (HB1.out.trans (hb2.mono hb1s));clear hb2)
     | (go_at_call 35;refine (aB CI1).mono ?_;rintro e w1 ⟨rfl,hb1⟩;have HB1:=aA hb1;have hb1s:=hb1.size;clear hb1))
    go_quiet ((go_at_call 36;exact zv (aB P1 _)));go_wp2;go_returns;exact jL.none HR.out (HB2.out.trans ((aI ⟨_,rfl⟩).mono HB2.out.size))
theorem aXs(a1 a2:Option Addr)(c1 c2:Nat)(c d:List Lt)(i j:Int)(w:World)(h1:bE w a1 c)(h2:bE w a2 d)(hT:jF w) :
  Calls zt 10 #[.slice a1 c.length c1,.int .i64 i,.slice a2 d.length c2,.int .i64 j] w λe w'=>jL (pQ c d i j) w e w':=by
 have C:=aA (aXr a1 a2 c1 c2 c d i j w h1 h2 hT);clear h1 h2 hT;go_enter Tryz.func10,Tryz.ntmps10;go_wp2_with (first
  | (go_at_call 22;refine (aB C).mono ?_;rintro e w1 ⟨v,out,yes,er,rfl,h1,h2,h3,h4⟩;have H1:=aA h1;have H2:=aA h2;have H3:=aA h3;have H4:=aA h4;clear h1 h2 h3 h4)
  | go_in)
 go_returns;exact ⟨_,out,yes,er,rfl,H1.out,H2.out,H3.out,H4.out⟩
end
end Go.Proofs.YtcldkjcpofjmhaaGreatDoor
