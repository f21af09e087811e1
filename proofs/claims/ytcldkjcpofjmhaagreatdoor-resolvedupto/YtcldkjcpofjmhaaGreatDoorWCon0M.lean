import Derived.Test.YtcldkjcpofjmhaaGreatDoorTPut0M
import Derived.Test.YtcldkjcpofjmhaaGreatDoorXIResM
open List renaming zipWith→zy,map_append→zw,getElem_mem→zu,eraseIdx_of_length_le→zs,map_congr_left→zr,mem_cons→zq,length_map→zp,eraseIdx_append_of_length_le→zo,take_succ_eq_append_getElem→zn,take_of_length_le→zm,map_cons→zl,mem_map→zk,getElem_append_right→zj,getElem?_eq_getElem→zi,map→zh,map_map→zf,mem_append→ze,getElem_of_mem→za,mem_map_of_mem→z0,length_append→z2,getElem?_map→z3,append_assoc→z4
open Nat renaming le_refl→zz,le_trans→zv,add_assoc→z1,zero_le→z6
open Or renaming inr→zg,inl→zd
open Prod renaming fst→zx,snd→zc
namespace Go.Proofs.YtcldkjcpofjmhaaGreatDoor
open _root_.Go.Proofs.Tryz renaming results26→zb,prog→z5
open World renaming ownsRow_nil→zt
set_option maxHeartbeats 8000000
set_option maxRecDepth 100000
section
open Go.RowKit
def sI(T:Tb)(a b:Nat)(rs:List Nat)(ns:List Bool)(out:List Lt)(yes:Bool)(e:Int):Prop:=
 (¬(eW (aV T) (Cl (aV T) (iO T a b))/\∀i,i<T.length->bF (aV T) (Cl (aV T) (iO T a b)) i)/\out=[]/\yes=false/\e=0)\/
 ((eW (aV T) (Cl (aV T) (iO T a b))/\∀i,i<T.length->bF (aV T) (Cl (aV T) (iO T a b)) i)/\∃(rd:Nat->Nat) (ls:List (List Nd)),(∀p q,rd p=rd q↔Cl (aV T) (iO T a b) p q)/\aN (λr l=>aQ (aV T) (Cl (aV T) (iO T a b)) rd [r] l) rs ls/\
  ((500<aK (aR (zy Prod.mk ns ls))/\out=[]/\yes=false/\e=4)\/(aK (aR (zy Prod.mk ns ls))<=500/\out=aR (zy Prod.mk ns ls)/\yes=true/\e=0)))
theorem aK2:∀(rest:List (Int×Lt)) (ls:List (List Nd)),cK rest ls=zy Prod.mk (rest.map λr=>r.2.1) ls
 | [],_=>rfl
 | _ :: _,[]=>rfl
 | r :: rs,l :: ls=>by
  have:=aK2 rs ls;simp [cK] at this ⊢;exact this
theorem xM:∀(rest:List (Int×Lt)) (n:Nat),(∀r∈rest,0<r.2.2.length)->∀p∈bJ n rest,n<=p/\p<n+(aG rest).length
 | [],n,_,p,hp=>by simp [bJ] at hp
 | r :: rs,n,h,p,hp=>by
  have h0:=h r (by simp);have hl:(aG (r :: rs)).length=r.2.2.length+(aG rs).length:=by simp [aG]
  rw [hl];simp only [bJ,zq] at hp;rcases hp with rfl | hp
  ·omega
  ·have:=xM rs _ (λx hx=>h x (by simp [hx])) p hp;omega
theorem aWp{M0:List Tg}{rest:List (Int×Lt)}{a b:Nat}{R:List Rw}{g:Nat->Nat}{T:Tb}(h:Rows (M0++aG rest) R g)(hT:T.map zx=R)(hok:gP T)(ha:a<(M0++aG rest).length)(hb:b<(M0++aG rest).length)(hne:∀r∈rest,0<r.2.2.length)
  {out:List Lt} {yes:Bool} {e:Int} (hm:sI T (g a) (g b) ((bJ M0.length rest).map g) (rest.map λr=>r.2.1) out yes e):gI M0 a b rest out yes e:=by
 obtain ⟨M,hM⟩ : ∃M,M0++aG rest=M:=⟨_,rfl⟩;rw [hM] at h ha hb;have hL:=h.laid hT ha hb;have hTl:T.length=R.length:=by rw [<-hT];simp
 have hfl:∀p,p<M.length->mF M R g p=g p:=λp hp=>if_pos hp
 have hsame:vE M a b↔(eW (aV T) (Cl (aV T) (iO T (g a) (g b)))/\∀i,i<T.length->bF (aV T) (Cl (aV T) (iO T (g a) (g b))) i):=by
  constructor
  ·rintro ⟨c1,c2⟩;refine ⟨hL.clash.1 c1,λi hi=>?_⟩;obtain ⟨p,hp,rfl⟩:=h.onto i (by omega);rw [<-hfl p hp];exact hL.ends_to (c2 p hp)
  ·rintro ⟨c1,c2⟩;exact ⟨hL.clash.2 c1,λp hp=>hL.ends_from (c2 (g p) (by have:=h.lt hp;omega)) p (hfl p hp)⟩
 unfold gI;rw [hM];rcases hm with ⟨n2,rfl,rfl,rfl⟩ | ⟨n2,rd,ls,d1,d2,d3⟩
 ·exact zd ⟨λhh=>n2 (hsame.1 hh),rfl,rfl,rfl⟩
 ·have n1:=hsame.2 n2;have hrp:∀p q,rd (mF M R g p)=rd (mF M R g q)↔dT M a b p q:=λp q=>(d1 _ _).trans ⟨λc=>hL.from c,λc=>hL.to c⟩
  have hpl:=xM rest M0.length hne;have hMl:M.length=M0.length+(aG rest).length:=by rw [<-hM];simp
  have key:∀(ps:List Nat) (ls:List (List Nd)),(∀p∈ps,p<M.length)->aN (λr l=>aQ (aV T) (Cl (aV T) (iO T (g a) (g b))) rd [r] l) (ps.map g) ls->∃ms,aN (λp m=>aQ (aD (M.map zc)) (dT M a b) (λp=>rd (mF M R g p)) [p] m) ps ms/\aN (λm l=>aN (lZ λx y=>∃p,x=(rd (mF M R g p):Int)/\y=(rd (mF M R g p):Int)) m l) ms ls:=by
   intro ps;induction ps with
   | nil=>
    intro ls _ hh;cases hh;exact ⟨[],aN.nil,aN.nil⟩
   | cons p ps ih=>
    intro ls hps hh;cases hh with
    | cons x hx=>
     obtain ⟨ms,i1,i2⟩:=ih _ (λq hq=>hps q (by simp [hq])) hx;have hp:=hps p (by simp);obtain ⟨m,hm⟩:=(n1.2 p hp).exp (rep:=λp=>rd (mF M R g p));obtain ⟨m2,k1,k2⟩:=hL.exp (rd:=rd) hm;simp only [zl,List.map_nil,hfl p hp] at k1;have e2:=k1.one (Cl.isDown _ _) n2.1 hok.arity (λi j hij=>(d1 i j).2 hij) _ x;subst e2;exact ⟨m :: ms,aN.cons hm i1,aN.cons k2 i2⟩
  obtain ⟨ms,k1,k2⟩:=key (bJ M0.length rest) ls (λp hp=>by have:=hpl p hp;omega) d2;have ho:=aJs (hL.pairs hrp d1) (aD8 rest k2);rw [aK2 rest ls] at ho;rw [<-ho] at d3;exact zg ⟨n1,λp=>rd (mF M R g p),ms,hrp,k1,d3⟩
end
section
open Go.RowKit Go.Shelf Go.WideMaps
theorem bT.new(w:World):bT (w.alloc (.cells #[.slice none 0 0] 63)) w.heap.size w.heap.size (.slice none 0 0) []:=
 ⟨heap_alloc_new _ _,zz _,zt _ _ _ _,λp hp=>by simp at hp⟩
theorem aWq{Q:Tb}{E:Nat->Nat->Prop}{rep:Nat->Nat}{x:List Nat}{l:List Nd}(h:aQ (aV Q) E rep x l):∀n∈l,n.1=⟨#[]⟩\/∃i,∃h:i<Q.length,n=Q[i].1.node:=by
 induction h with
 | nil=>intro n hn;simp at hn
 | var _ _ ih=>
  intro n hn;rcases zq.1 hn with rfl | hn
  ·exact zd rfl
  ·exact ih n hn
 | @name i j r l h1 h2 _ ih=>
  intro n hn;obtain ⟨hj,_⟩:=oB h2;rcases zq.1 hn with rfl | hn
  ·exact zg ⟨j,hj,lP Q j hj⟩
  ·exact ih n hn
theorem Rows.node{M:List Tg}{R:List Rw}{g:Nat->Nat}{T:Tb}(h:Rows M R g)(hT:T.map zx=R){i:Nat}(hi:i<T.length):∃t,t∈M/\T[i].1.node.1=t.2.1/\(aF t.2=true->T[i].1.parts=[])/\(aF t.2=false->T[i].1.parts.length=bK t.2):=by
 have hTl:T.length=R.length:=by rw [<-hT];simp
 have hg:R[i]?=some T[i].1:=by rw [<-hT,z3,zi hi];rfl
 obtain ⟨p,hp,hgp⟩:=h.onto i (by omega);have hm:M[p]?=some M[p]:=zi hp;refine ⟨M[p],zu _,?_⟩;cases hv:aF M[p].2
 ·have:=h.name p _ hm hv;rw [hgp,hg] at this;simp at this;refine ⟨by rw [this],(λe=>by cases e),λ_=>?_⟩;rw [this];have hn:(M.map zc)[p]?=some M[p].2:=by rw [z3,hm];rfl
  simp only [zp];rw [gH hn,uL]
 ·obtain ⟨r,h1,h2⟩:=h.var p _ hm hv;rw [hgp,hg] at h1;simp at h1;subst h1;refine ⟨by rw [h2],λ_=>(h.fresh i _ hg).2 (by rw [h2];exact hv),λe=>by cases e⟩
theorem aWr(a:Option Addr)(cp:Nat)(c:List Lt)(w:World)(h:bD w a c)(hc:aK c<=1000000) :
  Calls z5 46 #[.slice a c.length cp] w λe w'=>e=.returned (.int .i64 (aK c))/\w'=w:=by
 have hl:c.length<=4398046511104:=h.few;go_enter Tryz.func46,Tryz.ntmps46;go_wp2;go_loop [3,4] (λs i=>∃k:Nat,k<=c.length/\i=.int .i64 k/\s=.int .i64 (aK (c.take k))) (λ_ i=>c.length-(intOf i).toNat);case atStart=>exact ⟨0,z6 _,rfl,rfl⟩
 case round=>
  obtain ⟨k,hk,rfl,rfl⟩:=hrel;have hct:=rW c k;by_cases hlt:k<c.length
  ·obtain ⟨p1,o1,aa1,cp1,rfl,e1,f1,g1⟩:=h.cell k hlt;have hg:=g1.few;have HS:Hid (aK (c.take (k+1))=aK (c.take k)+c[k].2.length):=by
    rw [zn hlt,oD];exact rfl
   clear h g1;go_wp2;go_round;case rel=>exact ⟨k+1,by omega,by go_num,by rw [HS.out];go_num⟩
   case measure=>simp [intOf];omega
  ·go_wp2;go_ret;have hk1:c.take k=c:=zm (by omega);rw [hk1];exact ⟨rfl,rfl⟩
theorem aWs{ns:List Bool}:∀{ms:List (List Nd)},(∀m∈ms,m.length<=501)->zy Prod.mk ns (ms.map λm=>m.take 501)=zy Prod.mk ns ms:=by
 intro ms h;congr 1
 rw [zr (g:=id)]
 ·simp
 ·intro m hm;exact zm (h m hm)
theorem aDe:∀{ns:List Bool} {ms:List (List Nd)} {m:List Nd},ns.length=ms.length->m∈ms->∃n,(n,m)∈zy Prod.mk ns ms
 | [],[],m,_,hm=>by simp at hm
 | [],_ :: _,_,h,_=>by simp at h
 | _ :: _,[],_,h,_=>by simp at h
 | n :: ns,x :: ms,m,h,hm=>by
  rcases zq.1 hm with rfl | hm
  ·exact ⟨n,by simp⟩
  ·obtain ⟨k,hk⟩:=aDe (ns:=ns) (ms:=ms) (by simpa using h) hm;exact ⟨k,by simp [hk]⟩
theorem aK3:∀{ns:List Bool} {ms:List (List Nd)} {x:Lt},x∈zy Prod.mk ns ms->∃m∈ms,x.2=m
 | [],_,x,h=>by simp at h
 | _ :: _,[],x,h=>by simp at h
 | n :: ns,m :: ms,x,h=>by
  simp only [List.zipWith_cons_cons,zq] at h;rcases h with rfl | h
  ·exact ⟨m,by simp,rfl⟩
  ·obtain ⟨m',h1,h2⟩:=aK3 h;exact ⟨m',by simp [h1],h2⟩
theorem aK4{ns:List Bool}{ms:List (List Nd)}(hl:ns.length=ms.length):(500<aK (aR (zy Prod.mk ns (ms.map λm=>m.take 501)))/\500<aK (aR (zy Prod.mk ns ms)))\/zy Prod.mk ns (ms.map λm=>m.take 501)=zy Prod.mk ns ms:=by
 by_cases h:∀m∈ms,m.length<=501
 ·exact zg (aWs h)
 ·obtain ⟨m,hm,hb⟩ : ∃m,m∈ms/\¬m.length<=501:=Classical.byContradiction λhc=>h λm hm=>Classical.byContradiction λhb=>hc ⟨m,hm,hb⟩
  obtain ⟨n,h1⟩:=aDe hl hm;obtain ⟨n',h2⟩:=aDe (ns:=ns) (ms:=ms.map λm=>m.take 501) (by simpa using hl) (zk.2 ⟨m,hm,rfl⟩);exact zd ⟨aDa h2 (by simp;omega),aDa h1 (by simp;omega)⟩
theorem aK5{S:List TypeId}{B':Nat}{e:TypeId}{z:Nat}{v:Value}{k:Nat}{ys:List Value}{W W':World}(hr:W.ownsRow B' e z v k ys)(hg:W.grownBy W' v.ownBlock)(he:e∈S):Mv S B' W W':=Mv.of_grown hg (λk hk=>by
 obtain ⟨_,⟨rfl,_⟩ | ⟨g,cap,cur,rfl,hb,hh,_⟩⟩:=hr
 ·cases hk
 ·cases hk;exact ⟨hb,cur,_,hh,he⟩)
structure MkI(B1:Nat)(w6:World)(Z:List Lt)(k:Nat)(l:Value)(wr:World)(LQ:List (Lt×Value)):Prop where
 made:LQ.map zx=Z.take k
 row:wr.ownsRow B1 39 2 l LQ.length (bA LQ)
 atoms:∀q∈LQ,fG wr B1 q.2 q.1.2
 low:Below B1 w6 wr
def aDf(P:Tb)(a b:Nat)(rs:List Nat)(ns:List Bool)(B:Nat)(w:World)(e:Ending)(w':World):Prop:=
 ∃oa oc out yes er,e=.returned (.tuple #[.slice oa out.length oc,.bool yes,.int .i64 er])/\sI P a b rs ns out yes er/\bD w' oa out/\out.length<=16/\Below B w w'
theorem aDg(w:World):bD w none []:=tC (B:=0) (cap:=0) (P:=[]) (zt _ _ _ _) rfl (λp hp=>by simp at hp) (by simp)
theorem MkI.next{B1:Nat}{w6 wr w2 w3:World}{Z:List Lt}{k:Nat}{l l' va:Value}{LQ:List (Lt×Value)}{x:Lt}{o:Obj}(h:MkI B1 w6 Z k l wr LQ)(hk:Z[k]?=some x)(hb:Below wr.heap.size wr w2)(hz:B1<=wr.heap.size)(ha:fG w2 B1 va x.2)(ho:w3.ownsRow B1 39 2 l' (LQ.length+1) (bA LQ++[.bool x.1,va]))(hg:(w2.alloc o).grownBy w3 l.ownBlock):MkI B1 w6 Z (k+1) l' w3 (LQ++[(x,va)]):=by
 have hbA:Below w2.heap.size w2 (w2.alloc o):=(Below.refl _ w2).alloc (zz _) _;have hl:=aU h.row hb (zz _);have hm:Mv [39] B1 (w2.alloc o) w3:=aK5 (aU hl hbA (zz _)) hg (by simp);have hz2:B1<=w2.heap.size:=zv hz hb.size;refine ⟨?_,?_,λq hqm=>?_,?_⟩
 ·rw [zw,h.made,List.take_add_one,hk];rfl
 ·have:=ho;simpa [bA] using this
 ·rcases ze.1 hqm with hqm | hqm
  ·have hq:fG w2 B1 q.2 q.1.2:=aU (h.atoms q hqm) hb (zz _);exact hm.row (aU hq hbA (zz _)) (by decide)
  ·simp at hqm;subst hqm;exact hm.row (aU ha hbA (zz _)) (by decide)
 ·exact (h.low.trans ((hb.mono hz).trans (hbA.mono hz2))).trans (hm.below (by simp;omega))
theorem aN.at{α β:Type}{R:α->β->Prop}{l:List α}{m:List β}(h:aN R l m):∀{k:Nat} (h1:k<l.length) (h2:k<m.length),R l[k] m[k]:=by
 induction h with
 | nil=>intro k h1;simp at h1
 | cons x _ ih=>
  intro k h1 h2;cases k with
  | zero=>exact x
  | succ k=>simpa using ih (by simpa using h1) (by simpa using h2)
theorem aWt{w:World}{B:Nat}{e:TypeId}{size:Nat}{v:Value}{n:Nat}{xs:List Value}(h:w.ownsRow B e size v n xs)(hn:0<n):∃g c,v=.slice (some ⟨g,0,none⟩) n c:=by
 obtain ⟨_,⟨rfl,h2⟩ | ⟨g,cap,cur,rfl,_⟩⟩:=h
 ·omega
 ·exact ⟨g,cap,rfl⟩
theorem aWu(B tp:Nat)(v:Value)(P:Tb)(a b:Nat)(rs:List Nat)(ns:List Bool)(rv nv:Value)(w:World)(h:bT w B tp v P)(hok:gP P)(hf:P.length<=1000000)(hps:∀p∈P,p.1.parts.length<=1000000)(hsh:∀i (h:i<P.length),P[i].1.node.1.size<=1000000)(ha:a<P.length)(hb:b<P.length)(hr:dF B w rv rs)(hn:w.ownsRow B 4 1 nv ns.length (ns.map Value.bool))(hrn:ns.length=rs.length)(hr16:rs.length<=16)(hrs:∀r∈rs,r<P.length)(hB:B<=w.heap.size) :
  Calls z5 26 #[.pointer (some ⟨tp,0,none⟩),rv,nv,.int .i64 a,.int .i64 b] w λe w'=>aDf P a b rs ns B w e w':=by
 obtain ⟨iL,hL,hL0,hL1,hL2⟩:=info_parts rX;obtain ⟨ra,rc,rfl⟩:=hr.shape;obtain ⟨na,nc,rfl⟩:=aS hn;have CS:=aA (aV5 B tp v P a b ha hb w h hok hf hps);have HH:=aA h;have HR:=aA hr;have HN:=aA hn;have HRS:=aA hrs;have HPS:=aA hps;have HSH:=aA hsh;have HRN:=aA hrn;clear h hr hn hrs hps hsh hrn;go_enter Tryz.func26,Tryz.ntmps26;go_wp2_with (first
  | (go_at_call 44;refine (aB CS).mono ?_)
  | go_in)
 rintro e w6 ⟨r,rfl,⟨bb,rfl,hb1,hb2⟩,hg6⟩;clear CS;have hm6:Mv [94] B w w6:=aK5 HH.out.row hg6 (by simp);have hB6:Below B w w6:=hm6.below hB;have hz6:=hm6.size;have HB6:=aA hB6;cases bb with
 | false=>
  have HU:Hid (sI P a b rs ns [] false 0):=aA (zd ⟨λhh=>(by have:=hb1.2 hh;cases this),rfl,rfl,rfl⟩);clear hb1 hb2 hg6 hm6 hB6;go_wp2;refine bodyPost_ret (v:=.tuple #[.slice none 0 0,.bool false,.int .i64 0]) (by simp [results,zb,go_sem]) rfl ?_;exact ⟨none,0,[],false,0,rfl,HU.out,aDg _,by simp,HB6.out⟩
 | true=>
  have hyes:=hb1.1 rfl;obtain ⟨Q,hQt,hSh,hgr,hQok,hcls⟩:=hb2 rfl;have hcf:aZ Q=Cl (aV P) (iO P a b):=by funext i j;exact propext (hcls i j)
  have hD:gR (aV Q) (aZ Q):=by rw [hgr,hcf];exact Cl.isDown _ _
  have hNC:eW (aV Q) (aZ Q):=by rw [hgr,hcf];exact hyes.1
  have hlQ:Q.length=P.length:=hSh.len;obtain ⟨ms,hms⟩ : ∃ms,aN (λr m=>aQ (aV Q) (aZ Q) (nC Q) [r] m) rs ms:=by
   have key:∀rs:List Nat,(∀r∈rs,r<P.length)->∃ms,aN (λr m=>aQ (aV Q) (aZ Q) (nC Q) [r] m) rs ms:=by
    intro rs;induction rs with
    | nil=>intro _;exact ⟨[],aN.nil⟩
    | cons r rs ih=>
     intro hh;obtain ⟨ms,i1⟩:=ih λx hx=>hh x (by simp [hx])
     obtain ⟨m,hm⟩:=(hyes.2 r (hh r (by simp))).exp (rep:=nC Q);exact ⟨m :: ms,aN.cons (by rw [hgr,hcf];exact hm) i1⟩
   exact key rs HRS.out
  have hml:=hms.length;have HANS:Hid (∀(l:List Lt) (y:Bool) (e:Int),((500<aK (aR (zy Prod.mk ns ms))/\l=[]/\y=false/\e=4)\/(aK (aR (zy Prod.mk ns ms))<=500/\l=aR (zy Prod.mk ns ms)/\y=true/\e=0))->sI P a b rs ns l y e):=aA λl y e hh=>zg ⟨hyes,nC Q,ms,λp q=>(aCb hQok p q).trans (hcls p q),by have hh:=hms;rw [hgr,hcf] at hh;exact hh,hh⟩
  have hsz:∀m∈ms,∀n∈m,n.1.size<=1000000:=by
   intro m hm n hn;obtain ⟨r,_,hr⟩:=hms.mem_right hm;rcases aWq hr n hn with e | ⟨i,hi,rfl⟩
   ·rw [e];exact z6 _
   ·rw [(hSh.row i (by omega) hi).2.2];exact HSH.out i (by omega)
  have hr6:dF B w6 (.slice ra rs.length rc) rs:=hm6.row HR.out (by decide);have hn6:=hm6.row HN.out (by decide);have hmn:ns.length=ms.length:=HRN.out.trans hml;obtain ⟨Z,hZ⟩ : ∃Z,zy Prod.mk ns (ms.map λm=>m.take 501)=Z:=⟨_,rfl⟩;have hZl:Z.length=rs.length:=by rw [<-hZ];simp;omega
  have hZat:∀k (h1:k<ns.length) (h2:k<ms.length),Z[k]?=some (ns[k],(ms[k]).take 501):=λk h1 h2=>by rw [<-hZ,List.getElem?_zipWith];simp [h1,h2]
  have hCN:∀(k:Nat) (hk:k<rs.length) (hk2:k<ms.length) (wr:World),Below w6.heap.size w6 wr->Calls z5 45 #[.pointer (some ⟨tp,0,none⟩),.slice none 0 0,.int .i64 (rs[k]:Nat)] wr λe w'=>∃xa xn xc,e=.returned (.slice xa xn xc)/\fG w' w6.heap.size (.slice xa xn xc) ((ms[k]).take 501)/\Below wr.heap.size wr w':=λk hk hk2 wr hbr=>by
   refine (aSz B tp v Q hQok hD hNC (by rw [hlQ];exact hf) (λp hp=>by
    obtain ⟨i,hi,rfl⟩:=za hp;rw [(hSh.row i (by omega) hi).2.1];exact HPS.out _ (zu _)) wr (hQt.below hbr) wr.heap.size (zz _) (ms[k].length+1) rs[k] ms[k] [] (.slice none 0 0) wr (by omega) (hms.at hk hk2) (by rw [hlQ];exact HRS.out _ (zu _)) (Below.refl _ _) (zz _) (zt _ _ _ _) (by simp)).mono ?_
   rintro e w' ⟨vo,rfl,h1,h2⟩;rw [List.nil_append] at h1;obtain ⟨xa,xc,rfl⟩:=aS h1;exact ⟨xa,_,xc,rfl,dI h1 hbr.size,h2⟩
  have HCN:=aA hCN;have HR6:=aA hr6;have HN6:=aA hn6;have HZat:=aA hZat;have HMN:=aA hmn;have HML:=aA hml;have HSZ:=aA hsz;have HZ:=aA hZ;have HZL:=aA hZl;clear hb1 hb2 hyes hQt hSh hgr hQok hcls hcf hD hNC hlQ hms hsz hr6 hn6 hCN hm6 hg6 hZat hmn hml hB6 hZ hZl HH HPS HSH HR HN;go_wp2;go_loopw [14,15] (λl i wr=>∃(k:Nat) (LQ:List (Lt×Value)),i=.int .i64 k/\k<=rs.length/\MkI w6.heap.size w6 Z k l wr LQ) (λ_ i _=>rs.length-(intOf i).toNat);case atStart=>exact ⟨0,[],rfl,z6 _,⟨rfl,zt _ _ _ _,λq hq=>by simp at hq,Below.refl _ _⟩⟩
  case round=>
   obtain ⟨k,LQ,rfl,hk,hI⟩:=hrel;obtain ⟨la,lc,rfl⟩:=aS hI.row;have hLQ:LQ.length<=16:=by have:=congrArg List.length hI.made;simp at this;omega
   by_cases hlt:k<rs.length
   ·obtain ⟨gr,e1,c1⟩:=HR6.out.cell hlt;subst e1;have hkn:k<ns.length:=by have:=HRN.out;omega
    have hkm:k<ms.length:=by have:=HML.out;omega
    have hn6:=HN6.out;obtain ⟨gn,ncp,e2⟩:=aWt hn6 (by omega);simp at e2;obtain ⟨rfl,rfl⟩:=e2;have c2:w6.cell? ⟨gn,k,none⟩=some (.bool ns[k]):=by rw [hn6.cellAt k (by omega)];simp [hkn]
    have d1:=Below.at' hI.low (zz _) c1;have CN:=aA (HCN.out k hlt hkm wr hI.low);have hki:(k:Int)<(rs.length:Int):=by omega
    have hkj:(k:Int)<(ns.length:Int):=by omega
    have HC2:=aA c2;have HI:=aA hI;have HX:=aA (HZat.out k hkn hkm);have hB1:=hI.low.size;have nsk:∃nb,ns[k]=nb:=⟨_,rfl⟩;obtain ⟨nb,hnb⟩:=nsk;rw [hnb] at HC2 HX;obtain ⟨rk,hrk⟩ : ∃rk,rs[k]=rk:=⟨_,rfl⟩;rw [hrk] at d1 CN;clear hI c1 c2 hn6 hnb hrk;go_wp2_with (first
     | (at_builtin;refine wpList_append_own _ rfl (.tmp 36) (.tmp 43) 22 rfl w6.heap.size 39 iL (.agg #[.bool false,.slice none 0 0]) 2 32 Tryz.underlying22 hL hL0 hL1 hL2 rfl (by decide) _ _ _ rfl (HL2.out.alloc _) ⟨w2.heap.size,0,none⟩ 1 1 [.bool nb,.slice xa xn xc] rfl rfl (gF w2 _ _ _ _ rfl) (rY _ _ _ _) (by unfold maxLen;omega) (by omega) (by simp;omega) ?_;intro v3 w3 ho3 hg3 _;have G:=aA (HI.out.next HX.out HB2.out hB1 HO2.out ho3 hg3);clear ho3 hg3)
     | (go_at_call 45;refine (aB CN).mono ?_;rintro e w2 ⟨xa,xn,xc,rfl,ho2,hb2⟩;have hz2:=hb2.size;have d2:=Below.at' (HI.out.low.trans (hb2.mono hB1)) (zz _) HC2.out;have HL2:=aA (aU HI.out.row hb2 (zz _));have HO2:=aA ho2;have HB2:=aA hb2;clear ho2 hb2)
     | go_in)
    exact ⟨⟨k+1,_,by go_num,by omega,G.out⟩,by simp [intOf];omega⟩
   ·have hkz:Z.take k=Z:=zm (by have:=HZL.out;omega);have hmade:LQ.map zx=Z:=by rw [hI.made,hkz]
    have hZs:∀x∈Z,dO x.2/\x.2.length<=501:=by intro x hx;rw [<-HZ.out] at hx;obtain ⟨m,hm,e⟩:=aK3 hx;obtain ⟨m',hm',rfl⟩:=zk.1 hm;rw [e];refine ⟨λn hn=>HSZ.out m' hm' n (List.mem_of_mem_take hn),?_⟩;simp;omega
    have hZc:aK Z<=100000:=by have h1:=vD (m:=501) (λx hx=>(hZs x hx).2);have:=HZL.out;omega
    have hlit:bD wr la Z:=by
     have hlen:LQ.length=Z.length:=by rw [<-hmade];simp
     refine tC (P:=LQ) (cap:=lc) (by rw [<-hlen];exact hI.row) hmade (λq hq=>?_) (by omega);have hqz:q.1∈Z:=by rw [<-hmade];exact z0 hq
     obtain ⟨aa,cpp,e,hx⟩:=rH (hI.atoms q hq) (by have:=(hZs _ hqz).2;omega) (λk hk=>zv ((hZs _ hqz).1 _ (zu hk)) (by decide));exact ⟨aa,cpp,e,hx⟩
    have hlen:LQ.length=Z.length:=by rw [<-hmade];simp
    have CO:=aA (aHf la lc Z wr hlit (by omega));rw [<-hlen] at CO;have HB:=aA (HB6.out.trans (hI.low.mono (zv hB hz6)));obtain ⟨o1,o2,o3⟩:=aI6 Z (λx hx=>(hZs x hx).1);have hol:(aR Z).length<=16:=by have:=HZL.out;omega
    have hoc:aK (aR Z)<=1000000:=by omega
    have HO1:=aA o1;have HOL:Hid (∀x∈aR Z,x.2.length<=100000):=aA λx hx=>by
     have h1:x.2.length<=aK (aR Z):=by
      have:∀(c:List Lt),x∈c->x.2.length<=aK c:=by
       intro c;induction c with
       | nil=>intro h;simp at h
       | cons y r ih=>
        intro h;simp [aK] at ih ⊢;rcases zq.1 h with rfl | h
        ·omega
        ·have:=ih h;omega
      exact this _ hx
     omega
    have HI:=aA hI;clear hI hkz hmade hZs hlit hlen o1 o2 o3;generalize LQ.length=ln at *;go_wp2_with (first
     | (go_at_call 43;refine (aB CO).mono ?_)
     | go_in)
    rintro e w4 ⟨v4,Q4,rfl,hq4,hr4,ha4,hb4⟩;obtain ⟨va4,vc4,rfl⟩:=aS hr4;have hlen4:Q4.length=(aR Z).length:=by rw [<-hq4];simp
    have hlit4:bD w4 va4 (aR Z):=by
     refine tC (P:=Q4) (cap:=vc4) (by rw [<-hlen4];exact hr4) hq4 (λq hq=>?_) (by omega);have hqz:q.1∈aR Z:=by rw [<-hq4];exact z0 hq
     obtain ⟨aa,cpp,e,hx⟩:=rH (ha4 q hq) (by have:=HOL.out _ hqz;omega) (λk hk=>zv (HO1.out _ hqz _ (zu hk)) (by decide));exact ⟨aa,cpp,e,hx⟩
    have CC:=aA (aWr va4 vc4 (aR Z) w4 hlit4 hoc);have HL4:=aA hlit4;have HB4:=aA (HB.out.trans (hb4.mono (zv hB (zv hz6 HI.out.low.size))));rw [hlen4];clear CO hr4 ha4 hb4 hlit4 hlen4 hq4 HI HB HO1 HOL;by_cases hbig:500<aK (aR Z)
    ·have HU:Hid (sI P a b rs ns [] false 4):=aA (HANS.out [] false 4 (zd ⟨by
      rcases aK4 (ns:=ns) (ms:=ms) HMN.out with ⟨_,h⟩ | h
      ·exact h
      ·rw [<-h,HZ.out];exact hbig,rfl,rfl,rfl⟩))
     generalize aK (aR Z)=cn at *;generalize (aR Z).length=on at *;have hbi:(500:Int)<(cn:Int):=by omega
     go_wp2_with (first
      | (go_at_call 46;refine (aB CC).mono ?_;rintro e w5 ⟨rfl,rfl⟩)
      | go_in)
     refine bodyPost_ret (v:=.tuple #[.slice none 0 0,.bool false,.int .i64 4]) (by simp [results,zb,go_sem]) rfl ?_;exact ⟨none,0,[],false,4,rfl,HU.out,aDg _,by simp,HB4.out⟩
    ·have HU:Hid (sI P a b rs ns (aR Z) true 0):=aA (HANS.out (aR Z) true 0 (zg (by
      rcases aK4 (ns:=ns) (ms:=ms) HMN.out with ⟨h,_⟩ | h
      ·rw [HZ.out] at h;exact absurd h hbig
      ·rw [<-h,HZ.out];exact ⟨by omega,rfl,rfl,rfl⟩)))
     have HFIN:Hid (aDf P a b rs ns B w (.returned (.tuple #[.slice va4 (aR Z).length vc4,.bool true,.int .i64 0])) w4):=aA ⟨va4,vc4,aR Z,true,0,rfl,HU.out,HL4.out,hol,HB4.out⟩;generalize aK (aR Z)=cn at *;have hbi:¬(500:Int)<(cn:Int):=by omega
     clear HU HL4 HB4;go_wp2_with (first
      | (go_at_call 46;refine (aB CC).mono ?_;rintro e w5 ⟨rfl,rfl⟩)
      | go_in)
     refine bodyPost_ret (v:=.tuple #[.slice va4 (aR Z).length vc4,.bool true,.int .i64 0]) (by simp [results,zb,go_sem]) rfl ?_;exact HFIN.out
end
section
open Go.RowKit
theorem vH(L N:List (Int×Lt)):aG (L++N)=aG L++aG N:=by simp [aG]
theorem tY(r:Int×Lt)(L:List (Int×Lt)):aG (r :: L)=aM r.1 r.2.2++aG L:=by simp [aG,aM]
theorem tZ:∀(L N:List (Int×Lt)) (n:Nat),bJ n (L++N)=bJ n L++bJ (n+(aG L).length) N
 | [],N,n=>by simp [bJ,aG]
 | r :: L,N,n=>by
  simp only [List.cons_append,bJ];rw [tZ L N,tY];simp [aM,z1]
theorem aA8:∀(L:List (Int×Lt)) (n:Nat),bJ n L=(bJ 0 L).map (n + ·)
 | [],n=>rfl
 | r :: L,n=>by
  simp only [bJ,zl,Nat.add_zero,Nat.zero_add];rw [aA8 L (n+r.2.2.length),aA8 L r.2.2.length,zf];congr 1
  apply zr;intro z _;simp [z1]
theorem sJ{L:List (Int×Lt)}(h:∀r∈L,aW r.2.2 1=true):dE ((aG L).map zc):=by
 induction L with
 | nil=>intro i n hi;simp [aG] at hi
 | cons r L ih=>
  rw [tY,zw,tQ];exact (qO (h r (by simp))).append (ih λx hx=>h x (by simp [hx]))
section
variable {C1 C2 D1 D2:List (Int×Lt)}{rc rd:Int×Lt}{R:List Rw}{g:Nat->Nat}
def mK(x y a1 n:Nat)(p:Nat):Nat:=dZ 0 x a1 (dZ x y n p)
theorem aWv(h:Rows (aG (C1++rc :: C2)++aG (D1++rd :: D2)) R g)(hC1:∀r∈C1,aW r.2.2 1=true)(hC2:∀r∈C2,aW r.2.2 1=true)(hD1:∀r∈D1,aW r.2.2 1=true)(hD2:∀r∈D2,aW r.2.2 1=true)(hc:aW rc.2.2 1=true)(hd:aW rd.2.2 1=true) :
  Rows (aM rc.1 rc.2.2++aM rd.1 rd.2.2++aG (C1++C2++(D1++D2))) R (λp=>g (mK rc.2.2.length rd.2.2.length (aG C1).length ((aG C1).length+(aG C2).length+(aG D1).length) p)):=by
 have w1:dE ((aM rc.1 rc.2.2).map zc):=by rw [tQ];exact qO hc
 have w2:dE ((aM rd.1 rd.2.2).map zc):=by rw [tQ];exact qO hd
 have e1:aG (C1++rc :: C2)++aG (D1++rd :: D2)=[]++aG C1++aM rc.1 rc.2.2++(aG C2++(aG D1++(aM rd.1 rd.2.2++aG D2))):=by simp [vH,tY]
 rw [e1] at h;have hB:dE ((aG C2++(aG D1++(aM rd.1 rd.2.2++aG D2))).map zc):=by simp only [zw];exact (sJ hC2).append ((sJ hD1).append (w2.append (sJ hD2)))
 have h1:=h.swap (by intro i n hi;simp at hi) (sJ hC1) w1 hB;have e2 : []++aM rc.1 rc.2.2++aG C1++(aG C2++(aG D1++(aM rd.1 rd.2.2++aG D2)))=aM rc.1 rc.2.2++(aG C1++aG C2++aG D1)++aM rd.1 rd.2.2++aG D2:=by simp
 rw [e2] at h1;have h2:=h1.swap w1 (by simp only [zw];exact ((sJ hC1).append (sJ hC2)).append (sJ hD1)) w2 (sJ hD2);have e3:aM rc.1 rc.2.2++aM rd.1 rd.2.2++(aG C1++aG C2++aG D1)++aG D2=aM rc.1 rc.2.2++aM rd.1 rd.2.2++aG (C1++C2++(D1++D2)):=by simp [vH]
 rw [e3] at h2;have l1:(aM rc.1 rc.2.2).length=rc.2.2.length:=by simp [aM]
 have l2:(aM rd.1 rd.2.2).length=rd.2.2.length:=by simp [aM]
 simp only [z2,List.length_nil,l1,l2] at h2;exact h2
theorem aWw(hC1:∀r∈C1,0<r.2.2.length)(hC2:∀r∈C2,0<r.2.2.length)(hD1:∀r∈D1,0<r.2.2.length)(hD2:∀r∈D2,0<r.2.2.length) :
  (bJ (rc.2.2.length+rd.2.2.length) (C1++C2++(D1++D2))).map (mK rc.2.2.length rd.2.2.length (aG C1).length ((aG C1).length+(aG C2).length+(aG D1).length)) =
   bJ 0 C1++bJ ((aG C1).length+rc.2.2.length) C2++(bJ (aG (C1++rc :: C2)).length D1++bJ ((aG (C1++rc :: C2)).length+(aG D1).length+rd.2.2.length) D2):=by
 have lp:(aG (C1++rc :: C2)).length=(aG C1).length+(rc.2.2.length+(aG C2).length):=by simp [vH,tY,aM]
 rw [lp,tZ,tZ,tZ];simp only [zw,z4];rw [vH,z2];have key:∀(L:List (Int×Lt)) (n m:Nat),(∀r∈L,0<r.2.2.length)->(∀z,z<(aG L).length->mK rc.2.2.length rd.2.2.length (aG C1).length ((aG C1).length+(aG C2).length+(aG D1).length) (n+z)=m+z)->(bJ n L).map (mK rc.2.2.length rd.2.2.length (aG C1).length ((aG C1).length+(aG C2).length+(aG D1).length))=bJ m L:=by intro L n m hL hz;rw [aA8 L n,aA8 L m,zf];apply zr;intro z hzm;have:=xM L 0 hL z hzm;exact hz z (by omega)
 rw [key C1 _ 0 hC1 ?_,key C2 _ ((aG C1).length+rc.2.2.length) hC2 ?_,key D1 _ ((aG C1).length+(rc.2.2.length+(aG C2).length)) hD1 ?_,key D2 _ ((aG C1).length+(rc.2.2.length+(aG C2).length)+(aG D1).length+rd.2.2.length) hD2 ?_];all_goals
  intro z hz;unfold mK dZ;repeat' split
  all_goals omega
theorem aWx{x y a1 n:Nat}(hx:0<x):mK x y a1 n 0=a1:=by
 unfold mK dZ;repeat' split
 all_goals omega
theorem aWy{x y a1 a2 b1:Nat}(hy:0<y):mK x y a1 (a1+a2+b1) x=a1+(x+a2)+b1:=by
 unfold mK dZ;repeat' split
 all_goals omega
end
end
section
open Go.RowKit Go.Shelf Go.WideMaps
theorem aK6{α:Type}{l:List α}{i:Nat}(h:i<l.length):∃l1 x l2,l=l1++x :: l2/\l1.length=i:=
 ⟨l.take i,l[i],l.drop (i+1),by rw [<-List.drop_eq_getElem_cons h,List.take_append_drop],by simp;omega⟩
theorem xN{α:Type}(l1 l2:List α)(x:α):(l1++x :: l2).eraseIdx l1.length=l1++l2:=by rw [zo (zz _)];simp
theorem aWz(C1 C2:List (Int×Lt))(r:Int×Lt)(n:Nat):bJ n (C1++r :: C2)=bJ n C1++(n+(aG C1).length) :: bJ (n+(aG C1).length+r.2.2.length) C2:=by rw [tZ];rfl
theorem oP{t:List Nd}(h:aW t 1=true):0<t.length:=by
 cases t with
 | nil=>simp [aW] at h
 | cons=>simp
theorem aX0{c d:List Lt}{i j:Nat}(hi:i<c.length)(hj:j<d.length)(hc:∀x∈c,aW x.2 1=true)(hd:∀x∈d,aW x.2 1=true){P:Tb}{g:Nat->Nat}(hR:Rows (aG (c.map (λl=>((0:Int),l))++d.map (λl=>((1:Int),l)))) (P.map zx) g)(hok:gP P){S1 S2:List Nat}
  (hS1:(bJ 0 (c.map λl=>((0:Int),l))).map g=S1) (hS2:(bJ (aG (c.map λl=>((0:Int),l))).length (d.map λl=>((1:Int),l))).map g=S2) (h1:i<S1.length) (h2:j<S2.length)
  {out:List Lt} {yes:Bool} {e:Int} (hm:sI P S1[i] S2[j] (S1.eraseIdx i++S2.eraseIdx j) ((c.map zx).eraseIdx i++(d.map zx).eraseIdx j) out yes e):gI (aM 0 c[i].2++aM 1 d[j].2) 0 c[i].2.length (bI 0 [(c,i),(d,j)]) out yes e:=by
 obtain ⟨c1,ce,c2,rfl,rfl⟩:=aK6 hi;obtain ⟨d1,de,d2,rfl,rfl⟩:=aK6 hj;have ec:(c1++ce :: c2)[c1.length]=ce:=by simp
 have ed:(d1++de :: d2)[d1.length]=de:=by simp
 rw [ec,ed];have hrest:bI 0 [(c1++ce :: c2,c1.length),(d1++de :: d2,d1.length)]=c1.map (λl=>((0:Int),l))++c2.map (λl=>((0:Int),l))++(d1.map (λl=>((1:Int),l))++d2.map (λl=>((1:Int),l))):=by simp [bI,xN]
 rw [hrest];have hcl:∀(o:Int) (L:List Lt),(∀x∈L,aW x.2 1=true)->∀r∈L.map (λl=>(o,l)),aW r.2.2 1=true:=λo L hL r hr=>by
  obtain ⟨x,hx,rfl⟩:=zk.1 hr;exact hL x hx
 have q1:=hcl 0 c1 (λx hx=>hc x (by simp [hx]));have q2:=hcl 0 c2 (λx hx=>hc x (by simp [hx]));have q3:=hcl 1 d1 (λx hx=>hd x (by simp [hx]));have q4:=hcl 1 d2 (λx hx=>hd x (by simp [hx]));have qc:=hc ce (by simp);have qd:=hd de (by simp);have pc:=oP qc;have pd:=oP qd;simp only [zw,zl] at hR hS1 hS2 hm;rw [vH] at hR;have hR2:=aWv (rc:=((0:Int),ce)) (rd:=((1:Int),de)) hR q1 q2 q3 q4 qc qd;have hpl:=aWw (rc:=((0:Int),ce)) (rd:=((1:Int),de)) (λr hr=>oP (q1 r hr)) (λr hr=>oP (q2 r hr)) (λr hr=>oP (q3 r hr)) (λr hr=>oP (q4 r hr));have lc:(c1.map λl=>((0:Int),l)).length=c1.length:=by simp
 have ld:(d1.map λl=>((1:Int),l)).length=d1.length:=by simp
 rw [aWz,zw,zl] at hS1 hS2;have k1:(zh g (bJ 0 (c1.map λl=>((0:Int),l)))).length=c1.length:=by rw [zp,xI,lc]
 have k2:(zh g (bJ (aG ((c1.map λl=>((0:Int),l))++((0:Int),ce) :: c2.map λl=>((0:Int),l))).length (d1.map λl=>((1:Int),l)))).length=d1.length:=by rw [zp,xI,ld]
 have s1:S1[c1.length]=g (0+(aG (c1.map λl=>((0:Int),l))).length):=by subst hS1;rw [zj (by omega)];simp [k1]
 have s2:S2[d1.length]=g ((aG ((c1.map λl=>((0:Int),l))++((0:Int),ce) :: c2.map λl=>((0:Int),l))).length+(aG (d1.map λl=>((1:Int),l))).length):=by subst hS2;rw [zj (by omega)];simp [k2]
 have f1:S1.eraseIdx c1.length=zh g (bJ 0 (c1.map λl=>((0:Int),l)))++zh g (bJ (0+(aG (c1.map λl=>((0:Int),l))).length+ce.2.length) (c2.map λl=>((0:Int),l))):=by rw [<-hS1,<-k1];exact xN _ _ _
 have f2:S2.eraseIdx d1.length=zh g (bJ (aG ((c1.map λl=>((0:Int),l))++((0:Int),ce) :: c2.map λl=>((0:Int),l))).length (d1.map λl=>((1:Int),l)))++zh g (bJ ((aG ((c1.map λl=>((0:Int),l))++((0:Int),ce) :: c2.map λl=>((0:Int),l))).length+(aG (d1.map λl=>((1:Int),l))).length+de.2.length) (d2.map λl=>((1:Int),l))):=by rw [<-hS2,<-k2];exact xN _ _ _
 have m1:(c1.map zx++ce.1 :: c2.map zx).eraseIdx c1.length=c1.map zx++c2.map zx:=by have:=xN (c1.map zx) (c2.map zx) ce.1;rwa [zp] at this
 have m2:(d1.map zx++de.1 :: d2.map zx).eraseIdx d1.length=d1.map zx++d2.map zx:=by have:=xN (d1.map zx) (d2.map zx) de.1;rwa [zp] at this
 rw [s1,s2,f1,f2,m1,m2] at hm;have lp:(aG ((c1.map λl=>((0:Int),l))++((0:Int),ce) :: c2.map λl=>((0:Int),l))).length=(aG (c1.map λl=>((0:Int),l))).length+(ce.2.length+(aG (c2.map λl=>((0:Int),l))).length):=by simp [vH,tY,aM]
 have hM0:(aM 0 ce.2++aM 1 de.2).length=ce.2.length+de.2.length:=by simp [aM]
 refine aWp hR2 rfl hok (by simp [aM];omega) (by simp [aM];omega) ?_ ?_
 ·intro r hr;simp only [ze] at hr;rcases hr with (hr | hr) | hr | hr
  ·exact oP (q1 r hr)
  ·exact oP (q2 r hr)
  ·exact oP (q3 r hr)
  ·exact oP (q4 r hr)
 ·show sI P (g (mK ce.2.length de.2.length _ _ 0)) (g (mK ce.2.length de.2.length _ _ ce.2.length)) _ _ out yes e;rw [aWx pc,aWy pd,hM0];have hpl2:=congrArg (zh g) hpl;rw [zf] at hpl2;rw [show (λp=>g (mK ce.2.length de.2.length (aG (c1.map λl=>((0:Int),l))).length ((aG (c1.map λl=>((0:Int),l))).length+(aG (c2.map λl=>((0:Int),l))).length+(aG (d1.map λl=>((1:Int),l))).length) p))=g∘mK ce.2.length de.2.length (aG (c1.map λl=>((0:Int),l))).length ((aG (c1.map λl=>((0:Int),l))).length+(aG (c2.map λl=>((0:Int),l))).length+(aG (d1.map λl=>((1:Int),l))).length) from rfl,hpl2];rw [lp] at hm;simpa [zf,Function.comp_def,lp,z1] using hm
theorem uA{w:World}{B B':Nat}{e e':TypeId}{z z' n n':Nat}{v v':Value}{xs xs':List Value}(h:w.ownsRow B e z v n xs)(h':w.ownsRow B' e' z' v' n' xs')(hne:e≠e'):v.ownBlock=none\/v.ownBlock≠v'.ownBlock:=by
 obtain ⟨_,⟨rfl,_⟩ | ⟨g,cap,cur,rfl,_,hh,_⟩⟩:=h
 ·exact zd rfl
 ·refine zg λhe=>?_
  obtain ⟨_,⟨rfl,_⟩ | ⟨g',cap',cur',rfl,_,hh',_⟩⟩:=h'
  ·cases he
  ·cases he;rw [hh] at hh';cases hh';exact hne rfl
structure fS(w0:World)(B tp:Nat)(L:List (Int×Lt))(S rs:List Nat)(ns:List Bool)(rv nv:Value)(wr:World)(v:Value)(P:Tb)(g:Nat->Nat):Prop where
 tab:bT wr B tp v P
 rows:Rows (aG L) (P.map zx) g
 len:P.length<=(aG L).length
 pos:∀r∈L,0<r.2.2.length
 sts:(bJ 0 L).map g=S
 orv:dF B wr rv rs
 onv:wr.ownsRow B 4 1 nv ns.length (ns.map Value.bool)
 apart:∀p∈P,p.2.ownBlock=none\/p.2.ownBlock≠rv.ownBlock
 low:Below B w0 wr
 big:B<=wr.heap.size
section
variable {w0:World}{B tp:Nat}{L:List (Int×Lt)}{S rs:List Nat}{ns:List Bool}{rv nv:Value}{wr:World}{v:Value}{P:Tb}{g:Nat->Nat}
theorem fS.put(h:fS w0 B tp L S rs ns rv nv wr v P g){o up:Int}{x:Lt}(hup:up=60*o)(ht:aW x.2 1=true){k:Nat}{s':List Nd}{w':World}{v':Value}{P':Tb}(hp:nB wr B tp v P up x.2 k s' w' v' P'):∃g',fS w0 B tp (L++[(o,x)]) (S++[k]) rs ns rv nv w' v' P' g':=by
 subst hup;obtain ⟨g2,p2⟩:=hp.put.inv;have hr:=h.rows.put (o:=o) ht p2;have e1:aG (L++[(o,x)])=aG L++x.2.map λn=>(o,n):=by simp [aG]
 have hps:=p2.ps;simp [fI] at hps;have hlen:=hp.len;refine ⟨_,hp.tab,by rw [e1];exact hr,?_,?_,?_,?_,?_,λp hpm=>?_,?_,zv h.big hp.far.size⟩
 ·rw [e1];have:=h.len;simp;omega
 ·intro r hr;rcases ze.1 hr with hr | hr
  ·exact h.pos r hr
  ·simp at hr;subst hr;exact oP ht
 ·rw [tZ,zw,<-h.sts];congr 1
  ·apply zr;intro p hpm;have:=xM L 0 h.pos p hpm;exact kD (by omega)
  ·simp only [bJ,zl,List.map_nil];rw [show 0+(aG L).length=0+(aG L).length from rfl,zV,hps]
 ·exact hp.far.own h.orv (cD h.orv h.tab.box (by decide)) (uA h.orv h.tab.row (by decide))
 ·exact hp.far.own h.onv (cD h.onv h.tab.box (by decide)) (uA h.onv h.tab.row (by decide))
 ·rcases hp.old p hpm with ⟨q,hq,e⟩ | e | ⟨g,e,hg⟩
  ·rw [e];exact h.apart q hq
  ·exact zd e
  ·refine zg λhe=>?_
   rw [e] at he;have:=(aT h.orv g he.symm).2;omega
 ·exact h.low.trans (hp.far.low h.tab.high (λk e=>(aT h.tab.row k e).1) h.big)
theorem fS.row(h:fS w0 B tp L S rs ns rv nv wr v P g){k:Nat}{rv':Value}{w':World}{X:Obj}(ho:w'.ownsRow B 3 1 rv' (rs.length+1) ((rs.map λk=>Value.int .i64 (k:Nat))++[.int .i64 (k:Nat)]))(hg:(wr.alloc X).grownBy w' rv.ownBlock)(hm:aX (wr.alloc X) rv rv'):fS w0 B tp L S (rs++[k]) ns rv' nv w' v P g:=by
 have hbA:Below wr.heap.size wr (wr.alloc X):=(Below.refl _ wr).alloc (zz _) _;have ht:=h.tab.below hbA;have hr:=aU h.orv hbA (zz _);have hn:=aU h.onv hbA (zz _);refine ⟨ht.grown hg (cD hr ht.box (by decide)) (uA ht.row hr (by decide)) h.apart,h.rows,h.len,h.pos,h.sts,?_,cG hn hg ?_,λp hp=>?_,?_,?_⟩
 ·unfold dF;simpa using ho
 ·rcases uA hn hr (by decide) with e | e
  ·exact zd e
  ·exact zg e
 ·rcases h.apart p hp with e | e
  ·exact zd e
  ·rcases hm with e' | ⟨g',e',hg'⟩
   ·exact zg (by rw [e'];exact e)
   ·refine zg λhe=>?_
    rw [e'] at he;have:=(aT (h.tab.parts p hp) g' he).2;simp at hg';omega
 ·exact h.low.trans ((hbA.mono h.big).trans (xF (λk e=>(aT h.orv k e).1) (by simp;have:=h.big;omega) hg))
 ·have:=h.big;exact zv this (zv (by simp) hg.size)
theorem fS.sign(h:fS w0 B tp L S rs ns rv nv wr v P g){b:Bool}{nv':Value}{w':World}{X:Obj}(ho:w'.ownsRow B 4 1 nv' (ns.length+1) (ns.map Value.bool++[.bool b]))(hg:(wr.alloc X).grownBy w' nv.ownBlock):fS w0 B tp L S rs (ns++[b]) rv nv' w' v P g:=by
 have hbA:Below wr.heap.size wr (wr.alloc X):=(Below.refl _ wr).alloc (zz _) _;have ht:=h.tab.below hbA;have hr:=aU h.orv hbA (zz _);have hn:=aU h.onv hbA (zz _);refine ⟨ht.grown hg (cD hn ht.box (by decide)) (uA ht.row hn (by decide)) (λp hp=>uA (ht.parts p hp) hn (by decide)),h.rows,h.len,h.pos,h.sts,cG hr hg (uA hr hn (by decide)),?_,h.apart,?_,?_⟩
 ·simpa using ho
 ·exact h.low.trans ((hbA.mono h.big).trans (xF (λk e=>(aT h.onv k e).1) (by simp;have:=h.big;omega) hg))
 ·have:=h.big;exact zv this (zv (by simp) hg.size)
end
theorem aA9{α:Type}{l:List α}{x:α}{i:Nat}(h:i≠l.length):(l++[x]).eraseIdx i=l.eraseIdx i++[x]:=by
 rcases Nat.lt_or_ge i l.length with h1 | h1
 ·rw [List.eraseIdx_append_of_lt_length h1]
 ·rw [zs (by simp;omega),zs h1]
theorem aAa{α:Type}{l:List α}{x:α}{i:Nat}(h:i=l.length):(l++[x]).eraseIdx i=l.eraseIdx i:=by subst h;rw [zs (zz _),zo (zz _)];simp
structure aX1(P:Tb)(S:List Nat):Prop where
 ok:gP P
 few:P.length<=1000000
 pts:∀p∈P,p.1.parts.length<=1000000
 short:∀i (h:i<P.length),P[i].1.node.1.size<=1000000
 lt:∀r∈S,r<P.length
theorem aK7{L:List (Int×Lt)}{t:Tg}(h:t∈aG L):∃r∈L,t.2∈r.2.2:=by obtain ⟨r,hr,ht⟩:=List.mem_flatMap.1 h;obtain ⟨n,hn,rfl⟩:=zk.1 ht;exact ⟨r,hr,hn⟩
theorem fS.facts{w0:World}{B tp:Nat}{L:List (Int×Lt)}{S rs:List Nat}{ns:List Bool}{rv nv:Value}{wr:World}{v:Value}{P:Tb}{g:Nat->Nat}(h:fS w0 B tp L S rs ns rv nv wr v P g)(ht:∀r∈L,aW r.2.2 1=true)(hl:(aG L).length<=1000000):aX1 P S:=by
 have hok:∀t∈aG L,dU t.2=true:=λt hm=>by
  obtain ⟨r,hr,hn⟩:=aK7 hm;exact aBy _ _ (ht r hr) _ hn
 refine ⟨h.rows.tabOk rfl λp t hp=>?_,by have:=h.len;omega,λp hp=>?_,λi hi=>?_,λr hr=>?_⟩
 ·obtain ⟨r,hr,hn⟩:=aK7 (List.mem_of_getElem? hp);exact aUy (ht r hr) _ hn
 ·obtain ⟨i,hi,rfl⟩:=za hp;obtain ⟨t,hm,_,k1,k2⟩:=h.rows.node rfl hi;cases hv:aF t.2
  ·rw [k2 hv];have:=(aCl (hok t hm)).2;omega
  ·rw [k1 hv];simp
 ·obtain ⟨t,hm,k1,_⟩:=h.rows.node rfl hi;rw [k1];have:=aGt (hok t hm);omega
 ·rw [<-h.sts] at hr;obtain ⟨p,hp,rfl⟩:=zk.1 hr;have:=xM L 0 h.pos p hp;have:=h.rows.lt (p:=p) (by omega);simpa using this
theorem fS.start(w0:World):fS w0 w0.heap.size w0.heap.size [] [] [] [] (.slice none 0 0) (.slice none 0 0) (w0.alloc (.cells #[.slice none 0 0] 63)) (.slice none 0 0) [] id:=
 ⟨bT.new w0,Rows.start,by simp,by simp,rfl,zt _ _ _ _,zt _ _ _ _,by simp,(Below.refl _ w0).alloc (zz _) _,by simp⟩
def aDh(w0:World)(c:List Lt)(i k:Nat)(rv nv av:Value)(wr:World):Prop:=
 ∃(S:List Nat) (v:Value) (P:Tb) (g:Nat->Nat) (an:Nat),av=.int .i64 (an:Nat)/\(i<k->S[i]?=some an)/\S.length=k/\fS w0 w0.heap.size w0.heap.size ((c.take k).map λl=>((0:Int),l)) S (S.eraseIdx i) (((c.take k).map zx).eraseIdx i) rv nv wr v P g
def aAb(w0:World)(c d:List Lt)(i j k an:Nat)(rv nv bv:Value)(wr:World):Prop:=
 ∃(S1 S2:List Nat) (v:Value) (P:Tb) (g:Nat->Nat) (bn:Nat),bv=.int .i64 (bn:Nat)/\S1[i]?=some an/\S1.length=c.length/\(j<k->S2[j]?=some bn)/\S2.length=k/\fS w0 w0.heap.size w0.heap.size ((c.map λl=>((0:Int),l))++(d.take k).map λl=>((1:Int),l)) (S1++S2) (S1.eraseIdx i++S2.eraseIdx j) ((c.map zx).eraseIdx i++((d.take k).map zx).eraseIdx j) rv nv wr v P g
theorem fS.putT{w0:World}{B tp:Nat}{L0:List (Int×Lt)}{c:List Lt}{k:Nat}{S rs:List Nat}{ns:List Bool}{rv nv:Value}{wr:World}{v:Value}{P:Tb}{g:Nat->Nat}{o up:Int}(h:fS w0 B tp (L0++(c.take k).map λl=>(o,l)) S rs ns rv nv wr v P g)(hlt:k<c.length)(hup:up=60*o)(nc:jE c){kx:Nat}{s':List Nd}{w':World}{v':Value}{P':Tb}(hp:nB wr B tp v P up c[k].2 kx s' w' v' P'):∃g',fS w0 B tp (L0++(c.take (k+1)).map λl=>(o,l)) (S++[kx]) rs ns rv nv w' v' P' g':=by obtain ⟨g',h'⟩:=h.put (o:=o) (x:=c[k]) hup (nc.term c[k] (zu _)).1 hp;refine ⟨g',?_⟩;rw [zn hlt,zw,<-z4];exact h'
theorem fS.few{w0:World}{B tp:Nat}{L:List (Int×Lt)}{S rs:List Nat}{ns:List Bool}{rv nv:Value}{wr:World}{v:Value}{P:Tb}{g:Nat->Nat}(h:fS w0 B tp L S rs ns rv nv wr v P g)(hL:∀r∈L,r.2.2.length<=60)(hl:L.length<=16):P.length<=1000:=by
 have key:∀L:List (Int×Lt),(∀r∈L,r.2.2.length<=60)->(aG L).length<=60*L.length:=by
  intro L;induction L with
  | nil=>intro _;simp [aG]
  | cons r L ih=>
   intro h;rw [tY];have h1:=h r (by simp);have h2:=ih λx hx=>h x (by simp [hx])
   simp [aM];omega
 have h1:=key L hL;have h2:=h.len;omega
theorem aK8{w w0:World}{a1:Option Addr}{c:List Lt}(h1:bD w a1 c)(hD:Below w.heap.size w w0)(nc:jE c)(up:Int)(hup:0<=up/\up<=1000){k:Nat}(hk:k<c.length):∃b1 o1 aa ac,a1=some ⟨b1,o1,none⟩/\∀wr v P,Below w0.heap.size w0 wr->bT wr w0.heap.size w0.heap.size v P->P.length<=10000->w0.heap.size<=wr.heap.size->
  wr.cell? ⟨b1,o1+k*2,none⟩=some (.bool c[k].1)/\wr.cell? ⟨b1,o1+k*2+1,none⟩=some (.slice aa c[k].2.length ac)/\(∀w',Below w0.heap.size w0 w'->w'.cell? ⟨b1,o1+k*2,none⟩=some (.bool c[k].1))/\
  Calls z5 25 #[.pointer (some ⟨w0.heap.size,0,none⟩),.slice aa c[k].2.length ac,.int .i64 0,.int .i64 up] wr λe w'=>∃(kx i':Nat) (v':Value) (P':Tb) (s':List Nd),e=.returned (.tuple #[.int .i64 (kx:Nat),.int .i64 (i':Nat)])/\nB wr w0.heap.size w0.heap.size v P up c[k].2 kx s' w' v' P':=by
 obtain ⟨b1,o1,aa,ac,rfl,e1,e2,hn⟩:=h1.cell k hk;obtain ⟨t1,t2⟩:=nc.term c[k] (zu _);refine ⟨b1,o1,aa,ac,rfl,λwr v P hb ht hP hz=>?_⟩;have hbw:Below w.heap.size w wr:=hD.trans (hb.mono hD.size);have hwr:∀w',Below w0.heap.size w0 w'->w'.cell? ⟨b1,o1+k*2,none⟩=some (.bool c[k].1):=λw' hb'=>Below.at' (hD.trans (hb'.mono hD.size)) (zz _) e1
 refine ⟨hwr wr hb,Below.at' hbw (zz _) e2,hwr,?_⟩;refine (aT6 w0.heap.size w0.heap.size up hup aa ac c[k].2 t2 (λp hp=>Nat.lt_of_lt_of_le (vF hn t1 p hp) hD.size) c[k].2.length 0 0 v P wr (by simp) (by simpa using t1) (hn.below hbw (zz _)) ht (by simp;omega) hz).mono ?_;rintro e w' ⟨kx,i',rfl,_,_,_,v',P',hp⟩;exact ⟨kx,i',v',P',_,rfl,by simpa using hp⟩
theorem aX2{L:List (Int×Lt)}(h:∀r∈L,r.2.2.length<=60):(aG L).length<=60*L.length:=by
 induction L with
 | nil=>simp [aG]
 | cons r L ih=>
  rw [tY];have h1:=h r (by simp);have h2:=ih λx hx=>h x (by simp [hx])
  simp [aM];omega
end
end Go.Proofs.YtcldkjcpofjmhaaGreatDoor
