import Derived.Test.YtcldkjcpofjmhaaGreatDoorUWr0M
import Derived.Test.YtcldkjcpofjmhaaGreatDoorVExtM
import Derived.Test.YtcldkjcpofjmhaaGreatDoorOOrderM
open And renaming intro→zl
open Array renaming getElem?_eq_some_iff→zz
open List renaming append_assoc→zv,mem_append→zu,getElem_of_mem→zt,length_append→zs,eraseIdx_of_length_le→zr,mem_map→zp,map_append→zo,eraseIdx_append_of_length_le→zn,take_succ_eq_append_getElem→zm,mem_of_mem_take→zj,replicate→zh,getElem?_eq_some_iff→zg,mem_of_mem_eraseIdx→zf,cons_append→ze,length_cons→zd,length_eraseIdx_le→zc,take_length→z6
open Nat renaming le_refl→zx,le_trans→zq,zero_add→zb,zero_le→za
open Prod renaming snd→zy
namespace Go.Proofs.YtcldkjcpofjmhaaGreatDoor
open _root_.Go.Proofs.Tryz renaming prog→zi
open Value renaming ownBlock→zw
open World renaming cell?→zk,grownBy→z5
set_option maxHeartbeats 8000000
set_option maxRecDepth 100000
section
open Go.RowKit Go.Shelf Go.WideMaps
attribute [local go_sem] Oper.semAt_some
theorem bE.cleared{B tb:Nat}{vn ve vl vm:Value}{L:List Nd}{F:List Nat}{gs cs:Nat}:∀(m o:Nat) (w:World) (S:List Int),bE w B tb vn ve vl (.slice (some ⟨gs,0,none⟩) L.length cs) vm L F S->o+m=L.length->(∀i,i<o->S[i]?=some 0)->
  ∃S',bE (w.setCells gs o (zh m (.int .i64 0))) B tb vn ve vl (.slice (some ⟨gs,0,none⟩) L.length cs) vm L F S'/\(∀i,i<L.length->S'[i]?=some 0)/\w.grownBy (w.setCells gs o (zh m (.int .i64 0))) (some gs):=by
 intro m;induction m with
 | zero=>
  intro o w S h ho h0;exact ⟨S,h,λi hi=>h0 i (by omega),z5.refl _ _⟩
 | succ m ih=>
  intro o w S h ho h0;obtain ⟨h1,h2⟩:=h.sized o 0;have hls:=h.ls;obtain ⟨S',k1,k2,k3⟩:=ih (o+1) _ _ h1 (by omega) (λi hi=>by
   by_cases e:i=o
   ·subst e;rw [List.getElem?_set_self (by omega)]
   ·rw [List.getElem?_set_ne (λx=>e x.symm)];exact h0 i (by omega))
  exact ⟨S',k1,k2,h2.trans k3⟩
theorem xF{w w':World}{o:Option Nat}{B:Nat}(ho:∀g,o=some g->B<=g)(hB:B<=w.heap.size)(hg:w.grownBy w' o):Below B w w':=
 ⟨hg.os,hg.tape,hg.output,hg.size,λk hk=>hg.block k (by omega) (λe=>by have:=ho k e.symm;omega)⟩
structure aVc(w:World)(B tb:Nat)(vn ve vl vs vm:Value)(L:List Nd)(rt:Nat->Nat)(a b:Nat)(ok:Bool)(w':World):Prop where
 size:w.heap.size<=w'.heap.size
 low:Below B w w'
 keep:∀k,k<w.heap.size->vl.ownBlock≠some k->vs.ownBlock≠some k->w'.heap[k]?=w.heap[k]?
 yes:ok=true↔eW (aD L) (Cl (aD L) λi j=>rt i=rt j\/(i=a/\j=b))/\bF (aD L) (Cl (aD L) λi j=>rt i=rt j\/(i=a/\j=b)) a
 st:ok=true->∃F' S' rt' d',bE w' B tb vn ve vl vs vm L F' S'/\gD F' rt' d'/\jN L rt'/\dQ (aD L) (λi j=>rt' i=rt' j) (λ_ _=>False)/\(∀i j,rt' i=rt' j↔Cl (aD L) (λi j=>rt i=rt j\/(i=a/\j=b)) i j)/\qR L rt' S'/\∀r:Nat,S'[r]?≠some (-1)
theorem aVd(B tb:Nat)(vn ve vl vs vm:Value)(L:List Nd)(F:List Nat)(rt d:Nat->Nat)(hL:dE L)(hF:gD F rt d)(hN:jN L rt)(hC:dQ (aD L) (λi j=>rt i=rt j) λ_ _=>False)(S:List Int)(a b:Nat)(w:World)(h:bE w B tb vn ve vl vs vm L F S)(ha:a<L.length)(hb:b<L.length) :
  Calls zi 58 #[.pointer (some ⟨tb,0,none⟩),.int .i64 a,.int .i64 b] w λe w'=>∃ok:Bool,e=.returned (.bool ok)/\aVc w B tb vn ve vl vs vm L rt a b ok w':=by
 obtain ⟨gs,cs,n0,rfl,hn0,c1,cf1⟩:=h.size ha;have hls:=h.ls;have hcl:∀ty,(Builtin.clear_ #[25] ty #[.slice (some ⟨gs,0,none⟩) L.length cs]).run zi w=.ok (.tuple #[]) (w.setCells gs 0 (zh L.length (.int .i64 0))):=λty=>
  Lib.run_clear_slice w _ 3 ty (.int .i64 0) Tryz.underlying25 (λw=>by obtain ⟨iI,hI,hI0,hI1,hI2⟩:=info_parts oT;simp [zeroValue,typeInfo,hI,hI0]) rfl rfl gs 0 _ _ (by omega) (λj hj=>by
   obtain ⟨g',c',n',e1,e2,e3,e4⟩:=h.size hj;simp at e1;obtain ⟨rfl,_⟩:=e1;rw [zb,e3];rfl) (λj hj=>by
   obtain ⟨g',c',n',e1,e2,e3,e4⟩:=h.size hj;simp at e1;obtain ⟨rfl,_⟩:=e1;rw [zb,e4])
 obtain ⟨S1,h1,h2,h3⟩:=bE.cleared L.length 0 w S h (by omega) (λi hi=>by omega);have c3:=h.c3;clear c1 cf1 hn0 hls;generalize w.setCells gs 0 (zh L.length (.int .i64 0))=w1 at *;have CJ:=aA (aUg B tb vn ve vl _ vm L S1 hL (mA F+1) F rt d a b w1 (by omega) h1 hF hN ha hb);have HH:=aA h;have H2:=aA h2;have H3:=aA h3;have HC:=aA hC;have HRB:=aA (aT h.rs gs rfl).1;clear h h1 h2 h3 hF hN hC;go_enter Tryz.func58,Tryz.ntmps58;go_wp2_with (first
  | (go_at_call 88;refine (aB CJ).mono ?_)
  | go_in)
 rintro e w2 ⟨ok,F2,rt2,d2,rfl,hres⟩;clear CJ hcl c3;have hbl:∀w3,w2.grownBy w3 (some gs)->Below B w w3:=λw3 hg=>by
  have hB:B<=w.heap.size:=zq HRB.out (Nat.le_of_lt (aT HH.out.rs gs rfl).2);have s1:=H3.out.size;have s2:=hres.far.size;exact ((xF (λg e=>by simp at e;subst e;exact HRB.out) hB H3.out).trans (xF (λg e=>(aT HH.out.rl g e).1) (by omega) hres.far)).trans (xF (λg e=>by simp at e;subst e;exact HRB.out) (by omega) hg)
 have hkp:∀w3,w2.grownBy w3 (some gs)->∀k,k<w.heap.size->vl.ownBlock≠some k->gs≠k->w3.heap[k]?=w.heap[k]?:=λw3 hg k k1 k2 k3=>by
  have s1:=H3.out.size;have s2:=hres.far.size;rw [hg.block k (by omega) (by simpa using λe=>k3 e.symm),hres.far.block k (by omega) (λe=>k2 e.symm),H3.out.block k k1 (by simpa using λe=>k3 e.symm)]
 have hsem:=hres.sem (λi j=>rt i=rt j\/(i=a/\j=b)) (λ_ _=>False) (λi j e=>Cl.base (Or.inl e)) (Cl.base (Or.inr ⟨rfl,rfl⟩)) (HC.out.mono λ_ _ e=>e.elim);cases ok with
 | false=>
  have HR:=aA (hsem.2 rfl);have HBL:=aA (hbl w2 (z5.refl _ _));have HKP:=aA (hkp w2 (z5.refl _ _));clear hres hsem hbl hkp;go_wp2;go_ret;exact ⟨false,rfl,HBL.out.size,HBL.out,λk k1 k2 k3=>HKP.out k k1 k2 (by simpa [zw] using k3),⟨λe=>(by cases e),λe=>absurd e.1 HR.out⟩,λe=>(by cases e)⟩
 | true=>
  obtain ⟨j1,j2,j3⟩:=hsem.1 rfl;obtain ⟨k1,k2⟩:=j3.done (qP rt2) j2 (λi j e=>by
   rcases e with e | ⟨rfl,rfl⟩
   ·exact hres.mono i j e
   ·exact j1)
  have hz:∀r:Nat,S1[r]?≠some (-1):=λr e=>by
   have hr:=(zg.1 e).1;rw [hres.tm.ls] at hr;rw [H2.out r hr] at e;cases e
  have CS:=aA (aJ9 B tb vn ve vl _ vm L F2 rt2 d2 hL hres.forest hres.named j3 (kC S1+1) S1 a w2 (by omega) hres.tm (λp n e=>by
   have hr:=(zg.1 e).1;rw [hres.tm.ls] at hr;rw [H2.out p hr] at e;simp at e;exact Or.inl e.symm) (λr e=>absurd e (hz r)) ha)
  have HK1:=aA k1;have HK2:=aA k2;have HJ3:=aA j3;have HZ:=aA hz;have HBL:=aA hbl;have HKP:=aA hkp;have HRES:=aA hres;clear hres hsem hbl hkp j1 j2 j3 k1 k2 hz;go_wp2_with (first
   | (go_at_call 89;refine (aB CS).mono ?_;rintro e w3 ⟨n,bs,S3,rfl,hsz⟩;have HSZ:=aA hsz;clear hsz)
   | go_in)
  go_ret;have hsz:=HSZ.out;have hlow:=HBL.out w3 hsz.far;have hie:∀i,bF (aD L) (λi j=>rt2 i=rt2 j) i↔bF (aD L) (Cl (aD L) λi j=>rt i=rt j\/(i=a/\j=b)) i:=λi=>bF.iff HK1.out
  refine ⟨bs,rfl,hlow.size,hlow,λk k1 k2 k3=>HKP.out w3 hsz.far k k1 k2 (by simpa [zw] using k3),?_,?_⟩
  ·cases bs with
   | true=>exact ⟨λ_=>⟨HK2.out,(hie a).1 (hsz.yes rfl).2.2.1⟩,λ_=>rfl⟩
   | false=>exact ⟨λe=>(by cases e),λe=>absurd ((hie a).2 e.2) (hsz.no rfl).2⟩
  ·rintro rfl;obtain ⟨z1,z2,z3,z4⟩:=hsz.yes rfl;exact ⟨F2,S3,rt2,d2,hsz.tm,HRES.out.forest,HRES.out.named,HJ3.out,HK1.out,z1,λr e=>HZ.out r ((z2 r).1 e)⟩
end
section
open Go.RowKit Go.Shelf Go.WideMaps
theorem bE.toRaw{w:World}{B tb:Nat}{vn ve vl vs vm:Value}{L:List Nd}{F:List Nat}{S:List Int}(h:bE w B tb vn ve vl vs vm L F S)(ne:ve.ownBlock≠none)(nl:vl.ownBlock≠none)(ns:vs.ownBlock≠none):bZ w B tb vn ve vl vs vm L (eD L) F S:=
 ⟨h.box,h.high,h.rn,by rw [gT];exact h.re,by rw [h.lf];exact h.rl,by rw [h.ls];exact h.rs,h.ab,h.ac,h.bc,ne,nl,ns⟩
structure gV(B tb mp:Nat)(nb:Option Nat)(M:List Tg)(a b:Nat)(ps:List Nat)(ls:List (List Nd))(w:World):Prop where
 tm:∃vn ve vl vs F rt d S,vn.ownBlock=nb/\bZ w B tb vn ve vl vs (.map (some mp)) (M.map zy) (eD (M.map zy)) F S/\iA M a b F rt d S/\(∀p,p<M.length->bF (aD (M.map zy)) (λi j=>rt i=rt j) p)/\aN (λp l=>aQ (aD (M.map zy)) (λi j=>rt i=rt j) rt [p] l) ps ls
 low:∀p∈ps,p<M.length
 first:gB w mp M
 big:B<=w.heap.size
 ne:mp≠tb
 mlow:B<=mp
 short:∀t∈M,t.2.1.size<=140737488355328
def oL(nb:Option Nat)(w w':World):Prop:=∀(k:Nat) (cs:Array Value) (T:TypeId) (fr:Nat×Nat),w.heap[k]?=some (.cells cs T fr)->T≠3->T≠137->nb≠some k->w'.heap[k]?=w.heap[k]?
def aJa(w:World)(nb nb':Option Nat):Prop:=nb'=nb\/∃g,nb'=some g/\w.heap.size<=g
section
variable {B tb mp:Nat}{nb:Option Nat}{M:List Tg}{a b:Nat}{ps:List Nat}{ls:List (List Nd)}{w:World}
theorem aVe(h:gV B tb mp nb M a b ps ls w)(o:Int)(ad:Option Addr)(c:Nat)(t:List Nd)(hn:cM w ad t)(ht:aW t 1=true)(hlow:∀p,ad=some p->p.block<B)(hlen:M.length+t.length<=1000000)(ho : -1000<=o/\o<=1000) :
  Calls zi 59 #[.pointer (some ⟨tb,0,none⟩),.int .i64 o,.slice ad t.length c] w λe w'=>e=.returned (.int .i64 M.length)/\∃nb',gV B tb mp nb' (M++aM o t) a b ps ls w'/\Below B w w'/\aJa w nb nb'/\oL nb w w':=by
 obtain ⟨vn,ve,vl,vs,F,rt,d,S,hnb,htm,hv,hen,hls⟩:=h.tm;have hl:(M.map zy).length=M.length:=by simp
 refine (aIq B tb mp vn ve vl vs (M.map zy) F S M o ad c t w htm rfl hv.whole h.first (by rw [hv.lf,hl]) (by rw [hv.ls,hl]) h.big h.ne h.mlow ht hn hlow (by rw [hl];exact hlen) ho).mono ?_;rintro e w' ⟨vn',ve',vl',vs',rfl,h1,h2,h3,h4⟩;have hs:(M++aM o t).map zy=M.map zy++t:=by rw [zo,tQ]
 refine ⟨by rw [hl],vn'.ownBlock,⟨⟨vn',ve',vl',vs',_,_,_,_,rfl,by rw [hs];exact h1,hv.add (o:=o) ht,?_,?_⟩,λp hp=>by have:=h.low p hp;simp;omega,h2,zq h.big h3.low.size,h.ne,h.mlow,?_⟩,h3.low,by rw [<-hnb];exact h4,by rw [<-hnb];exact h3.nod⟩
 ·intro p hp;rw [hs];have hp':p<M.length+t.length:=by simpa using hp
  exact hv.endsAll (o:=o) ht hen (M.length+t.length-p) p (by omega)
 ·rw [hs];have key:∀{ps:List Nat} {ls:List (List Nd)},aN (λp l=>aQ (aD (M.map zy)) (λi j=>rt i=rt j) rt [p] l) ps ls->(∀p∈ps,p<M.length)->aN (λp l=>aQ (aD (M.map zy++t)) (λi j=>cW M (M++t.map λn=>(o,n)) rt i=cW M (M++t.map λn=>(o,n)) rt j) (cW M (M++t.map λn=>(o,n)) rt) [p] l) ps ls:=by
   intro ps ls h;induction h with
   | nil=>intro _;exact aN.nil
   | cons c _ ih=>
    intro hp;exact aN.cons (hv.exp (o:=o) c (λi hi=>by simp at hi;subst hi;exact hp _ (by simp))) (ih λp hq=>hp p (by simp [hq]))
  exact key hls h.low
 ·intro x hx;rcases zu.1 hx with hx | hx
  ·exact h.short x hx
  ·obtain ⟨n,hn',rfl⟩:=zp.1 hx;obtain ⟨k,hk,rfl⟩:=zt hn';exact hn.short k hk
theorem aVf(h:gV B tb mp nb M a b ps ls w)(p:Nat)(hp:p<M.length)(hM:M.length<=1000000) :
  Calls zi 92 #[.pointer (some ⟨tb,0,none⟩),.int .i64 p] w λe w'=>∃v y,e=.returned (.tuple #[v,.bool y])/\Below B w w'/\w.heap.size<=w'.heap.size/\oL nb w w'/\∃l,
   (y=true->l.length<=500/\v.ownBlock≠none/\w'.ownsRow w.heap.size 36 2 v l.length (aH l)/\gV B tb mp nb M a b (ps++[p]) (ls++[l]) w')/\
   (y=false->v=.slice none 0 0/\500<l.length/\gV B tb mp nb M a b (ps++[p]) (ls++[l]) w'):=by
 obtain ⟨vn,ve,vl,vs,F,rt,d,S,hnb,htm,hv,hen,hls⟩:=h.tm;have hl:(M.map zy).length=M.length:=by simp
 have hin:=htm.toIn (by rw [hv.lf,hl]) (by rw [hv.ls,hl]) (by rw [hl];exact hM) (λn hn=>by obtain ⟨t,ht,rfl⟩:=zp.1 hn;exact h.short t ht);refine (aVz B tb vn ve vl vs _ (M.map zy) F rt d hv.whole hv.forest hv.named hv.cl S p w hin hv.sz (λr e=>absurd e (hv.none r)) (by rw [hl];exact hp)).mono ?_;rintro e w' ⟨v,y,S',rfl,r⟩;obtain ⟨k1,k2⟩:=r.keep (hen p hp);have hfar:Below B w w':=⟨r.far.os,r.far.tape,r.far.output,r.far.size,λk hk=>r.far.block k (by have:=h.big;omega) (λe=>by have:=(aT htm.rs k e.symm).1;omega)⟩;have hst:oL nb w w':=λk cs T fr hk k1 _ _=>r.far.block k (zz.1 hk).1 (λe=>by
  obtain ⟨_,⟨rfl,_⟩ | ⟨g,cap,cur,rfl,_,hh,_⟩⟩:=htm.rs
  ·simp [zw] at e
  ·simp [zw] at e;subst e;rw [hh] at hk;simp at hk;exact k1 hk.2.1.symm)
 have hcon:∀l,aQ (aD (M.map zy)) (λi j=>rt i=rt j) rt [p] l->gV B tb mp nb M a b (ps++[p]) (ls++[l]) w':=λl hx=>
  ⟨⟨vn,ve,vl,vs,F,rt,d,S',hnb,r.tm.toRaw htm.ne htm.nl htm.ns,⟨hv.whole,hv.lf,by rw [r.tm.ls,hl],hv.forest,hv.named,hv.cl,hv.iff,k1,λq e=>hv.none q ((k2 q).1 e),hv.ha,hv.hb⟩,hen,hls.snoc hx⟩,λq hq=>by
   rcases zu.1 hq with hq | hq
   ·exact h.low q hq
   ·simp at hq;subst hq;exact hp,h.first.grown r.far (pF htm.rs h.first),zq h.big r.far.size,h.ne,h.mlow,h.short⟩
 cases y with
 | true=>
  obtain ⟨_,e2,l,e3,e4,e5⟩:=r.yes rfl;exact ⟨v,true,rfl,hfar,r.far.size,hst,l,λ_=>⟨e4,e2,e5,hcon l e3⟩,(λe=>by cases e)⟩
 | false=>
  obtain ⟨e1,e2⟩:=r.no rfl;obtain ⟨l,e3,e4⟩ : ∃l,aQ (aD (M.map zy)) (λi j=>rt i=rt j) rt [p] l/\500<l.length:=by
   rcases e2 with e2 | e2
   ·exact absurd (hen p hp) e2
   ·exact e2
  exact ⟨v,false,rfl,hfar,r.far.size,hst,l,(λe=>by cases e),λ_=>⟨e1,e4,hcon l e3⟩⟩
end
def hH(c:List Lt)(out j:Nat):List Lt:=(c.take j).eraseIdx out
theorem aJb{c:List Lt}{out:Nat}(h:out<c.length):hH c out (out+1)=hH c out out:=by
 unfold hH;have hl:(c.take out).length=out:=by simp;omega
 rw [zm h,zn (by omega),hl,Nat.sub_self,zr (l:=c.take out) (by omega)];simp
theorem aJc{c:List Lt}{out j:Nat}(h:j<c.length)(hne:j≠out):hH c out (j+1)=hH c out j++[c[j]]:=by
 unfold hH;rw [zm h];have hl:(c.take j).length=j:=by simp;omega
 by_cases ho:out<j
 ·rw [List.eraseIdx_append_of_lt_length (by omega)]
 ·rw [zn (by omega),zr (l:=c.take j) (by omega),zr (by simp;omega)]
theorem aJd(c:List Lt)(out:Nat):hH c out c.length=c.eraseIdx out:=by unfold hH;rw [z6]
theorem aVg(c:List Lt)(out:Nat):hH c out 0=[]:=by simp [hH]
def bI:Nat->List (List Lt×Nat)->List (Int×Lt)
 | _,[]=>[]
 | o,p :: ps=>((p.1.eraseIdx p.2).map λl=>((o:Int),l))++bI (o+1) ps
theorem aJe:∀(ps:List (List Lt×Nat)) (o k:Nat) (h:k<ps.length),bI o (ps.take (k+1))=bI o (ps.take k)++((ps[k].1.eraseIdx ps[k].2).map λl=>(((o+k:Nat):Int),l)):=by
 intro ps;induction ps with
 | nil=>intro o k h;simp at h
 | cons p ps ih=>
  intro o k h;cases k with
  | zero=>simp [bI]
  | succ k=>
   simp only [List.take_succ_cons,bI,List.getElem_cons_succ,zv];rw [ih (o+1) k (by simpa using h)];congr 2
   simp only [show o+1+k=o+(k+1) by omega]
theorem aJf(R:List (Int×Lt))(r:Int×Lt):aG (R++[r])=aG R++r.2.2.map λn=>(r.1,n):=by simp [aG]
theorem aJg:∀(R:List (Int×Lt)) (n:Nat) (r:Int×Lt),bJ n (R++[r])=bJ n R++[n+(aG R).length]:=by
 intro R;induction R with
 | nil=>intro n r;simp [bJ,aG]
 | cons x R ih=>
  intro n r;simp only [ze,bJ,ih];rw [aA3];simp;omega
theorem aVh(R:List (Int×Lt))(ls:List (List Nd))(h:R.length=ls.length)(r:Int×Lt)(l:List Nd):cK (R++[r]) (ls++[l])=cK R ls++[(r.2.1,l)]:=by unfold cK;rw [List.zipWith_append h];rfl
section
variable {B tb mp:Nat}{nb:Option Nat}{M:List Tg}{a b:Nat}{ps:List Nat}{ls:List (List Nd)}{w w':World}
theorem gV.below(h:gV B tb mp nb M a b ps ls w)(hb:Below w.heap.size w w'):gV B tb mp nb M a b ps ls w':=by obtain ⟨vn,ve,vl,vs,F,rt,d,S,hnb,htm,hr⟩:=h.tm;exact ⟨⟨vn,ve,vl,vs,F,rt,d,S,hnb,htm.below hb,hr⟩,h.low,h.first.at (hb.block mp h.first.lt),zq h.big hb.size,h.ne,h.mlow,h.short⟩
theorem gV.lits(h:gV B tb mp nb M a b ps ls w){v:Value}{n B':Nat}{xs:List Value}(ho:w.ownsRow B' 39 2 v n xs)(hg:w.grownBy w' v.ownBlock):gV B tb mp nb M a b ps ls w':=by obtain ⟨vn,ve,vl,vs,F,rt,d,S,hnb,htm,hr⟩:=h.tm;exact ⟨⟨vn,ve,vl,vs,F,rt,d,S,hnb,htm.grown hg (cD ho htm.box (by decide)) (bV htm.rn ho (by decide)) (bV htm.re ho (by decide)) (bV htm.rl ho (by decide)) (bV htm.rs ho (by decide)),hr⟩,h.low,h.first.grown hg (pF ho h.first),zq h.big hg.size,h.ne,h.mlow,h.short⟩
theorem gV.nbT(h:gV B tb mp nb M a b ps ls w){k:Nat}(hk:nb=some k):∃cs,w.heap[k]?=some (.cells cs 36):=by
 obtain ⟨vn,ve,vl,vs,F,rt,d,S,hnb,htm,hr⟩:=h.tm;rw [<-hnb] at hk;obtain ⟨_,⟨rfl,_⟩ | ⟨g,cap,cur,rfl,_,hh,_⟩⟩:=htm.rn
 ·simp [zw] at hk
 ·simp [zw] at hk;subst hk;exact ⟨_,hh⟩
theorem gV.pure(h:gV B tb mp nb M a b ps ls w):oN M a b ps ls:=by obtain ⟨vn,ve,vl,vs,F,rt,d,S,_,_,hv,hen,hls⟩:=h.tm;exact ⟨F,rt,d,S,hv,hen,hls,h.low⟩
theorem gV.nodes(h:gV B tb mp nb M a b ps ls w)(hM:M.length<=1000000):∀l∈ls,uO l/\∀n∈l,n.1.size<=140737488355328:=by
 obtain ⟨vn,ve,vl,vs,F,rt,d,S,_,htm,hv,hen,hls⟩:=h.tm;have key:∀{ps:List Nat} {ls:List (List Nd)},aN (λp l=>aQ (aD (M.map zy)) (λi j=>rt i=rt j) rt [p] l) ps ls->(∀p∈ps,p<M.length)->∀l∈ls,∀n∈l,(aF n=true/\∃i,i<(M.map zy).length/\n=(⟨#[]⟩,(rt i:Int)))\/(aF n=false/\n∈M.map zy):=by
  intro ps ls h;induction h with
  | nil=>intro _ l hl;simp at hl
  | cons c _ ih=>
   intro hp l hl;rcases List.mem_cons.1 hl with rfl | hl
   ·exact aWg hv.whole c (λi hi=>by simp at hi;subst hi;simpa using hp _ (by simp))
   ·exact ih (λp hq=>hp p (by simp [hq])) l hl
 intro l hl;refine ⟨λn hn hvn=>?_,λn hn=>?_⟩
 ·rcases key hls h.low l hl n hn with ⟨_,i,hi,rfl⟩ | ⟨e,_⟩
  ·have h1:=hv.rt_lt (p:=i) (by simpa using hi);constructor
   ·simp
   ·simp;omega
  ·rw [hvn] at e;cases e
 ·rcases key hls h.low l hl n hn with ⟨_,i,hi,rfl⟩ | ⟨_,e⟩
  ·exact za _
  ·obtain ⟨t,ht,rfl⟩:=zp.1 e;exact h.short t ht
end
theorem oL.row{nb:Option Nat}{w w':World}(hs:oL nb w w'){B:Nat}{e:TypeId}{s n:Nat}{v:Value}{xs:List Value}(ho:w.ownsRow B e s v n xs)(h1:e≠3)(h2:e≠137)(hn:∀k,v.ownBlock=some k->nb≠some k):w'.ownsRow B e s v n xs:=by
 obtain ⟨h0,⟨rfl,h3⟩ | ⟨g,cap,cur,rfl,hb,hh,hr⟩⟩:=ho
 ·exact ⟨h0,Or.inl ⟨rfl,h3⟩⟩
 ·exact ⟨h0,Or.inr ⟨g,cap,cur,rfl,hb,by rw [hs g cur e (0,0) hh h1 h2 (hn g rfl)];exact hh,hr⟩⟩
structure nS(w0:World)(B tb mp:Nat)(M0:List Tg)(a b:Nat)(R:List (Int×Lt))(v:Value)(nb:Option Nat)(ls:List (List Nd))(Q:List (Lt×Value))(wr:World):Prop where
 con:gV B tb mp nb (M0++aG R) a b (bJ M0.length R) ls wr
 len:R.length=ls.length
 made:Q.map Prod.fst=cK R ls
 row:wr.ownsRow B 39 2 v Q.length (bA Q)
 atoms:∀q∈Q,fG wr B q.2 q.1.2/\q.1.2.length<=500/\∀k,q.2.ownBlock=some k->nb≠some k
 low:Below B w0 wr
section
variable {w0 wr wb w2 w3 w5:World}{B tb mp:Nat}{M0:List Tg}{a b:Nat}{R:List (Int×Lt)}{v v3 v5:Value}{nb nb':Option Nat}{ls:List (List Nd)}{Q:List (Lt×Value)}{o:Int}{x:Lt}{l:List Nd}
theorem nS.below(h:nS w0 B tb mp M0 a b R v nb ls Q wr)(hb:Below wr.heap.size wr wb):nS w0 B tb mp M0 a b R v nb ls Q wb:=
 ⟨h.con.below hb,h.len,h.made,aU h.row hb (zx _),λq hq=>⟨aU (h.atoms q hq).1 hb (zx _),(h.atoms q hq).2⟩,h.low.trans (hb.mono h.con.big)⟩
theorem nS.rows(h:nS w0 B tb mp M0 a b R v nb ls Q wr)(hs:oL nb wr w2):w2.ownsRow B 39 2 v Q.length (bA Q)/\∀q∈Q,fG w2 B q.2 q.1.2:=by refine ⟨hs.row h.row (by decide) (by decide) (λk hk e=>?_),λq hq=>hs.row (h.atoms q hq).1 (by decide) (by decide) (h.atoms q hq).2.2⟩;obtain ⟨cs,hc⟩:=h.con.nbT e;exact cD h.row hc (by decide) hk
theorem nS.add(h:nS w0 B tb mp M0 a b R v nb ls Q wr)(hb:Below B wr w2)(hm:aJa wr nb nb')(hs:oL nb wr w2) :
  (w2.ownsRow B 39 2 v Q.length (bA Q)/\∀q∈Q,fG w2 B q.2 q.1.2/\q.1.2.length<=500/\∀k,q.2.ownBlock=some k->nb'≠some k)/\Below B w0 w2:=by
 obtain ⟨r1,r2⟩:=h.rows hs;refine ⟨⟨r1,λq hq=>⟨r2 q hq,(h.atoms q hq).2.1,λk hk e=>?_⟩⟩,h.low.trans hb⟩;rcases hm with m | ⟨g,m,hg⟩
 ·exact (h.atoms q hq).2.2 k hk (by rw [<-m,e])
 ·rw [m] at e;simp at e;have:=(aT (h.atoms q hq).1 k hk).2;omega
theorem nS.put(hlen:R.length=ls.length)(hmade:Q.map Prod.fst=cK R ls)(hr:w2.ownsRow B 39 2 v Q.length (bA Q)/\∀q∈Q,fG w2 B q.2 q.1.2/\q.1.2.length<=500/\∀k,q.2.ownBlock=some k->nb≠some k)(hlow:Below B w0 w2)(hc2:gV B tb mp nb (M0++aG R++aM o x.2) a b (bJ M0.length R) ls w2)
  (hc:gV B tb mp nb (M0++aG R++aM o x.2) a b (bJ M0.length R++[(M0++aG R).length]) (ls++[l]) w3) (hb:Below B w2 w3) (hs:oL nb w2 w3) (h500:l.length<=500) (h3:w3.ownsRow w2.heap.size 36 2 v3 l.length (aH l))
  {X:Obj} (h5:w5.ownsRow B 39 2 v5 (Q.length+1) (bA Q++[.bool x.1,v3])) (hg:(w3.alloc X).grownBy w5 v.ownBlock) :
  nS w0 B tb mp M0 a b (R++[(o,x)]) v5 nb (ls++[l]) (Q++[((x.1,l),v3)]) w5:=by
 have hB2:=hc2.big;have hal:Below w3.heap.size w3 (w3.alloc X):=(Below.refl _ _).alloc (zx _) X;have hrow3:w3.ownsRow B 39 2 v Q.length (bA Q):=hs.row hr.1 (by decide) (by decide) (λk hk e=>by
  obtain ⟨cs,hcs⟩:=hc2.nbT e;exact cD hr.1 hcs (by decide) hk)
 have hrowA:=aU hrow3 hal (zx _);have hat:∀{q:Value} {m:List Nd} {B':Nat},w3.ownsRow B' 36 2 q m.length (aH m)->w5.ownsRow B' 36 2 q m.length (aH m):=λhq=>cG (aU hq hal (zx _)) hg (bV (aU hq hal (zx _)) hrowA (by decide))
 have e1:M0++aG (R++[(o,x)])=M0++aG R++aM o x.2:=by rw [aJf,<-zv]
 have e2:bJ M0.length (R++[(o,x)])=bJ M0.length R++[(M0++aG R).length]:=by rw [aJg,zs]
 refine ⟨by rw [e1,e2];exact (hc.below hal).lits hrowA hg,by simp [hlen],?_,?_,?_,?_⟩
 ·rw [zo,hmade,aVh R ls hlen];rfl
 ·have e3:bA (Q++[((x.1,l),v3)])=bA Q++[.bool x.1,v3]:=by simp [bA]
  rw [e3,zs];exact h5
 ·intro q hq;rcases zu.1 hq with hq | hq
  ·exact ⟨hat (hs.row (hr.2 q hq).1 (by decide) (by decide) (hr.2 q hq).2.2),(hr.2 q hq).2⟩
  ·simp at hq;subst hq;refine ⟨dI (hat h3) hB2,h500,λk hk e=>?_⟩;obtain ⟨cs,hcs⟩:=hc2.nbT e;have h6:=(zz.1 hcs).1;have h7:=(aT h3 k hk).1;omega
 ·have h8:=hlow.trans hb;have h9:=h8.trans (hal.mono hc.big);exact h9.grown hg (by have:=hc.big;simp;omega) (λk e=>(aT hrowA k e).1)
end
end
section
open Go.RowKit
theorem aVi{c:List Lt}{out:Nat}:∀(d j:Nat),j+d<=c.length->∃s,hH c out (j+d)=hH c out j++s:=by
 intro d;induction d with
 | zero=>intro j _;exact ⟨[],by simp⟩
 | succ d ih=>
  intro j h;obtain ⟨s,hs⟩:=ih j (by omega);by_cases e:j+d=out
  ·refine ⟨s,?_⟩;rw [<-hs,show j+(d+1)=j+d+1 by omega,e];exact aJb (by omega)
  ·refine ⟨s++[c[j+d]'(by omega)],?_⟩;rw [show j+(d+1)=j+d+1 by omega,aJc (by omega) e,hs,zv]
theorem aVj:∀(p q:List (List Lt×Nat)) (o:Nat),bI o (p++q)=bI o p++bI (o+p.length) q:=by
 intro p;induction p with
 | nil=>intro q o;simp [bI]
 | cons x p ih=>
  intro q o;simp only [ze,bI,ih,zv,zd];rw [show o+1+p.length=o+(p.length+1) by omega]
theorem xG:∀(ps:List (List Lt×Nat)) (o:Nat) (r:Int×Lt),r∈bI o ps->∃p∈ps,r.2∈p.1:=by
 intro ps;induction ps with
 | nil=>intro o r h;simp [bI] at h
 | cons p ps ih=>
  intro o r h;rcases zu.1 h with h | h
  ·obtain ⟨l,hl,rfl⟩:=zp.1 h;exact ⟨p,by simp,zf hl⟩
  ·obtain ⟨q,hq,hr⟩:=ih _ r h;exact ⟨q,by simp [hq],hr⟩
theorem aJh:∀(ps:List (List Lt×Nat)) (o:Nat),(∀p∈ps,p.1.length<=8)->(bI o ps).length<=8*ps.length:=by
 intro ps;induction ps with
 | nil=>intro o _;simp [bI]
 | cons p ps ih=>
  intro o h;have h1:=h p (by simp);have h2:=ih (o+1) (λq hq=>h q (by simp [hq]));have h3:=zc p.1 p.2;simp only [bI,zs,List.length_map,zd];omega
theorem aVk(c:List Lt)(out j:Nat):(hH c out j).length<=j:=by unfold hH;have:=zc (c.take j) out;simp at this;omega
theorem aVl{Pr:List (List Lt×Nat)}{k:Nat}(hk:k<Pr.length){j:Nat}(hj:j<=Pr[k].1.length):∃s,bI 0 Pr=(bI 0 (Pr.take k)++(hH Pr[k].1 Pr[k].2 j).map λl=>((k:Int),l))++s:=by obtain ⟨s,hs⟩:=aVi (c:=Pr[k].1) (out:=Pr[k].2) (Pr[k].1.length-j) j (by omega);rw [show j+(Pr[k].1.length-j)=Pr[k].1.length by omega,aJd] at hs;have h1:=aJe Pr 0 k hk;rw [zb] at h1;have h2:=aVj (Pr.take (k+1)) (Pr.drop (k+1)) 0;rw [List.take_append_drop] at h2;refine ⟨(s.map λl=>((k:Int),l))++bI (0+(Pr.take (k+1)).length) (Pr.drop (k+1)),?_⟩;rw [h2,h1,hs,zo];simp only [zv]
theorem aVm{M0:List Tg}{a b:Nat}{R s:List (Int×Lt)}{ls:List (List Nd)}(h:oN (M0++aG R) a b (bJ M0.length R) ls)(hs:∀r∈s,aW r.2.2 1=true){l:List Nd}(hl:l∈ls)(h5:500<l.length):gI M0 a b (R++s) [] false 4:=by
 obtain ⟨ms,h1⟩:=oN.all s h hs;have e1:M0++aG R++aG s=M0++aG (R++s):=by simp [aG]
 have e2:bJ M0.length R++bJ (M0++aG R).length s=bJ M0.length (R++s):=by
  have key:∀(R s:List (Int×Lt)) (n:Nat),bJ n R++bJ (n+(aG R).length) s=bJ n (R++s):=by
   intro R;induction R with
   | nil=>intro s n;simp [bJ,aG]
   | cons r R ih=>
    intro s n;simp only [ze,bJ];rw [<-ih,aA3];simp [Nat.add_assoc]
  rw [zs];exact key R s M0.length
 rw [e1,e2] at h1;have hlen:(R++s).length=(ls++ms).length:=by obtain ⟨_,_,_,_,_,_,h2,_⟩:=h1;have:=h2.length;rw [xI] at this;exact this
 obtain ⟨sg,hm⟩:=aJu (R++s) (ls++ms) hlen l (zu.2 (Or.inl hl));exact h1.out.1 (aDa hm h5)
end
section
open Go.RowKit Go.Shelf Go.WideMaps
structure xH(w0:World)(B:Nat)(M0:List Tg)(a b:Nat)(rest:List (Int×Lt))(v:Value)(yes:Bool)(er:Int)(w':World):Prop where
 out:∃out,gI M0 a b rest out yes er/\bM B w' v out/\out.length<=100
 low:Below B w0 w'
def CoQ(w0:World)(B:Nat)(M0:List Tg)(a b:Nat)(rest:List (Int×Lt))(e:Ending)(w':World):Prop:=∃v yes er,e=.returned (.tuple #[v,.bool yes,.int .i64 er])/\xH w0 B M0 a b rest v yes er w'
theorem aJi{R:List (Int×Lt)}(h:∀r∈R,r.2.2.length<=60):(aG R).length<=60*R.length:=by
 induction R with
 | nil=>simp [aG]
 | cons r R ih=>
  rw [aA3];have h1:=h r (by simp);have h2:=ih (λx hx=>h x (by simp [hx]));simp;omega
theorem aVn{Q:List (Lt×Value)}(h:(Q.map λq=>q.2.ownBlock).Nodup):((Q.map zy).filterMap zw).Nodup:=by rw [List.filterMap_map];unfold List.Nodup at h ⊢;rw [List.pairwise_map] at h;refine List.Pairwise.filterMap _ (λx y hr b hb b' hb' e=>hr ?_) h;subst e;have e1:x.2.ownBlock=some b:=hb;have e2:y.2.ownBlock=some b:=hb';rw [e1,e2]
theorem vD{c:List Lt}{m:Nat}(h:∀x∈c,x.2.length<=m):aK c<=m*c.length:=by
 induction c with
 | nil=>simp [aK]
 | cons x r ih=>
  have h1:=h x (by simp);have h2:=ih (λy hy=>h y (by simp [hy]));have h3:aK (x :: r)=x.2.length+aK r:=by simp [aK]
  rw [h3,zd,Nat.mul_add];omega
structure qV(w0:World)(B tb mp:Nat)(M0:List Tg)(a b pb:Nat)(pc:Array Value)(R:List (Int×Lt))(v:Value)(wr:World):Prop where
 st:∃nb ls Q,nS w0 B tb mp M0 a b R v nb ls Q wr
 prem:wr.heap[pb]?=some (.cells pc 112)
theorem qV.below{w0 wr w2:World}{B tb mp:Nat}{M0:List Tg}{a b pb:Nat}{pc:Array Value}{R:List (Int×Lt)}{v:Value}(h:qV w0 B tb mp M0 a b pb pc R v wr)(hb:Below wr.heap.size wr w2):qV w0 B tb mp M0 a b pb pc R v w2:=by obtain ⟨nb,ls,Q,hs⟩:=h.st;exact ⟨⟨nb,ls,Q,hs.below hb⟩,by rw [hb.block pb (zz.1 h.prem).1];exact h.prem⟩
theorem oL.at{nb:Option Nat}{w w':World}(hs:oL nb w w'){k:Nat}{cs:Array Value}{T:TypeId}(hk:w.heap[k]?=some (.cells cs T))(h1:T≠3)(h2:T≠137)(h3:T≠36)(hn:∀k,nb=some k->∃cs,w.heap[k]?=some (.cells cs 36)):w'.heap[k]?=some (.cells cs T):=by
 rw [hs k cs T (0,0) hk h1 h2 (λe=>by
  obtain ⟨cs',hc⟩:=hn k e;rw [hk] at hc;simp at hc;exact h3 hc.2)]
 exact hk
theorem aJj(w0:World)(B tb mp:Nat)(M0:List Tg)(a b pb pn:Nat)(pc:Array Value)(ad:Nat->Option Addr)(cp:Nat->Nat)(Pr:List (List Lt×Nat))(w:World)(h:qV w0 B tb mp M0 a b pb pc [] (.slice none 0 0) w)(hB:w0.heap.size=B)
  (hp:∀k (h:k<Pr.length),pc[k*2]?=some (.slice (ad k) Pr[k].1.length (cp k))/\pc[k*2+1]?=some (.int .i64 Pr[k].2)/\bD w0 (ad k) Pr[k].1/\Pr[k].2<Pr[k].1.length/\Pr[k].1.length<=8/\∀x∈Pr[k].1,aW x.2 1=true/\x.2.length<=60) (h2:Pr.length<=2) (hM:M0.length<=120) :
  Calls zi 60 #[.pointer (some ⟨tb,0,none⟩),.slice (some ⟨pb,0,none⟩) Pr.length pn] w λe w'=>CoQ w0 B M0 a b (bI 0 Pr) e w':=by
 have HH:=aA h;have HP:=aA hp;clear h hp;obtain ⟨iL,hI,hI0,hI1,hI2⟩:=info_parts rX;go_enter Tryz.func60,Tryz.ntmps60;go_wp2;go_loopw [7,16] (λv i wr=>∃k:Nat,k<=Pr.length/\i=.int .i64 k/\qV w0 B tb mp M0 a b pb pc (bI 0 (Pr.take k)) v wr) (λ_ i _=>Pr.length-(intOf i).toNat);case atStart=>exact ⟨0,za _,rfl,by simpa [bI] using HH.out⟩
 case round=>
  obtain ⟨k,hk,rfl,hW⟩:=hrel;by_cases hlt:k<Pr.length
  ·obtain ⟨p1,p2,p3,p4,p5,p6⟩:=HP.out k hlt;have hlti:(k:Int)<(Pr.length:Int):=by omega
   have e1:wr.cell? ⟨pb,k*2,none⟩=some (.slice (ad k) Pr[k].1.length (cp k)):=by simp [zk,hW.prem,p1]
   have e2:wr.cell? ⟨pb,k*2+1,none⟩=some (.int .i64 Pr[k].2):=by simp [zk,hW.prem,p2]
   have HW:=aA hW;have HLI:=aA p3;have HTM:=aA p6;have HRT:=aA (aJe Pr 0 k hlt);rw [zb] at HRT;have HSP:=aA (λj hj=>aVl hlt (j:=j) hj);generalize Pr[k].1=c at *;generalize Pr[k].2=out at *;clear hW p1 p2 p3 p6;obtain ⟨adk,hadk⟩ : ∃x,ad k=x:=⟨_,rfl⟩;rw [hadk] at e1 HLI;obtain ⟨cpk,hcpk⟩ : ∃x,cp k=x:=⟨_,rfl⟩;rw [hcpk] at e1;clear hadk hcpk;go_wp2;clear e1 e2;have hbA:Below wr.heap.size wr (wr.alloc (.cells #[.slice adk c.length cpk,.int .i64 out] 112)):=(Below.refl _ _).alloc (zx _) _;have HW1:=aA (HW.out.below hbA);have hbox:(wr.alloc (.cells #[.slice adk c.length cpk,.int .i64 out] 112)).heap[wr.heap.size]?=some (.cells #[.slice adk c.length cpk,.int .i64 out] 112):=by show (wr.heap.push _)[wr.heap.size]?=_;simp
   have HBOX:=aA hbox;clear hbA hbox;go_loopw [7,24] (λv i wx=>∃j:Nat,j<=c.length/\i=.int .i64 j/\qV w0 B tb mp M0 a b pb pc (bI 0 (Pr.take k)++(hH c out j).map λl=>((k:Int),l)) v wx/\wx.heap[wr.heap.size]?=some (.cells #[.slice adk c.length cpk,.int .i64 out] 112)) (λ_ i _=>c.length-(intOf i).toNat);case atStart=>exact ⟨0,za _,rfl,by simpa [aVg] using HW1.out,HBOX.out⟩
   case round=>
    obtain ⟨j,hj,rfl,hX,hbx⟩:=hrel;rename World=>wx
    by_cases hjl:j<c.length
    ·have hjli:(j:Int)<(c.length:Int):=by omega
     obtain ⟨nb,ls,Q,hS⟩:=hX.st;obtain ⟨bq,o1,aa,acp,rfl,e1,f1,g1⟩:=HLI.out.cell j hjl;have e2:=Below.at' hS.low (by omega) e1;have f2:=Below.at' hS.low (by omega) f1;obtain ⟨y0,y1⟩ : wx.cell? ⟨wr.heap.size,0,none⟩=some (.slice (some ⟨bq,o1,none⟩) c.length cpk)/\wx.cell? ⟨wr.heap.size,1,none⟩=some (.int .i64 out):=⟨by simp [zk,hbx],by simp [zk,hbx]⟩;have hwx:wr.heap.size<wx.heap.size:=(zz.1 hbx).1;by_cases hjo:j=out
     ·subst hjo;have HX:=aA (hX.below ((Below.refl wx.heap.size wx).alloc (zx _) (.cells #[.bool c[j].1,.slice aa c[j].2.length acp] 39)));have HBX2:Hid ((wx.alloc (.cells #[.bool c[j].1,.slice aa c[j].2.length acp] 39)).heap[wr.heap.size]?=some (.cells #[.slice (some ⟨bq,o1,none⟩) c.length cpk,.int .i64 j] 112)):=aA (by rw [((Below.refl wx.heap.size wx).alloc (zx _) _).block _ (zz.1 hbx).1];exact hbx);have HSK:=aA (aJb hjl);clear hX hbx hS e1 f1 g1;go_wp2;go_roundw;case rel=>exact ⟨j+1,by omega,by go_num,by rw [HSK.out];exact HX.out,HBX2.out⟩
      case measure=>simp [intOf];omega
     ·have hjoi:¬((j:Int)=(out:Int)):=by omega
      obtain ⟨t1,t60⟩:=HTM.out c[j] (List.getElem_mem _);have hR60:∀r∈bI 0 (Pr.take k)++(hH c out j).map λl=>((k:Int),l),r.2.2.length<=60:=by
       intro r hr;rcases zu.1 hr with hr | hr
       ·obtain ⟨q,hq,hm⟩:=xG _ _ r hr;obtain ⟨i,hi,rfl⟩:=zt (zj hq);exact ((HP.out i hi).2.2.2.2.2 _ hm).2
       ·obtain ⟨l,hl,rfl⟩:=zp.1 hr;exact (HTM.out l (zj (zf hl))).2
      have hRl:(bI 0 (Pr.take k)++(hH c out j).map λl=>((k:Int),l)).length<=24:=by
       have h1:=aJh (Pr.take k) 0 (λq hq=>by
        obtain ⟨i,hi,rfl⟩:=zt (zj hq);exact (HP.out i hi).2.2.2.2.1)
       have h2:=aVk c out j;simp at h1 ⊢;omega
      have hR1:bI 0 (Pr.take k)++(hH c out (j+1)).map (λl=>((k:Int),l))=(bI 0 (Pr.take k)++(hH c out j).map λl=>((k:Int),l))++[((k:Int),c[j])]:=by rw [aJc hjl hjo,zo,zv];rfl
      obtain ⟨sR,hsR⟩:=HSP.out (j+1) (by omega);have HR1:=aA hR1;rw [hR1] at hsR;have HSR:=aA hsR;have HST:Hid (∀r∈sR,aW r.2.2 1=true):=aA λr hr=>by
       obtain ⟨q,hq,hm⟩:=xG Pr 0 r (by rw [hsR];exact zu.2 (Or.inr hr));obtain ⟨i,hi,rfl⟩:=zt hq;exact ((HP.out i hi).2.2.2.2.2 _ hm).1
      have hlnR:=aJi hR60;clear hR1 hsR hR60;generalize bI 0 (Pr.take k)++(hH c out j).map (λl=>((k:Int),l))=R at *;have hln:(M0++aG R).length<=2000:=by simp;omega
      have hbl:Below wx.heap.size wx (wx.alloc (.cells #[.bool c[j].1,.slice aa c[j].2.length acp] 39)):=(Below.refl _ _).alloc (zx _) _;have hS1:=hS.below hbl;have hbl1:(wx.alloc (.cells #[.bool c[j].1,.slice aa c[j].2.length acp] 39)).heap[wx.heap.size]?=some (.cells #[.bool c[j].1,.slice aa c[j].2.length acp] 39):=by show (wx.heap.push _)[wx.heap.size]?=_;simp
      have hbx1:(wx.alloc (.cells #[.bool c[j].1,.slice aa c[j].2.length acp] 39)).heap[wr.heap.size]?=some (.cells #[.slice (some ⟨bq,o1,none⟩) c.length cpk,.int .i64 out] 112):=by rw [hbl.block _ hwx];exact hbx
      have hpb1:(wx.alloc (.cells #[.bool c[j].1,.slice aa c[j].2.length acp] 39)).heap[pb]?=some (.cells pc 112):=by rw [hbl.block _ (zz.1 hX.prem).1];exact hX.prem
      have hx0:0<c[j].2.length:=by
       cases hc0:c[j].2 with
       | nil=>rw [hc0] at t1;simp [aW] at t1
       | cons=>simp
      have CA:=aA (aVe hS1.con (k:Int) aa acp c[j].2 ((g1.below hS.low (by omega)).below hbl (zx _)) t1 (λp hp=>by have:=vF g1 t1 p hp;omega) (by omega) (by omega));have HS1:=aA hS1;have HB1:=aA (zl hbl1 (zl hbx1 hpb1));have hszW:(wx.alloc (.cells #[.bool c[j].1,.slice aa c[j].2.length acp] 39)).heap.size=wx.heap.size+1:=by simp
      clear hX hbx hS e1 f1 g1 hS1 hbl hbl1 hbx1 hpb1 t1;generalize c[j]=x at *;have hlx:(M0++aG R++aM (k:Int) x.2).length=(M0++aG R).length+x.2.length:=by rw [zs,List.length_map]
      have hlx1:(M0++aG R).length<(M0++aG R++aM (k:Int) x.2).length:=by omega
      have hlx2:(M0++aG R++aM (k:Int) x.2).length<=1000000:=by omega
      obtain ⟨N,hN⟩ : ∃N,(M0++aG R).length=N:=⟨_,rfl⟩;rw [hN] at CA hlx1;have HLX:=aA (zl hlx1 hlx2);have HNN:=aA hN;clear hlx hlx1 hlx2 hln hlnR hN;go_upto_region 10 with (first
       | (go_at_call 92;refine (aB CM).mono ?_;rintro e w3 ⟨v3,y3,rfl,hb3,hz3,hs3,l3,hyes,hno⟩;have HB3:=aA hb3;have HS3:=aA hs3;have HY:=aA hyes;have HN:=aA hno;clear hb3 hs3 hyes hno)
       | (go_at_call 59;refine (aB CA).mono ?_;rintro e w2 ⟨rfl,nb2,hc2,hb2,hm2,hs2⟩;have HADD:=aA (HS1.out.add hb2 hm2 hs2);have HK2:=aA (zl (hs2.at HB1.out.1 (by decide) (by decide) (by decide) (λ_ e=>HS1.out.con.nbT e)) (zl (hs2.at HB1.out.2.1 (by decide) (by decide) (by decide) (λ_ e=>HS1.out.con.nbT e)) (hs2.at HB1.out.2.2 (by decide) (by decide) (by decide) (λ_ e=>HS1.out.con.nbT e))));have hz2:=hb2.size;have HC2:=aA hc2;have CM:=aA (aVf hc2 N HLX.out.1 HLX.out.2);clear hb2 hm2 hs2 hc2)
       | go_in)
      have k3:=zl (HS3.out.at HK2.out.1 (by decide) (by decide) (by decide) (λ_ e=>HC2.out.nbT e)) (zl (HS3.out.at HK2.out.2.1 (by decide) (by decide) (by decide) (λ_ e=>HC2.out.nbT e)) (HS3.out.at HK2.out.2.2 (by decide) (by decide) (by decide) (λ_ e=>HC2.out.nbT e)));obtain ⟨z0,z1⟩ : w3.cell? ⟨wx.heap.size,0,none⟩=some (.bool x.1)/\w3.cell? ⟨wx.heap.size,1,none⟩=some (.slice aa x.2.length acp):=⟨by simp [zk,k3.1],by simp [zk,k3.1]⟩;have HK3:=aA k3;clear k3 CM CA;cases y3 with
      | false=>
       obtain ⟨n1,n2,n3⟩:=HN.out rfl;subst n1;have hpu:=n3.pure;have e1:M0++aG R++aM (k:Int) x.2=M0++aG (R++[((k:Int),x)]):=by rw [aJf,<-zv]
       have e2:bJ M0.length R++[N]=bJ M0.length (R++[((k:Int),x)]):=by rw [aJg,<-HNN.out,zs]
       rw [e1,e2] at hpu;have HMANY:Hid (gI M0 a b (bI 0 Pr) [] false 4):=aA (by rw [HSR.out];exact aVm hpu HST.out (zu.2 (Or.inr (List.mem_singleton.2 rfl))) n2);have HLOW:=aA (HADD.out.2.trans HB3.out);clear n3 hpu e1 e2;go_wp2;go_returns;exact ⟨_,_,_,rfl,⟨⟨[],HMANY.out,bM.nil _ _,by simp⟩,HLOW.out⟩⟩
      | true=>
       obtain ⟨n1,n2,n3,n4⟩:=HY.out rfl;rw [<-HNN.out] at n4;obtain ⟨a3,c3,rfl⟩:=aS n3;have hrow3:w3.ownsRow B 39 2 u7 Q.length (bA Q):=HS3.out.row HADD.out.1.1 (by decide) (by decide) (λk hk e=>by
        obtain ⟨cs,hcs⟩:=HC2.out.nbT e;exact cD HADD.out.1.1 hcs (by decide) hk)
       have hQl:Q.length<=24:=by have h1:=congrArg List.length HS1.out.made;have h2:=HS1.out.len;simp [cK] at h1;omega
       obtain ⟨va,vc,hu7⟩:=aS hrow3;subst hu7;have HROW3:=aA hrow3;have hB3:B<=w3.heap.size:=n4.big;have HN3:=aA n3;have HN4:=aA n4;clear hrow3 n3 n4;generalize hql:Q.length=ql at *;have HQL:=aA hql;clear hql;go_wp2_with (first
        | (at_builtin;refine wpList_append_own _ rfl (.tmp 45) (.tmp 50) 22 rfl B 39 iL (.agg #[.bool false,.slice none 0 0]) 2 32 Tryz.underlying22 hI hI0 hI1 hI2 rfl (by decide) _ _ _ rfl (HROW3.out.alloc _) ⟨_,0,none⟩ 1 1 [.bool x.1,.slice a3 l3.length c3] rfl rfl (gF w3 _ _ _ _ rfl) (rY _ _ _ _) (by unfold maxLen;omega) (by omega) (by simp;omega) ?_;intro v5 w5 ho5 hg5 _;have HO5:=aA ho5;have HG5:=aA hg5;clear ho5 hg5)
        | go_in)
       have hz23:=HB3.out.size;have hA3:Below w3.heap.size w3 (w3.alloc (.cells #[.bool x.1,.slice a3 l3.length c3] 39)):=(Below.refl _ _).alloc (zx _) _;have hrA:(w3.alloc (.cells #[.bool x.1,.slice a3 l3.length c3] 39)).ownsRow B 39 2 (.slice va ql vc) ql (bA Q):=aU HROW3.out hA3 (zx _);have hg5:(w3.alloc (.cells #[.bool x.1,.slice a3 l3.length c3] 39)).grownBy w5 (Value.slice va ql vc).ownBlock:=HG5.out;have keep:∀{q:Nat} {cs:Array Value},w3.heap[q]?=some (.cells cs 112)->w5.heap[q]?=some (.cells cs 112):=by
        intro q cs hq;have hq':(w3.alloc (.cells #[.bool x.1,.slice a3 l3.length c3] 39)).heap[q]?=some (.cells cs 112):=by rw [hA3.block q (zz.1 hq).1];exact hq
        rw [hg5.block q (zz.1 hq').1 (λe=>cD hrA hq' (by decide) e.symm)];exact hq'
       have HL5:Hid (nS w0 B tb mp M0 a b (R++[((k:Int),x)]) v5 nb2 (ls++[l3]) (Q++[((x.1,l3),.slice a3 l3.length c3)]) w5):=aA (by
        have hlen:=HS1.out.len;have hmade:=HS1.out.made;have hadd:=HADD.out;have ho5:=HO5.out;rw [<-HQL.out] at hadd ho5 hg5;exact nS.put (x:=x) hlen hmade hadd.1 hadd.2 HC2.out HN4.out HB3.out HS3.out n1 HN3.out ho5 hg5)
       have HK5:=aA (zl (keep HK3.out.2.1) (keep HK3.out.2.2));clear hA3 hrA hg5 keep;go_roundw;case rel=>exact ⟨j+1,by omega,by go_num,⟨⟨_,_,_,by rw [HR1.out];exact HL5.out⟩,HK5.out.2⟩,HK5.out.1⟩
       case measure=>simp [intOf];omega
    ·have hje:j=c.length:=by omega
     subst hje;have hji:¬((c.length:Int)<(c.length:Int)):=by omega
     have HX:Hid (qV w0 B tb mp M0 a b pb pc (bI 0 (Pr.take (k+1))) u7 wx):=aA (by rw [HRT.out,<-aJd];exact hX);clear hX hbx;go_wp2;go_roundw;case rel=>exact ⟨k+1,by omega,by go_num,HX.out⟩
     case measure=>simp [intOf];omega
  ·have hke:k=Pr.length:=by omega
   subst hke;have hki:¬((Pr.length:Int)<(Pr.length:Int)):=by omega
   rw [z6] at hW;obtain ⟨nb,ls,Q,hS⟩:=hW.st;have hR60:∀r∈bI 0 Pr,r.2.2.length<=60:=by intro r hr;obtain ⟨q,hq,hm⟩:=xG _ _ r hr;obtain ⟨i,hi,rfl⟩:=zt hq;exact ((HP.out i hi).2.2.2.2.2 _ hm).2
   have hRl:=aJh Pr 0 (λq hq=>by
    obtain ⟨i,hi,rfl⟩:=zt hq;exact (HP.out i hi).2.2.2.2.1)
   have hlnR:=aJi hR60;have hln:(M0++aG (bI 0 Pr)).length<=1000000:=by simp;omega
   have hnod:=hS.con.nodes hln;have hpu:=hS.con.pure.out;have hcl:(cK (bI 0 Pr) ls).length<=16:=by simp [cK];omega
   have hmem:∀x∈cK (bI 0 Pr) ls,x.2∈ls:=by intro x hx;unfold cK at hx;rw [List.mem_iff_getElem] at hx;obtain ⟨i,hi,rfl⟩:=hx;simp at hi ⊢
   have h500:∀x∈cK (bI 0 Pr) ls,x.2.length<=500:=by intro x hx;rw [<-hS.made] at hx;obtain ⟨q,hq,rfl⟩:=zp.1 hx;exact (hS.atoms q hq).2.1
   have hcnt:=vD h500;have hsh:sZ (cK (bI 0 Pr) ls):=λx hx=>⟨by have:=h500 x hx;omega,(hnod x.2 (hmem x hx)).2⟩
   obtain ⟨va,vc,rfl,hli⟩:=aBj hS.made hS.row (λq hq=>(hS.atoms q hq).1) (by omega) hsh;have CO:=aA (aGr va vc (cK (bI 0 Pr) ls) wr hli (λx hx=>(hnod x.2 (hmem x hx)).1) (by omega) (by omega));have hol:(aR (cK (bI 0 Pr) ls)).length<=16:=by have h1:=(qG (cK (bI 0 Pr) ls)).1;have h2:=(pA (cJ (cK (bI 0 Pr) ls))).1;unfold aR;omega
   have hosh:sZ (aR (cK (bI 0 Pr) ls)):=hsh.ord;have HOUT:=aA hpu;have HLOW:=aA hS.low;have HBIG:=aA hS.con.big;have CN:=aA (λ(w2:World) (v2:Value) (nb2:Nat) (Q2:List (Lt×Value)) (hO:uR wr (cK (bI 0 Pr) ls) v2 nb2 Q2 w2)=>(show Calls zi 57 #[.slice (some ⟨nb2,0,none⟩) (aR (cK (bI 0 Pr) ls)).length (aR (cK (bI 0 Pr) ls)).length] w2 λe w'=>e=.returned (.int .i64 (aK (aR (cK (bI 0 Pr) ls))))/\Below w2.heap.size w2 w' from by
    have hl2:Q2.length=(aR (cK (bI 0 Pr) ls)).length:=by rw [<-hO.made];simp
    obtain ⟨a2,c2,e2,hl⟩:=aBj hO.made (by have:=hO.row;rw [<-hl2] at this;exact this) hO.atoms (by omega) hosh;simp at e2;obtain ⟨rfl,_⟩:=e2;exact aC3 _ _ _ w2 hl (by omega)))
   have HMEM:=aA (λ(w2 w3:World) (v2:Value) (nb2:Nat) (Q2:List (Lt×Value)) (hO:uR wr (cK (bI 0 Pr) ls) v2 nb2 Q2 w2) (hb:Below w2.heap.size w2 w3)=>(show bM B w3 (.slice (some ⟨nb2,0,none⟩) (aR (cK (bI 0 Pr) ls)).length (aR (cK (bI 0 Pr) ls)).length) (aR (cK (bI 0 Pr) ls))/\Below B w0 w3 from by
    have hl2:Q2.length=(aR (cK (bI 0 Pr) ls)).length:=by rw [<-hO.made];simp
    refine ⟨⟨Q2,hO.made,?_,λq hq=>dI (aU (hO.atoms q hq) hb (zx _)) HBIG.out,aVn hO.once⟩,(HLOW.out.trans (hO.low.mono HBIG.out)).trans (hb.mono (zq HBIG.out hO.low.size))⟩;have h1:=dI (aU hO.row hb (zx _)) HBIG.out;rw [hl2];exact h1))
   clear hW hS hpu hnod hmem h500 hsh hli hcnt hosh hln hlnR hR60 hRl;generalize cK (bI 0 Pr) ls=cc at *;obtain ⟨n5,hn5⟩ : ∃n,aK (aR cc)=n:=⟨_,rfl⟩;rw [hn5] at CN HOUT;by_cases h5:500<n5
   ·have h5i:(500:Int)<(n5:Int):=by omega
    have HO5:=aA (HOUT.out.1 h5);go_wp2_with (first
     | (go_at_call 52;refine (aB CO).mono ?_;rintro e w2 ⟨v2,nb2,Q2,rfl,hO⟩;have hv2:=hO.val;subst hv2;have HO:=aA hO;have CN2:=aA (CN.out w2 _ nb2 Q2 hO);clear hO)
     | (go_at_call 57;refine (aB CN2).mono ?_;rintro e w3 ⟨rfl,hb3⟩;have HM3:=aA (HMEM.out w2 w3 _ nb2 Q2 HO.out hb3);clear hb3)
     | go_in)
    go_returns;exact ⟨_,_,_,rfl,⟨⟨[],HO5.out,bM.nil _ _,by simp⟩,HM3.out.2⟩⟩
   ·have h5i:¬((500:Int)<(n5:Int)):=by omega
    have HO5:=aA (HOUT.out.2 (by omega));go_wp2_with (first
     | (go_at_call 52;refine (aB CO).mono ?_;rintro e w2 ⟨v2,nb2,Q2,rfl,hO⟩;have hv2:=hO.val;subst hv2;have HO:=aA hO;have CN2:=aA (CN.out w2 _ nb2 Q2 hO);clear hO)
     | (go_at_call 57;refine (aB CN2).mono ?_;rintro e w3 ⟨rfl,hb3⟩;have HM3:=aA (HMEM.out w2 w3 _ nb2 Q2 HO.out hb3);clear hb3)
     | go_in)
    go_returns;exact ⟨_,_,_,rfl,⟨⟨_,HO5.out,HM3.out.1,by omega⟩,HM3.out.2⟩⟩
theorem aJk{B tb mp:Nat}{ox oy:Int}{x y:List Nd}{w:World}(h:kE B tb mp (aM ox x++aM oy y) w)(hx:aW x 1=true)(hy:aW y 1=true)(hs:∀t∈aM ox x++aM oy y,t.2.1.size<=140737488355328)(hl:(aM ox x++aM oy y).length<=1000000) :
  Calls zi 58 #[.pointer (some ⟨tb,0,none⟩),.int .i64 ((0:Nat):Int),.int .i64 x.length] w λe w'=>∃ok:Bool,e=.returned (.bool ok)/\Below B w w'/\oL none w w'/\
   (ok=true->∃nb,gV B tb mp nb (aM ox x++aM oy y) 0 x.length [] [] w')/\(ok=false->∀rest:List (Int×Lt),(∀r∈rest,aW r.2.2 1=true)->¬vE ((aM ox x++aM oy y)++aG rest) 0 x.length):=by
 obtain ⟨vn,ve,vl,vs,htm⟩:=h.tm;have hsm:(aM ox x++aM oy y).map zy=x++y:=by rw [zo,tQ,tQ]
 have hml:((aM ox x++aM oy y).map zy).length=(aM ox x++aM oy y).length:=by simp
 have hxy:(aM ox x++aM oy y).length=x.length+y.length:=by simp
 have hx0:0<x.length:=by
  cases x with
  | nil=>simp [aW] at hx
  | cons=>simp
 have hy0:0<y.length:=by
  cases y with
  | nil=>simp [aW] at hy
  | cons=>simp
 have hin:=htm.toIn (by rw [lF];simp) (by simp) (by rw [hml];exact hl) (λn hn=>by obtain ⟨t,ht,rfl⟩:=zp.1 hn;exact hs t ht);refine (aVd B tb vn ve vl vs _ ((aM ox x++aM oy y).map zy) _ (aY (aM ox x++aM oy y)) _ h.whole (aD2 _) (aUu _) (aUt _) _ 0 x.length w hin (by rw [hml,hxy];omega) (by rw [hml,hxy];omega)).mono ?_;rintro e w' ⟨ok,rfl,r⟩;have hint:∀{v:Value} {n:Nat} {xs:List Value},w.ownsRow B 3 1 v n xs->∀(k:Nat) (cs:Array Value) (T:TypeId) (fr:Nat×Nat),w.heap[k]?=some (.cells cs T fr)->T≠3->v.ownBlock≠some k:=by
  intro v n xs ho k cs T fr hk hT e;obtain ⟨_,⟨rfl,_⟩ | ⟨g,cap,cur,rfl,_,hh,_⟩⟩:=ho
  ·simp [zw] at e
  ·simp [zw] at e;subst e;rw [hh] at hk;simp at hk;exact hT hk.2.1.symm
 refine ⟨ok,rfl,r.low,λk cs T fr hk h1 _ _=>r.keep k (zz.1 hk).1 (hint htm.rl k cs T fr hk h1) (hint htm.rs k cs T fr hk h1),λhok=>?_,λhok rest hr hy'=>?_⟩
 ·obtain ⟨F',S',rt',d',t1,t2,t3,t4,t5,t6,t7⟩:=r.st hok;have hE:(λi j=>rt' i=rt' j)=dT (aM ox x++aM oy y) 0 x.length:=by
   funext i j
   exact propext (t5 i j)
  have h0:=(r.yes.1 hok).2;have hD:gR (aD ((aM ox x++aM oy y).map zy)) (dT (aM ox x++aM oy y) 0 x.length):=Cl.isDown _ _;have hb:=bF.same hD h0 (Cl.base (Or.inr ⟨rfl,rfl⟩));have hends:∀p,p<(aM ox x++aM oy y).length->bF (aD ((aM ox x++aM oy y).map zy)) (λi j=>rt' i=rt' j) p:=by
   intro p hp;rw [hE];rw [hxy] at hp;by_cases hpx:p<x.length
   ·refine aJ6 (λ_=>Cl.refl _) h.whole (i:=0) (by rw [hml,hxy];omega) h0 p (za _) ?_;rw [hsm,List.drop_zero,zE x 1 y hx];omega
   ·refine aJ6 (λ_=>Cl.refl _) h.whole (i:=x.length) (by rw [hml,hxy];omega) hb p (by omega) ?_;have:=zE y 1 [] hy;rw [List.append_nil] at this;rw [hsm,List.drop_left,this];omega
  refine ⟨vn.ownBlock,⟨⟨vn,ve,vl,vs,F',rt',d',S',rfl,t1.toRaw htm.ne htm.nl htm.ns,⟨h.whole,by rw [t1.lf,hml],by rw [t1.ls,hml],t2,t3,t4,t5,t6,t7,by rw [hxy];omega,by rw [hxy];omega⟩,hends,aN.nil⟩,by simp,h.first.at (r.keep mp h.first.lt (pF htm.rl h.first) (pF htm.rs h.first)),zq h.big r.size,h.ne,h.mlow,hs⟩⟩
 ·obtain ⟨c1,c2⟩:=aWa rest hr h.whole hy';have:=r.yes.2 ⟨c1,c2 0 (by rw [hxy];omega)⟩;rw [hok] at this;cases this
end
end Go.Proofs.YtcldkjcpofjmhaaGreatDoor
