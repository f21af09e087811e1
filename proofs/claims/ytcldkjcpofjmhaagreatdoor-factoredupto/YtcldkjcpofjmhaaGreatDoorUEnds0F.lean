import Derived.Test.YtcldkjcpofjmhaaGreatDoorPDistF
open List renaming getElem_mem→zy,replicate→zx,getD→zw,ext_getElem?→zv,countP_cons→zu
open Nat renaming le_refl→zz,zero_le→zt
namespace Go.Proofs.YtcldkjcpofjmhaaGreatDoor
set_option maxHeartbeats 4000000
set_option maxRecDepth 100000
open Go.RowKit Go.Shelf Go.WideMaps
variable{D:List Bool}{g n:Nat}{P:Tb}{w wr:World}
def dn(P:Tb)(D:List Bool)(i:Nat):Bool:=match P[i]? with | some p=>D.getD p.1.cls false | none=>false
theorem xG(P:Tb)(D:List Bool)(i:Nat)(h:i<P.length):dn P D i=D.getD P[i].1.cls false:=by simp [dn,h]
def sM(P:Tb)(D:List Bool):Prop:=∀i,i<P.length->dn P D i=true->bD (aV P) (aZ P) i
def zZ(P:Tb)(D:List Bool)(i:Nat):Prop:=dn P D i=true\/∃h,∃hl:h<P.length,aZ P i h/\aF P[h].1.node=false/\∃p∈P[h].1.parts,dn P D p=false
def xH(P:Tb):Prop:=∀i j,aZ P i j->(aV P).named i->(aV P).named j->aM (aZ P) ((aV P).ch i) ((aV P).ch j)
theorem aM.mem_right{α β:Type}{R:α->β->Prop}{l:List α}{m:List β}(h:aM R l m){b:β}(hb:b∈m):∃a∈l,R a b:=by
 induction h with
 | nil=>simp at hb
 | cons h1 _ ih=>
  rcases List.mem_cons.1 hb with rfl | hb
  ·exact ⟨_,by simp,h1⟩
  ·obtain ⟨a,ha,hr⟩:=ih hb;exact ⟨a,by simp [ha],hr⟩
theorem aJ5(h:xH P):eK (aV P) (aZ P):=by
 refine ⟨aZ.refl P,λ_ _=>aZ.symm,λ_ _ _=>aZ.trans,λi j k p q hij hi hj hp hq=>?_⟩;have ha:=h i j hij hi hj;clear hij hi hj;generalize (aV P).ch i=l at *;generalize (aV P).ch j=m at *;induction ha generalizing k with
 | nil=>simp at hp
 | cons h1 _ ih=>
  cases k with
  | zero=>simp at hp hq;subst hp;subst hq;exact h1
  | succ k=>exact ih k (by simpa using hp) (by simpa using hq)
theorem aA0{i:Nat}(h:i<P.length)(hv:aF P[i].1.node=false):(aV P).named i:=by show aF ((aV P).lab i)=false;rw [mF P i h];exact hv
theorem aV9(hcl:xH P)(hok:gS P){D:List Bool}(hs:sM P D){i:Nat}(hi:i<P.length){r:Int}(hh:aHn P P[i].1.cls r)
  (hall:∀h:Nat,r=h->∀hl:h<P.length,∀p∈P[h].1.parts,dn P D p=true):bD (aV P) (aZ P) i:=by
 refine ⟨_,λj hij hj p hp=>?_⟩;obtain ⟨hjl,hjv⟩:=oL hj;rcases hh with ⟨_,hno⟩ | ⟨h,hr,hl,hc,hv⟩
 ·exact absurd ⟨((aZ.iff hi hjl).1 hij).symm,hjv⟩ (hno j hjl)
 ·have hih:aZ P i h:=(aZ.iff hi hl).2 hc.symm;have ha:=hcl h j (hih.symm.trans hij) (aA0 hl hv) hj;obtain ⟨q,hq,hqp⟩:=ha.mem_right hp;rw [pF P h hl] at hq;exact (hs q (hok.parts h hl q hq) (hall h hr hl q hq)).same (aJ5 hcl) hqp
theorem sM.set(hcl:xH P){D:List Bool}(hs:sM P D){i:Nat}(hi:i<P.length)(he:bD (aV P) (aZ P) i):sM P (D.set P[i].1.cls true):=by
 intro k hk hd;by_cases e:P[i].1.cls=P[k].1.cls
 ·exact he.same (aJ5 hcl) ((aZ.iff hi hk).2 e)
 ·refine hs k hk ?_;rw [xG _ _ _ hk] at hd ⊢;simpa [zw,List.getElem?_set,e] using hd
theorem aVa(hok:gS P){D:List Bool}(h:∀i,i<P.length->zZ P D i){i:Nat}(e:bD (aV P) (aZ P) i):i<P.length->dn P D i=true:=by
 induction e with
 | mk i _ ih=>
  intro hi;rcases h i hi with hd | ⟨k,hk,hik,hv,p,hp,hd⟩
  ·exact hd
  ·have:=ih k hik (aA0 hk hv) p (by rw [pF P k hk];exact hp) (hok.parts k hk p hp);rw [this] at hd;cases hd
theorem aVb(D:List Bool)(c:Nat)(h:c<D.length)(hc:D.getD c false=false):(D.set c true).countP (λb=>!b)<D.countP λb=>!b:=by
 induction D generalizing c with
 | nil=>simp at h
 | cons b r ih=>
  cases c with
  | zero=>
   simp [zw] at hc;subst hc;simp
  | succ c=>
   have:=ih c (by simpa using h) (by simpa [zw] using hc);rw [List.set_cons_succ,zu,zu];omega
theorem xI{B:Nat}(h:w.ownsRow B 4 1 (.slice (some ⟨g,0,none⟩) n n) n (D.map Value.bool))(hn:D.length=n)(k:Nat)(hk:k<D.length):w.cell? ⟨g,k,none⟩=some (.bool (D.getD k false)):=by rw [h.cellAt k (by omega)];simp [zw,hk]
def aA1(w:World)(g n:Nat):List Bool:=(List.range n).map λi=>match w.cell? ⟨g,i,none⟩ with | some (.bool b)=>b | _=>false
theorem aJ6(hn:D.length=n)(h:∀k,k<D.length->w.cell? ⟨g,k,none⟩=some (.bool (D.getD k false))):aA1 w g n=D:=by
 apply zv;intro k;by_cases hk:k<n
 ·have:=h k (by omega);simp [aA1,hk,this];simp [show k<D.length by omega]
 ·simp [aA1,hk];omega
theorem bU.below{B tp:Nat}{v:Value}(h:bU w B tp v P)(k:Below w.heap.size w wr):bU wr B tp v P:=
 ⟨by rw [k.block tp (Array.getElem?_eq_some_iff.1 h.box).1,h.box],h.high,aU h.row k (zz _),λp hp=>aU (h.parts p hp) k (zz _)⟩
structure rA(w:World)(g n:Nat)(D:List Bool)(wr:World):Prop where
 len:D.length=n
 row:wr.ownsRow w.heap.size 4 1 (.slice (some ⟨g,0,none⟩) n n) n (D.map Value.bool)
 low:Below w.heap.size w wr
theorem rA.drewN(h:rA w g n D wr)(d:Nat):rA w g n D (wr.drewN d):=⟨h.len,h.row,h.low.trans ((aI ⟨d,rfl⟩).mono h.low.size)⟩
theorem rA.set(h:rA w g n D wr)(hg:w.heap.size<=g)(c:Nat):rA w g n (D.set c true) (wr.setCell ⟨g,c,none⟩ (.bool true)):=by have r:=(h.row.stored c (.bool true)).1;refine ⟨by simp [h.len],?_,h.low.setCell (by simpa using hg) _⟩;rw [List.map_set];exact r
theorem aJ7:(Tryz.prog.info? 4).map (λi=>(i.zero,i.size,i.bytes))=some (some (.bool false),1,1):=by kernel_rfl
theorem aVc(n:Nat):(madeCells #[.bool false] (n*1)).toList=(zx n false).map Value.bool:=by
 apply zv;intro j;by_cases hj:j<n
 ·simp [madeCells,hj,Nat.mod_one]
 ·simp [madeCells,hj]
def vO:Value->Nat
 | .bool true=>1
 | _=>0
def sN(P:Tb)(D:List Bool)(l:List Nat):Bool:=l.all λx=>dn P D x
theorem aVd(P:Tb)(D:List Bool)(l:List Nat)(q:Nat)(h:q<l.length):sN P D (l.take (q+1))=(sN P D (l.take q) && dn P D l[q]):=by simp only [sN,List.take_succ_eq_append_getElem h,List.all_append,List.all_cons,List.all_nil,Bool.and_true]
theorem sO{B:Nat}{v:Value}{l:List Nat}(h:w.ownsRow B 3 1 v l.length (l.map λx:Nat=>Value.int .i64 x)) :
  ∃a cap,v=.slice a l.length cap/\∀k (h:k<l.length),∃g,a=some ⟨g,0,none⟩/\w.cell? ⟨g,k,none⟩=some (.int .i64 l[k]):=by
 have h':w.ownsRow B 3 1 v (l.map λx:Nat=>(x:Int)).length ((l.map λx:Nat=>(x:Int)).map (Value.int .i64)):=by simpa [List.map_map,Function.comp_def] using h
 obtain ⟨a,cap,e,hc⟩:=aB9 h';refine ⟨a,cap,by simpa using e,λk hk=>?_⟩;obtain ⟨g,h1,h2⟩:=hc k (by simpa using hk);exact ⟨g,h1,by simpa using h2⟩
def aVe(P:Tb)(v:Value):Prop:=∃b:Bool,v=.bool b/\(b=true↔∀i,i<P.length->bD (aV P) (aZ P) i)
theorem aVf(B tp:Nat)(v:Value)(P:Tb)(w:World)(h:bU w B tp v P)(hf:P.length<=1000000)(hok:gS P)(hcl:xH P)(hps:∀p∈P,p.1.parts.length<=1000000) :
  Calls Tryz.prog 70 #[.pointer (some ⟨tp,0,none⟩)] w λe w'=>∃v,e=.returned v/\aVe P v/\Below w.heap.size w w':=by
 obtain ⟨iB,hB,hB0,hB1,hB2⟩:=info_parts aJ7;obtain ⟨a,cap,rfl,_⟩:=h.shape;have hcell:=h.cell;have HT:=aA h;have HOK:=aA hok;have HCL:=aA hcl;have HPS:=aA hps;clear h hok hcl hps;go_enter Tryz.func70,Tryz.ntmps70;go_wp2_with (first
  | (at_make;refine wpList_make_full _ rfl _ _ 64 rfl w.heap.size 4 iB (.bool false) 1 Tryz.underlying64 hB hB0 hB1 .i64 .i64 _ _ P.length rfl rfl rfl rfl ?m1 ?m2 ?m3 ?_)
  | go_in)
 case m1=>rw [hB2];omega
 case m2=>unfold maxLen;omega
 case m3=>simp
 intro w2 ho2 hg2;have HE0:Hid (rA w w.heap.size P.length (zx P.length false) w2):=aA (by
  refine ⟨by simp,?_,(Below.refl _ _).grown hg2 (zz _) (by simp)⟩;have e:=aVc P.length;rw [Nat.mul_one] at e;rw [e] at ho2;exact ho2)
 clear ho2 hg2;have HS0:Hid (sM P (zx P.length false)):=aA (by
  intro i hi hd;rw [xG _ _ _ hi] at hd;simp [zw,HOK.out.cls i hi] at hd)
 go_wp2;go_loopw [4] (λm wr=>∃(b:Bool) (D:List Bool),m=.bool b/\rA w w.heap.size P.length D wr/\sM P D/\(b=false->∀i,i<P.length->zZ P D i)) (λm wr=>2*(aA1 wr w.heap.size P.length).countP (λb=>!b)+vO m);case atStart=>exact ⟨true,_,rfl,HE0.out,HS0.out,by simp⟩
 case round=>
  obtain ⟨b,D,rfl,hE,hS,hQ⟩:=hrel;cases b with
  | true=>
   have HE:=aA hE;have HS:=aA hS;have HD:=aA (aJ6 hE.len λk hk=>xI hE.row hE.len k hk);clear hE hS hQ;rename World=>wo
   go_wp2;go_loopw [4,5] (λm i wi=>∃(b:Bool) (k:Nat) (D':List Bool),k<=P.length/\m=.bool b/\i=.int .i64 k/\rA w w.heap.size P.length D' wi/\sM P D'/\(b=false->D'=D/\∀j,j<k->zZ P D j)/\(b=true->(D'.countP λb=>!b)<D.countP λb=>!b)/\((D'.countP λb=>!b)<=D.countP λb=>!b)) (λ_ i _=>P.length-(intOf i).toNat);case atStart=>exact ⟨false,0,D,zt _,rfl,rfl,HE.out,HS.out,λ_=>⟨rfl,λj h=>by omega⟩,by simp,zz _⟩
   case round=>
    obtain ⟨b,k,D',hk,rfl,rfl,hE,hS,hb0,hb1,hb2⟩:=hrel;have hT:=HT.out.below hE.low;have c1:=hT.cell;by_cases hlt:k<P.length
    ·have hlti:(k:Int)<(P.length:Int):=by omega
     obtain ⟨a',cap',e',hc⟩:=hT.shape;obtain ⟨g,rfl,q1,q2,q3,e3⟩:=hc k hlt;simp at e';obtain ⟨rfl,rfl⟩:=e';clear q1 q2 q3;have hcb:=HOK.out.cls k hlt;have hlen:=hE.len;have f3:=xI hE.row hE.len P[k].1.cls (by omega);have hdn:=xG P D' k hlt;have HDS:=λ(he:bD (aV P) (aZ P) k)=>sM.set HCL.out hS hlt he
     have HEO:=λ(r:Int)=>aV9 (r:=r) HCL.out HOK.out hS hlt
     have hfn:=aVb D' P[k].1.cls (by omega);have HC:=aA hc;have CT:=aA (aHo B tp _ P P[k].1.cls wr hT hf);have fz:=hE.row.frozenAt P[k].1.cls;have HHD:=aA (show ∀(h:Nat) (hl:h<P.length),P[h].1.cls=P[k].1.cls->aZ P k h from λh hl e=>(aZ.iff hlt hl).2 e.symm);generalize P[k].1.cls=c at *;have HE1:=aA hE;have HS1:=aA hS;have HB0:=aA hb0;have HB1:=aA hb1;have HB2:=aA hb2;have HDN:=aA hdn;have HDS':=aA HDS;have HEO':=aA HEO;have HFN:=aA hfn;have hci:(c:Int)<(P.length:Int):=by omega
     clear hE hS hb0 hb1 hb2 hdn HDS HEO hfn hT hc;cases hd:D'.getD c false with
     | true=>
      rw [hd] at f3;have HDT:=aA (HDN.out.trans hd);clear hd;go_wp2;go_roundw;case rel=>
       refine ⟨b,k+1,D',by omega,rfl,by go_num,HE1.out,HS1.out,λe=>⟨(HB0.out e).1,λj hj=>?_⟩,HB1.out,HB2.out⟩;by_cases hjk:j<k
       ·exact (HB0.out e).2 j hjk
       ·have:j=k:=by omega
        subst this;rw [<-(HB0.out e).1];exact Or.inl HDT.out
      case measure=>simp [intOf];omega
     | false=>
      rw [hd] at f3;have HFL:=aA (HFN.out hd);have HDF:=aA hd;clear hd;go_wp2_with (first
       | (go_at_call 71;refine (aB CT).mono ?_)
       | go_in)
      rename World=>wi
      rintro e w1 ⟨r,rfl,hr,d,rfl⟩;rcases hr with ⟨rfl,hno⟩ | ⟨h,rfl,hl,hc,hv⟩
      ·have HEK:=aA (HEO'.out (-1) (Or.inl ⟨rfl,hno⟩) (λh e=>by omega));clear hno;go_wp2;go_roundw;case rel=>
        have:=HFL.out;have:=HB2.out;exact ⟨true,k+1,D'.set c true,by omega,rfl,by go_num,(HE1.out.drewN d).set (zz _) c,HDS'.out HEK.out,by simp,λ_=>by omega,by omega⟩
       case measure=>simp [intOf];omega
      ·have hhi:(h:Int)<(P.length:Int):=by omega
       obtain ⟨g',hg',q1,q2,e4,q5⟩:=HC.out h hl;simp at hg';subst hg';clear q1 q2 q5;have hT1:=HT.out.below HE1.out.low;have hpp:=hT1.parts P[h] (zy _);have hpb:=HPS.out P[h] (zy _);have hpl:=HOK.out.parts h hl;have hek:(∀p∈P[h].1.parts,dn P D' p=true)->bD (aV P) (aZ P) k:=λha=>HEO'.out h (Or.inr ⟨h,rfl,hl,hc,hv⟩) (λh' e hl'=>by
        have:h=h':=by omega
        subst this;exact ha)
       have HEK:=aA hek;clear hek;have HQ:=aA (λ(p:Nat) (hp:p∈P[h].1.parts) (hd:dn P D' p=false)=>(Or.inr ⟨h,hl,HHD.out h hl hc,hv,p,hp,hd⟩ : zZ P D' k));obtain ⟨pa,pcap,hpv,hpc⟩:=sO hpp;rw [hpv] at e4;generalize P[h].1.parts=l at *;have HPC:=aA hpc;have HPL:=aA hpl;clear hpp hpv hT1 hpc hpl hc hv;go_wp2;go_loopw [8,9] (λa p wx=>∃q:Nat,q<=l.length/\p=.int .i64 q/\a=.bool (sN P D' (l.take q))/\∃d',wx=wi.drewN d') (λ_ p _=>l.length-(intOf p).toNat);case atStart=>exact ⟨0,zt _,rfl,rfl,_,rfl⟩
       case round=>
        obtain ⟨q,hq,rfl,rfl,d',rfl⟩:=hrel;by_cases hql:q<l.length
        ·have hqli:(q:Int)<(l.length:Int):=by omega
         obtain ⟨g5,rfl,e5⟩:=HPC.out q hql;have hpn:=HPL.out l[q] (zy _);obtain ⟨g',hg',q1,q2,q3,e6⟩:=HC.out l[q] hpn;simp at hg';subst hg';have hcq:=HOK.out.cls l[q] hpn;have hl1:=HE1.out.len;have f6:=xI HE1.out.row HE1.out.len P[l[q]].1.cls (by omega);have HPT:=aA (aVd P D' l q hql);rw [<-xG P D' l[q] hpn] at f6;generalize P[l[q]].1.cls=cq at *;generalize dn P D' l[q]=dq at *;generalize l[q]=pq at *;have hpni:(pq:Int)<(P.length:Int):=by omega
         have hcqi:(cq:Int)<(P.length:Int):=by omega
         clear q1 q2 q3;cases hpd:sN P D' (l.take q) with
         | true=>
          rw [hpd] at HPT;go_wp2;go_quiet (fail);go_wp2;go_roundw;case rel=>exact ⟨q+1,by omega,by go_num,by rw [HPT.out];simp,by first | exact jZ _ _ _ | exact ⟨_,rfl⟩⟩
          case measure=>simp [intOf];omega
         | false=>
          rw [hpd] at HPT;go_wp2;go_quiet (fail);go_wp2;go_roundw;case rel=>exact ⟨q+1,by omega,by go_num,by rw [HPT.out];simp,by first | exact jZ _ _ _ | exact ⟨_,rfl⟩⟩
          case measure=>simp [intOf];omega
        ·have hqli:¬((q:Int)<(l.length:Int)):=by omega
         have hqe:q=l.length:=by omega
         rw [hqe,List.take_length];cases hpd:sN P D' l with
         | true=>
          have HA:Hid (∀p∈l,dn P D' p=true):=aA (by simpa [sN] using hpd);clear hpd;go_wp2;go_roundw;case rel=>
           have:=HFL.out;have:=HB2.out;exact ⟨true,k+1,D'.set c true,by omega,rfl,by go_num,(HE1.out.drewN d').set (zz _) c,HDS'.out (HEK.out HA.out),by simp,λ_=>by omega,by omega⟩
          case measure=>simp [intOf];omega
         | false=>
          have HA:Hid (∃p∈l,dn P D' p=false):=aA (by simpa [sN] using hpd);clear hpd;go_wp2;go_roundw;case rel=>
           refine ⟨b,k+1,D',by omega,rfl,by go_num,HE1.out.drewN d',HS1.out,λe=>⟨(HB0.out e).1,λj hj=>?_⟩,HB1.out,HB2.out⟩;by_cases hjk:j<k
           ·exact (HB0.out e).2 j hjk
           ·have:j=k:=by omega
            subst this;rw [<-(HB0.out e).1];obtain ⟨p,hp,hd⟩:=HA.out;exact HQ.out p hp hd
          case measure=>simp [intOf];omega
    ·have hlti:¬((k:Int)<(P.length:Int)):=by omega
     have HE1:=aA hE;have HS1:=aA hS;have HB0:=aA hb0;have HB1:=aA hb1;have HB2:=aA hb2;clear hE hS hb0 hb1 hb2 hT;go_wp2;go_roundw;case rel=>exact ⟨b,D',rfl,HE1.out,HS1.out,λe i hi=>by rw [(HB0.out e).1];exact (HB0.out e).2 i (by omega)⟩
     case measure=>
      rw [HD.out,aJ6 HE1.out.len λk hk=>xI HE1.out.row HE1.out.len k hk];have:=HB2.out;cases b with
      | true=>have:=HB1.out rfl;simp [vO];omega
      | false=>simp [vO];omega
  | false=>
   have HE:=aA hE;have HS:=aA hS;have HQ:=aA (hQ rfl);have hT:=HT.out.below hE.low;have c1:=hT.cell;clear hE hS hQ;rename World=>wo
   have HT1:=aA hT;clear hT;go_wp2;go_loopw [10] (λi wi=>∃k:Nat,k<=P.length/\i=.int .i64 k/\(∀j,j<k->dn P D j=true)/\wi=wo) (λi _=>P.length-(intOf i).toNat);case atStart=>exact ⟨0,zt _,rfl,λj h=>by omega,rfl⟩
   case round=>
    obtain ⟨k,hk,rfl,hall,rfl⟩:=hrel;by_cases hlt:k<P.length
    ·have hlti:(k:Int)<(P.length:Int):=by omega
     obtain ⟨a',cap',e',hc⟩:=HT1.out.shape;obtain ⟨g,rfl,q1,q2,q3,e3⟩:=hc k hlt;simp at e';obtain ⟨rfl,rfl⟩:=e';clear q1 q2 q3;have hcb:=HOK.out.cls k hlt;have hlen:=HE.out.len;have f3:=xI HE.out.row HE.out.len P[k].1.cls (by omega);rw [<-xG P D k hlt] at f3;have HA:=aA hall;generalize P[k].1.cls=c at *;have hci:(c:Int)<(P.length:Int):=by omega
     clear hc hall;cases hd:dn P D k with
     | true=>
      rw [hd] at f3;have HD:=aA hd;clear hd;go_wp2;go_roundw;case rel=>
       refine ⟨k+1,by omega,by go_num,λj hj=>?_,by first | rfl | trivial⟩;by_cases hjk:j<k
       ·exact HA.out j hjk
       ·have:j=k:=by omega
        subst this;exact HD.out
      case measure=>simp [intOf];omega
     | false=>
      rw [hd] at f3;have HD:=aA hd;clear hd;go_wp2;go_ret;refine ⟨_,rfl,⟨_,rfl,λe=>by simp at e,λe=>?_⟩,HE.out.low⟩;have:=aVa HOK.out HQ.out (e k hlt) hlt;rw [HD.out] at this;cases this
    ·have hlti:¬((k:Int)<(P.length:Int)):=by omega
     have HA:=aA hall;clear hall;go_wp2;go_ret;exact ⟨_,rfl,⟨_,rfl,λ_ i hi=>HS.out i hi (HA.out i (by omega)),λ_=>rfl⟩,HE.out.low⟩
end Go.Proofs.YtcldkjcpofjmhaaGreatDoor
