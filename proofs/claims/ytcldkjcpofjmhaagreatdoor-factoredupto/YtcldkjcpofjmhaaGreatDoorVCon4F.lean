import Derived.Test.YtcldkjcpofjmhaaGreatDoorUWrF
open And renaming intro→zt
open Array renaming getElem?_eq_some_iff→zz
open List renaming length_append→zx,append_assoc→zw,getElem_of_mem→zv,mem_append→zu,mem_of_mem_take→zr,mem_of_mem_eraseIdx→zq,length_cons→zp,length_eraseIdx_le→zo,map_append→zn,mem_map→zm,cons_append→zl
open Nat renaming le_refl→zy
namespace Go.Proofs.YtcldkjcpofjmhaaGreatDoor
open World renaming cell?→zs
set_option maxHeartbeats 8000000
set_option maxRecDepth 100000
variable{R:List (Int×Lt)}
section
open Go.RowKit Go.Shelf Go.WideMaps
theorem oR.row{nb:Option Nat}{w w':World}(hs:oR nb w w'){B:Nat}{e:TypeId}{s n:Nat}{v:Value}{xs:List Value}(ho:w.ownsRow B e s v n xs)(h1:e≠3)(h2:e≠137)(hn:∀k,v.ownBlock=some k->nb≠some k):w'.ownsRow B e s v n xs:=by
 obtain ⟨h0,⟨rfl,h3⟩ | ⟨g,cap,cur,rfl,hb,hh,hr⟩⟩:=ho
 ·exact ⟨h0,Or.inl ⟨rfl,h3⟩⟩
 ·exact ⟨h0,Or.inr ⟨g,cap,cur,rfl,hb,by rw [hs g cur e (0,0) hh h1 h2 (hn g rfl)];exact hh,hr⟩⟩
structure nX(w0:World)(B tb mp:Nat)(M0:List Tg)(a b:Nat)(R:List (Int×Lt))(v:Value)(nb:Option Nat)(ls:List (List Nd))(Q:List (Lt×Value))(wr:World):Prop where
 con:gW B tb mp nb (M0++aJ R) a b (bN M0.length R) ls wr
 len:R.length=ls.length
 made:Q.map Prod.fst=cM R ls
 row:wr.ownsRow B 39 2 v Q.length (bA Q)
 atoms:∀q∈Q,fP wr B q.2 q.1.2/\q.1.2.length<=500/\∀k,q.2.ownBlock=some k->nb≠some k
 low:Below B w0 wr
section
variable {w0 wr wb w2 w3 w5:World}{B tb mp:Nat}{M0:List Tg}{a b:Nat}{R:List (Int×Lt)}{v v3 v5:Value}{nb nb':Option Nat}{ls:List (List Nd)}{Q:List (Lt×Value)}{o:Int}{x:Lt}{l:List Nd}
theorem nX.below(h:nX w0 B tb mp M0 a b R v nb ls Q wr)(hb:Below wr.heap.size wr wb):nX w0 B tb mp M0 a b R v nb ls Q wb:=
 ⟨h.con.below hb,h.len,h.made,aU h.row hb (zy _),λq hq=>⟨aU (h.atoms q hq).1 hb (zy _),(h.atoms q hq).2⟩,h.low.trans (hb.mono h.con.big)⟩
theorem nX.rows(h:nX w0 B tb mp M0 a b R v nb ls Q wr)(hs:oR nb wr w2):w2.ownsRow B 39 2 v Q.length (bA Q)/\∀q∈Q,fP w2 B q.2 q.1.2:=by refine ⟨hs.row h.row (by decide) (by decide) (λk hk e=>?_),λq hq=>hs.row (h.atoms q hq).1 (by decide) (by decide) (h.atoms q hq).2.2⟩;obtain ⟨cs,hc⟩:=h.con.nbT e;exact cE h.row hc (by decide) hk
theorem nX.add(h:nX w0 B tb mp M0 a b R v nb ls Q wr)(hb:Below B wr w2)(hm:aJv wr nb nb')(hs:oR nb wr w2) :
  (w2.ownsRow B 39 2 v Q.length (bA Q)/\∀q∈Q,fP w2 B q.2 q.1.2/\q.1.2.length<=500/\∀k,q.2.ownBlock=some k->nb'≠some k)/\Below B w0 w2:=by
 obtain ⟨r1,r2⟩:=h.rows hs;refine ⟨⟨r1,λq hq=>⟨r2 q hq,(h.atoms q hq).2.1,λk hk e=>?_⟩⟩,h.low.trans hb⟩;rcases hm with m | ⟨g,m,hg⟩
 ·exact (h.atoms q hq).2.2 k hk (by rw [<-m,e])
 ·rw [m] at e;simp at e;have:=(aT (h.atoms q hq).1 k hk).2;omega
theorem nX.put(hlen:R.length=ls.length)(hmade:Q.map Prod.fst=cM R ls)(hr:w2.ownsRow B 39 2 v Q.length (bA Q)/\∀q∈Q,fP w2 B q.2 q.1.2/\q.1.2.length<=500/\∀k,q.2.ownBlock=some k->nb≠some k)(hlow:Below B w0 w2)(hc2:gW B tb mp nb (M0++aJ R++aO o x.2) a b (bN M0.length R) ls w2)
  (hc:gW B tb mp nb (M0++aJ R++aO o x.2) a b (bN M0.length R++[(M0++aJ R).length]) (ls++[l]) w3) (hb:Below B w2 w3) (hs:oR nb w2 w3) (h500:l.length<=500) (h3:w3.ownsRow w2.heap.size 36 2 v3 l.length (aG l))
  {X:Obj} (h5:w5.ownsRow B 39 2 v5 (Q.length+1) (bA Q++[.bool x.1,v3])) (hg:(w3.alloc X).grownBy w5 v.ownBlock) :
  nX w0 B tb mp M0 a b (R++[(o,x)]) v5 nb (ls++[l]) (Q++[((x.1,l),v3)]) w5:=by
 have hB2:=hc2.big;have hal:Below w3.heap.size w3 (w3.alloc X):=(Below.refl _ _).alloc (zy _) X;have hrow3:w3.ownsRow B 39 2 v Q.length (bA Q):=hs.row hr.1 (by decide) (by decide) (λk hk e=>by
  obtain ⟨cs,hcs⟩:=hc2.nbT e;exact cE hr.1 hcs (by decide) hk)
 have hrowA:=aU hrow3 hal (zy _);have hat:∀{q:Value} {m:List Nd} {B':Nat},w3.ownsRow B' 36 2 q m.length (aG m)->w5.ownsRow B' 36 2 q m.length (aG m):=λhq=>cH (aU hq hal (zy _)) hg (bW (aU hq hal (zy _)) hrowA (by decide))
 have e1:M0++aJ (R++[(o,x)])=M0++aJ R++aO o x.2:=by rw [aK0,<-zw]
 have e2:bN M0.length (R++[(o,x)])=bN M0.length R++[(M0++aJ R).length]:=by rw [aK1,zx]
 refine ⟨by rw [e1,e2];exact (hc.below hal).lits hrowA hg,by simp [hlen],?_,?_,?_,?_⟩
 ·rw [zn,hmade,aWo R ls hlen];rfl
 ·have e3:bA (Q++[((x.1,l),v3)])=bA Q++[.bool x.1,v3]:=by simp [bA]
  rw [e3,zx];exact h5
 ·intro q hq;rcases zu.1 hq with hq | hq
  ·exact ⟨hat (hs.row (hr.2 q hq).1 (by decide) (by decide) (hr.2 q hq).2.2),(hr.2 q hq).2⟩
  ·simp at hq;subst hq;refine ⟨dN (hat h3) hB2,h500,λk hk e=>?_⟩;obtain ⟨cs,hcs⟩:=hc2.nbT e;have h6:=(zz.1 hcs).1;have h7:=(aT h3 k hk).1;omega
 ·have h8:=hlow.trans hb;have h9:=h8.trans (hal.mono hc.big);exact h9.grown hg (by have:=hc.big;simp;omega) (λk e=>(aT hrowA k e).1)
end
end
section
open Go.RowKit
theorem aWp{c:List Lt}{out:Nat}:∀(d j:Nat),j+d<=c.length->∃s,iC c out (j+d)=iC c out j++s:=by
 intro d;induction d with
 | zero=>intro j _;exact ⟨[],by simp⟩
 | succ d ih=>
  intro j h;obtain ⟨s,hs⟩:=ih j (by omega);by_cases e:j+d=out
  ·refine ⟨s,?_⟩;rw [<-hs,show j+(d+1)=j+d+1 by omega,e];exact aJw (by omega)
  ·refine ⟨s++[c[j+d]'(by omega)],?_⟩;rw [show j+(d+1)=j+d+1 by omega,aJx (by omega) e,hs,zw]
theorem aWq:∀(p q:List (List Lt×Nat)) (o:Nat),bG o (p++q)=bG o p++bG (o+p.length) q:=by
 intro p;induction p with
 | nil=>intro q o;simp [bG]
 | cons x p ih=>
  intro q o;simp only [zl,bG,ih,zw,zp];rw [show o+1+p.length=o+(p.length+1) by omega]
theorem xR:∀(ps:List (List Lt×Nat)) (o:Nat) (r:Int×Lt),r∈bG o ps->∃p∈ps,r.2∈p.1:=by
 intro ps;induction ps with
 | nil=>intro o r h;simp [bG] at h
 | cons p ps ih=>
  intro o r h;rcases zu.1 h with h | h
  ·obtain ⟨l,hl,rfl⟩:=zm.1 h;exact ⟨p,by simp,zq hl⟩
  ·obtain ⟨q,hq,hr⟩:=ih _ r h;exact ⟨q,by simp [hq],hr⟩
theorem aK2:∀(ps:List (List Lt×Nat)) (o:Nat),(∀p∈ps,p.1.length<=8)->(bG o ps).length<=8*ps.length:=by
 intro ps;induction ps with
 | nil=>intro o _;simp [bG]
 | cons p ps ih=>
  intro o h;have h1:=h p (by simp);have h2:=ih (o+1) (λq hq=>h q (by simp [hq]));have h3:=zo p.1 p.2;simp only [bG,zx,List.length_map,zp];omega
theorem aWr(c:List Lt)(out j:Nat):(iC c out j).length<=j:=by unfold iC;have:=zo (c.take j) out;simp at this;omega
theorem aWs{Pr:List (List Lt×Nat)}{k:Nat}(hk:k<Pr.length){j:Nat}(hj:j<=Pr[k].1.length):∃s,bG 0 Pr=(bG 0 (Pr.take k)++(iC Pr[k].1 Pr[k].2 j).map λl=>((k:Int),l))++s:=by obtain ⟨s,hs⟩:=aWp (c:=Pr[k].1) (out:=Pr[k].2) (Pr[k].1.length-j) j (by omega);rw [show j+(Pr[k].1.length-j)=Pr[k].1.length by omega,aJy] at hs;have h1:=aJz Pr 0 k hk;rw [Nat.zero_add] at h1;have h2:=aWq (Pr.take (k+1)) (Pr.drop (k+1)) 0;rw [List.take_append_drop] at h2;refine ⟨(s.map λl=>((k:Int),l))++bG (0+(Pr.take (k+1)).length) (Pr.drop (k+1)),?_⟩;rw [h2,h1,hs,zn];simp only [zw]
theorem aWt{M0:List Tg}{a b:Nat}{s:List (Int×Lt)}{ls:List (List Nd)}(h:oU (M0++aJ R) a b (bN M0.length R) ls)(hs:∀r∈s,aW r.2.2 1=true){l:List Nd}(hl:l∈ls)(h5:500<l.length):eY M0 a b (R++s) [] false 4:=by
 obtain ⟨ms,h1⟩:=oU.all s h hs;have e1:M0++aJ R++aJ s=M0++aJ (R++s):=by simp [aJ]
 have e2:bN M0.length R++bN (M0++aJ R).length s=bN M0.length (R++s):=by
  have key:∀(R s:List (Int×Lt)) (n:Nat),bN n R++bN (n+(aJ R).length) s=bN n (R++s):=by
   intro R;induction R with
   | nil=>intro s n;simp [bN,aJ]
   | cons r R ih=>
    intro s n;simp only [zl,bN];rw [<-ih,aAd];simp [Nat.add_assoc]
  rw [zx];exact key R s M0.length
 rw [e1,e2] at h1;have hlen:(R++s).length=(ls++ms).length:=by obtain ⟨_,_,_,_,_,_,h2,_⟩:=h1;have:=h2.length;rw [aAa] at this;exact this
 obtain ⟨sg,hm⟩:=aK6 (R++s) (ls++ms) hlen l (zu.2 (Or.inl hl));exact h1.out.1 (aDi hm h5)
end
section
open Go.RowKit Go.Shelf Go.WideMaps
structure vR(w0:World)(B:Nat)(M0:List Tg)(a b:Nat)(rest:List (Int×Lt))(v:Value)(yes:Bool)(er:Int)(w':World):Prop where
 out:∃out,eY M0 a b rest out yes er/\bM B w' v out/\out.length<=100
 low:Below B w0 w'
def CoQ(w0:World)(B:Nat)(M0:List Tg)(a b:Nat)(rest:List (Int×Lt))(e:Ending)(w':World):Prop:=∃v yes er,e=.returned (.tuple #[v,.bool yes,.int .i64 er])/\vR w0 B M0 a b rest v yes er w'
theorem aK3(h:∀r∈R,r.2.2.length<=60):(aJ R).length<=60*R.length:=by
 induction R with
 | nil=>simp [aJ]
 | cons r R ih=>
  rw [aAd];have h1:=h r (by simp);have h2:=ih (λx hx=>h x (by simp [hx]));simp;omega
theorem aWu{Q:List (Lt×Value)}(h:(Q.map λq=>q.2.ownBlock).Nodup):((Q.map Prod.snd).filterMap Value.ownBlock).Nodup:=by rw [List.filterMap_map];unfold List.Nodup at h ⊢;rw [List.pairwise_map] at h;refine List.Pairwise.filterMap _ (λx y hr b hb b' hb' e=>hr ?_) h;subst e;have e1:x.2.ownBlock=some b:=hb;have e2:y.2.ownBlock=some b:=hb';rw [e1,e2]
theorem vT{c:List Lt}{m:Nat}(h:∀x∈c,x.2.length<=m):aK c<=m*c.length:=by
 induction c with
 | nil=>simp [aK]
 | cons x r ih=>
  have h1:=h x (by simp);have h2:=ih (λy hy=>h y (by simp [hy]));have h3:aK (x :: r)=x.2.length+aK r:=by simp [aK]
  rw [h3,zp,Nat.mul_add];omega
structure rE(w0:World)(B tb mp:Nat)(M0:List Tg)(a b pb:Nat)(pc:Array Value)(R:List (Int×Lt))(v:Value)(wr:World):Prop where
 st:∃nb ls Q,nX w0 B tb mp M0 a b R v nb ls Q wr
 prem:wr.heap[pb]?=some (.cells pc 112)
theorem rE.below{w0 wr w2:World}{B tb mp:Nat}{M0:List Tg}{a b pb:Nat}{pc:Array Value}{v:Value}(h:rE w0 B tb mp M0 a b pb pc R v wr)(hb:Below wr.heap.size wr w2):rE w0 B tb mp M0 a b pb pc R v w2:=by obtain ⟨nb,ls,Q,hs⟩:=h.st;exact ⟨⟨nb,ls,Q,hs.below hb⟩,by rw [hb.block pb (zz.1 h.prem).1];exact h.prem⟩
theorem oR.at{nb:Option Nat}{w w':World}(hs:oR nb w w'){k:Nat}{cs:Array Value}{T:TypeId}(hk:w.heap[k]?=some (.cells cs T))(h1:T≠3)(h2:T≠137)(h3:T≠36)(hn:∀k,nb=some k->∃cs,w.heap[k]?=some (.cells cs 36)):w'.heap[k]?=some (.cells cs T):=by
 rw [hs k cs T (0,0) hk h1 h2 (λe=>by
  obtain ⟨cs',hc⟩:=hn k e;rw [hk] at hc;simp at hc;exact h3 hc.2)]
 exact hk
theorem aK4(w0:World)(B tb mp:Nat)(M0:List Tg)(a b pb pn:Nat)(pc:Array Value)(ad:Nat->Option Addr)(cp:Nat->Nat)(Pr:List (List Lt×Nat))(w:World)(h:rE w0 B tb mp M0 a b pb pc [] (.slice none 0 0) w)(hB:w0.heap.size=B)
  (hp:∀k (h:k<Pr.length),pc[k*2]?=some (.slice (ad k) Pr[k].1.length (cp k))/\pc[k*2+1]?=some (.int .i64 Pr[k].2)/\bE w0 (ad k) Pr[k].1/\Pr[k].2<Pr[k].1.length/\Pr[k].1.length<=8/\∀x∈Pr[k].1,aW x.2 1=true/\x.2.length<=60) (h2:Pr.length<=2) (hM:M0.length<=120) :
  Calls Tryz.prog 60 #[.pointer (some ⟨tb,0,none⟩),.slice (some ⟨pb,0,none⟩) Pr.length pn] w λe w'=>CoQ w0 B M0 a b (bG 0 Pr) e w':=by
 have HH:=aA h;have HP:=aA hp;clear h hp;obtain ⟨iL,hI,hI0,hI1,hI2⟩:=info_parts sF;go_enter Tryz.func60,Tryz.ntmps60;go_wp2;go_loopw [7,16] (λv i wr=>∃k:Nat,k<=Pr.length/\i=.int .i64 k/\rE w0 B tb mp M0 a b pb pc (bG 0 (Pr.take k)) v wr) (λ_ i _=>Pr.length-(intOf i).toNat);case atStart=>exact ⟨0,Nat.zero_le _,rfl,by simpa [bG] using HH.out⟩
 case round=>
  obtain ⟨k,hk,rfl,hW⟩:=hrel;by_cases hlt:k<Pr.length
  ·obtain ⟨p1,p2,p3,p4,p5,p6⟩:=HP.out k hlt;have hlti:(k:Int)<(Pr.length:Int):=by omega
   have e1:wr.cell? ⟨pb,k*2,none⟩=some (.slice (ad k) Pr[k].1.length (cp k)):=by simp [zs,hW.prem,p1]
   have e2:wr.cell? ⟨pb,k*2+1,none⟩=some (.int .i64 Pr[k].2):=by simp [zs,hW.prem,p2]
   have HW:=aA hW;have HLI:=aA p3;have HTM:=aA p6;have HRT:=aA (aJz Pr 0 k hlt);rw [Nat.zero_add] at HRT;have HSP:=aA (λj hj=>aWs hlt (j:=j) hj);generalize Pr[k].1=c at *;generalize Pr[k].2=out at *;clear hW p1 p2 p3 p6;obtain ⟨adk,hadk⟩ : ∃x,ad k=x:=⟨_,rfl⟩;rw [hadk] at e1 HLI;obtain ⟨cpk,hcpk⟩ : ∃x,cp k=x:=⟨_,rfl⟩;rw [hcpk] at e1;clear hadk hcpk;go_wp2;clear e1 e2;have hbA:Below wr.heap.size wr (wr.alloc (.cells #[.slice adk c.length cpk,.int .i64 out] 112)):=(Below.refl _ _).alloc (zy _) _;have HW1:=aA (HW.out.below hbA);have hbox:(wr.alloc (.cells #[.slice adk c.length cpk,.int .i64 out] 112)).heap[wr.heap.size]?=some (.cells #[.slice adk c.length cpk,.int .i64 out] 112):=by show (wr.heap.push _)[wr.heap.size]?=_;simp
   have HBOX:=aA hbox;clear hbA hbox;go_loopw [7,24] (λv i wx=>∃j:Nat,j<=c.length/\i=.int .i64 j/\rE w0 B tb mp M0 a b pb pc (bG 0 (Pr.take k)++(iC c out j).map λl=>((k:Int),l)) v wx/\wx.heap[wr.heap.size]?=some (.cells #[.slice adk c.length cpk,.int .i64 out] 112)) (λ_ i _=>c.length-(intOf i).toNat);case atStart=>exact ⟨0,Nat.zero_le _,rfl,by simpa [aWn] using HW1.out,HBOX.out⟩
   case round=>
    obtain ⟨j,hj,rfl,hX,hbx⟩:=hrel;rename World=>wx
    by_cases hjl:j<c.length
    ·have hjli:(j:Int)<(c.length:Int):=by omega
     obtain ⟨nb,ls,Q,hS⟩:=hX.st;obtain ⟨bq,o1,aa,acp,rfl,e1,f1,g1⟩:=HLI.out.cell j hjl;have e2:=Below.at' hS.low (by omega) e1;have f2:=Below.at' hS.low (by omega) f1;obtain ⟨y0,y1⟩ : wx.cell? ⟨wr.heap.size,0,none⟩=some (.slice (some ⟨bq,o1,none⟩) c.length cpk)/\wx.cell? ⟨wr.heap.size,1,none⟩=some (.int .i64 out):=⟨by simp [zs,hbx],by simp [zs,hbx]⟩;have hwx:wr.heap.size<wx.heap.size:=(zz.1 hbx).1;by_cases hjo:j=out
     ·subst hjo;have HX:=aA (hX.below ((Below.refl wx.heap.size wx).alloc (zy _) (.cells #[.bool c[j].1,.slice aa c[j].2.length acp] 39)));have HBX2:Hid ((wx.alloc (.cells #[.bool c[j].1,.slice aa c[j].2.length acp] 39)).heap[wr.heap.size]?=some (.cells #[.slice (some ⟨bq,o1,none⟩) c.length cpk,.int .i64 j] 112)):=aA (by rw [((Below.refl wx.heap.size wx).alloc (zy _) _).block _ (zz.1 hbx).1];exact hbx);have HSK:=aA (aJw hjl);clear hX hbx hS e1 f1 g1;go_wp2;go_roundw;case rel=>exact ⟨j+1,by omega,by go_num,by rw [HSK.out];exact HX.out,HBX2.out⟩
      case measure=>simp [intOf];omega
     ·have hjoi:¬((j:Int)=(out:Int)):=by omega
      obtain ⟨t1,t60⟩:=HTM.out c[j] (List.getElem_mem _);have hR60:∀r∈bG 0 (Pr.take k)++(iC c out j).map λl=>((k:Int),l),r.2.2.length<=60:=by
       intro r hr;rcases zu.1 hr with hr | hr
       ·obtain ⟨q,hq,hm⟩:=xR _ _ r hr;obtain ⟨i,hi,rfl⟩:=zv (zr hq);exact ((HP.out i hi).2.2.2.2.2 _ hm).2
       ·obtain ⟨l,hl,rfl⟩:=zm.1 hr;exact (HTM.out l (zr (zq hl))).2
      have hRl:(bG 0 (Pr.take k)++(iC c out j).map λl=>((k:Int),l)).length<=24:=by
       have h1:=aK2 (Pr.take k) 0 (λq hq=>by
        obtain ⟨i,hi,rfl⟩:=zv (zr hq);exact (HP.out i hi).2.2.2.2.1)
       have h2:=aWr c out j;simp at h1 ⊢;omega
      have hR1:bG 0 (Pr.take k)++(iC c out (j+1)).map (λl=>((k:Int),l))=(bG 0 (Pr.take k)++(iC c out j).map λl=>((k:Int),l))++[((k:Int),c[j])]:=by rw [aJx hjl hjo,zn,zw];rfl
      obtain ⟨sR,hsR⟩:=HSP.out (j+1) (by omega);have HR1:=aA hR1;rw [hR1] at hsR;have HSR:=aA hsR;have HST:Hid (∀r∈sR,aW r.2.2 1=true):=aA λr hr=>by
       obtain ⟨q,hq,hm⟩:=xR Pr 0 r (by rw [hsR];exact zu.2 (Or.inr hr));obtain ⟨i,hi,rfl⟩:=zv hq;exact ((HP.out i hi).2.2.2.2.2 _ hm).1
      have hlnR:=aK3 hR60;clear hR1 hsR hR60;generalize bG 0 (Pr.take k)++(iC c out j).map (λl=>((k:Int),l))=R at *;have hln:(M0++aJ R).length<=2000:=by simp;omega
      have hbl:Below wx.heap.size wx (wx.alloc (.cells #[.bool c[j].1,.slice aa c[j].2.length acp] 39)):=(Below.refl _ _).alloc (zy _) _;have hS1:=hS.below hbl;have hbl1:(wx.alloc (.cells #[.bool c[j].1,.slice aa c[j].2.length acp] 39)).heap[wx.heap.size]?=some (.cells #[.bool c[j].1,.slice aa c[j].2.length acp] 39):=by show (wx.heap.push _)[wx.heap.size]?=_;simp
      have hbx1:(wx.alloc (.cells #[.bool c[j].1,.slice aa c[j].2.length acp] 39)).heap[wr.heap.size]?=some (.cells #[.slice (some ⟨bq,o1,none⟩) c.length cpk,.int .i64 out] 112):=by rw [hbl.block _ hwx];exact hbx
      have hpb1:(wx.alloc (.cells #[.bool c[j].1,.slice aa c[j].2.length acp] 39)).heap[pb]?=some (.cells pc 112):=by rw [hbl.block _ (zz.1 hX.prem).1];exact hX.prem
      have hx0:0<c[j].2.length:=by
       cases hc0:c[j].2 with
       | nil=>rw [hc0] at t1;simp [aW] at t1
       | cons=>simp
      have CA:=aA (aWl hS1.con (k:Int) aa acp c[j].2 ((g1.below hS.low (by omega)).below hbl (zy _)) t1 (λp hp=>by have:=vU g1 t1 p hp;omega) (by omega) (by omega));have HS1:=aA hS1;have HB1:=aA (zt hbl1 (zt hbx1 hpb1));have hszW:(wx.alloc (.cells #[.bool c[j].1,.slice aa c[j].2.length acp] 39)).heap.size=wx.heap.size+1:=by simp
      clear hX hbx hS e1 f1 g1 hS1 hbl hbl1 hbx1 hpb1 t1;generalize c[j]=x at *;have hlx:(M0++aJ R++aO (k:Int) x.2).length=(M0++aJ R).length+x.2.length:=by rw [zx,List.length_map]
      have hlx1:(M0++aJ R).length<(M0++aJ R++aO (k:Int) x.2).length:=by omega
      have hlx2:(M0++aJ R++aO (k:Int) x.2).length<=1000000:=by omega
      obtain ⟨N,hN⟩ : ∃N,(M0++aJ R).length=N:=⟨_,rfl⟩;rw [hN] at CA hlx1;have HLX:=aA (zt hlx1 hlx2);have HNN:=aA hN;clear hlx hlx1 hlx2 hln hlnR hN;go_upto_region 10 with (first
       | (go_at_call 92;refine (aB CM).mono ?_;rintro e w3 ⟨v3,y3,rfl,hb3,hz3,hs3,l3,hyes,hno⟩;have HB3:=aA hb3;have HS3:=aA hs3;have HY:=aA hyes;have HN:=aA hno;clear hb3 hs3 hyes hno)
       | (go_at_call 59;refine (aB CA).mono ?_;rintro e w2 ⟨rfl,nb2,hc2,hb2,hm2,hs2⟩;have HADD:=aA (HS1.out.add hb2 hm2 hs2);have HK2:=aA (zt (hs2.at HB1.out.1 (by decide) (by decide) (by decide) (λ_ e=>HS1.out.con.nbT e)) (zt (hs2.at HB1.out.2.1 (by decide) (by decide) (by decide) (λ_ e=>HS1.out.con.nbT e)) (hs2.at HB1.out.2.2 (by decide) (by decide) (by decide) (λ_ e=>HS1.out.con.nbT e))));have hz2:=hb2.size;have HC2:=aA hc2;have CM:=aA (aWm hc2 N HLX.out.1 HLX.out.2);clear hb2 hm2 hs2 hc2)
       | go_in)
      have k3:=zt (HS3.out.at HK2.out.1 (by decide) (by decide) (by decide) (λ_ e=>HC2.out.nbT e)) (zt (HS3.out.at HK2.out.2.1 (by decide) (by decide) (by decide) (λ_ e=>HC2.out.nbT e)) (HS3.out.at HK2.out.2.2 (by decide) (by decide) (by decide) (λ_ e=>HC2.out.nbT e)));obtain ⟨z0,z1⟩ : w3.cell? ⟨wx.heap.size,0,none⟩=some (.bool x.1)/\w3.cell? ⟨wx.heap.size,1,none⟩=some (.slice aa x.2.length acp):=⟨by simp [zs,k3.1],by simp [zs,k3.1]⟩;have HK3:=aA k3;clear k3 CM CA;cases y3 with
      | false=>
       obtain ⟨n1,n2,n3⟩:=HN.out rfl;subst n1;have hpu:=n3.pure;have e1:M0++aJ R++aO (k:Int) x.2=M0++aJ (R++[((k:Int),x)]):=by rw [aK0,<-zw]
       have e2:bN M0.length R++[N]=bN M0.length (R++[((k:Int),x)]):=by rw [aK1,<-HNN.out,zx]
       rw [e1,e2] at hpu;have HMANY:Hid (eY M0 a b (bG 0 Pr) [] false 4):=aA (by rw [HSR.out];exact aWt hpu HST.out (zu.2 (Or.inr (List.mem_singleton.2 rfl))) n2);have HLOW:=aA (HADD.out.2.trans HB3.out);clear n3 hpu e1 e2;go_wp2;go_returns;exact ⟨_,_,_,rfl,⟨⟨[],HMANY.out,bM.nil _ _,by simp⟩,HLOW.out⟩⟩
      | true=>
       obtain ⟨n1,n2,n3,n4⟩:=HY.out rfl;rw [<-HNN.out] at n4;obtain ⟨a3,c3,rfl⟩:=aS n3;have hrow3:w3.ownsRow B 39 2 u7 Q.length (bA Q):=HS3.out.row HADD.out.1.1 (by decide) (by decide) (λk hk e=>by
        obtain ⟨cs,hcs⟩:=HC2.out.nbT e;exact cE HADD.out.1.1 hcs (by decide) hk)
       have hQl:Q.length<=24:=by have h1:=congrArg List.length HS1.out.made;have h2:=HS1.out.len;simp [cM] at h1;omega
       obtain ⟨va,vc,hu7⟩:=aS hrow3;subst hu7;have HROW3:=aA hrow3;have hB3:B<=w3.heap.size:=n4.big;have HN3:=aA n3;have HN4:=aA n4;clear hrow3 n3 n4;generalize hql:Q.length=ql at *;have HQL:=aA hql;clear hql;go_wp2_with (first
        | (at_builtin;refine wpList_append_own _ rfl (.tmp 45) (.tmp 50) 22 rfl B 39 iL (.agg #[.bool false,.slice none 0 0]) 2 32 Tryz.underlying22 hI hI0 hI1 hI2 rfl (by decide) _ _ _ rfl (HROW3.out.alloc _) ⟨_,0,none⟩ 1 1 [.bool x.1,.slice a3 l3.length c3] rfl rfl (gK w3 _ _ _ _ rfl) (sG _ _ _ _) (by unfold maxLen;omega) (by omega) (by simp;omega) ?_;intro v5 w5 ho5 hg5 _;have HO5:=aA ho5;have HG5:=aA hg5;clear ho5 hg5)
        | go_in)
       have hz23:=HB3.out.size;have hA3:Below w3.heap.size w3 (w3.alloc (.cells #[.bool x.1,.slice a3 l3.length c3] 39)):=(Below.refl _ _).alloc (zy _) _;have hrA:(w3.alloc (.cells #[.bool x.1,.slice a3 l3.length c3] 39)).ownsRow B 39 2 (.slice va ql vc) ql (bA Q):=aU HROW3.out hA3 (zy _);have hg5:(w3.alloc (.cells #[.bool x.1,.slice a3 l3.length c3] 39)).grownBy w5 (Value.slice va ql vc).ownBlock:=HG5.out;have keep:∀{q:Nat} {cs:Array Value},w3.heap[q]?=some (.cells cs 112)->w5.heap[q]?=some (.cells cs 112):=by
        intro q cs hq;have hq':(w3.alloc (.cells #[.bool x.1,.slice a3 l3.length c3] 39)).heap[q]?=some (.cells cs 112):=by rw [hA3.block q (zz.1 hq).1];exact hq
        rw [hg5.block q (zz.1 hq').1 (λe=>cE hrA hq' (by decide) e.symm)];exact hq'
       have HL5:Hid (nX w0 B tb mp M0 a b (R++[((k:Int),x)]) v5 nb2 (ls++[l3]) (Q++[((x.1,l3),.slice a3 l3.length c3)]) w5):=aA (by
        have hlen:=HS1.out.len;have hmade:=HS1.out.made;have hadd:=HADD.out;have ho5:=HO5.out;rw [<-HQL.out] at hadd ho5 hg5;exact nX.put (x:=x) hlen hmade hadd.1 hadd.2 HC2.out HN4.out HB3.out HS3.out n1 HN3.out ho5 hg5)
       have HK5:=aA (zt (keep HK3.out.2.1) (keep HK3.out.2.2));clear hA3 hrA hg5 keep;go_roundw;case rel=>exact ⟨j+1,by omega,by go_num,⟨⟨_,_,_,by rw [HR1.out];exact HL5.out⟩,HK5.out.2⟩,HK5.out.1⟩
       case measure=>simp [intOf];omega
    ·have hje:j=c.length:=by omega
     subst hje;have hji:¬((c.length:Int)<(c.length:Int)):=by omega
     have HX:Hid (rE w0 B tb mp M0 a b pb pc (bG 0 (Pr.take (k+1))) u7 wx):=aA (by rw [HRT.out,<-aJy];exact hX);clear hX hbx;go_wp2;go_roundw;case rel=>exact ⟨k+1,by omega,by go_num,HX.out⟩
     case measure=>simp [intOf];omega
  ·have hke:k=Pr.length:=by omega
   subst hke;have hki:¬((Pr.length:Int)<(Pr.length:Int)):=by omega
   rw [List.take_length] at hW;obtain ⟨nb,ls,Q,hS⟩:=hW.st;have hR60:∀r∈bG 0 Pr,r.2.2.length<=60:=by intro r hr;obtain ⟨q,hq,hm⟩:=xR _ _ r hr;obtain ⟨i,hi,rfl⟩:=zv hq;exact ((HP.out i hi).2.2.2.2.2 _ hm).2
   have hRl:=aK2 Pr 0 (λq hq=>by
    obtain ⟨i,hi,rfl⟩:=zv hq;exact (HP.out i hi).2.2.2.2.1)
   have hlnR:=aK3 hR60;have hln:(M0++aJ (bG 0 Pr)).length<=1000000:=by simp;omega
   have hnod:=hS.con.nodes hln;have hpu:=hS.con.pure.out;have hcl:(cM (bG 0 Pr) ls).length<=16:=by simp [cM];omega
   have hmem:∀x∈cM (bG 0 Pr) ls,x.2∈ls:=by intro x hx;unfold cM at hx;rw [List.mem_iff_getElem] at hx;obtain ⟨i,hi,rfl⟩:=hx;simp at hi ⊢
   have h500:∀x∈cM (bG 0 Pr) ls,x.2.length<=500:=by intro x hx;rw [<-hS.made] at hx;obtain ⟨q,hq,rfl⟩:=zm.1 hx;exact (hS.atoms q hq).2.1
   have hcnt:=vT h500;have hsh:tS (cM (bG 0 Pr) ls):=λx hx=>⟨by have:=h500 x hx;omega,(hnod x.2 (hmem x hx)).2⟩
   obtain ⟨va,vc,rfl,hli⟩:=aBx hS.made hS.row (λq hq=>(hS.atoms q hq).1) (by omega) hsh;have CO:=aA (aHb va vc (cM (bG 0 Pr) ls) wr hli (λx hx=>(hnod x.2 (hmem x hx)).1) (by omega) (by omega));have hol:(aR (cM (bG 0 Pr) ls)).length<=16:=by have h1:=(qQ (cM (bG 0 Pr) ls)).1;have h2:=(pG (cK (cM (bG 0 Pr) ls))).1;unfold aR;omega
   have hosh:tS (aR (cM (bG 0 Pr) ls)):=hsh.ord;have HOUT:=aA hpu;have HLOW:=aA hS.low;have HBIG:=aA hS.con.big;have CN:=aA (λ(w2:World) (v2:Value) (nb2:Nat) (Q2:List (Lt×Value)) (hO:vE wr (cM (bG 0 Pr) ls) v2 nb2 Q2 w2)=>(show Calls Tryz.prog 57 #[.slice (some ⟨nb2,0,none⟩) (aR (cM (bG 0 Pr) ls)).length (aR (cM (bG 0 Pr) ls)).length] w2 λe w'=>e=.returned (.int .i64 (aK (aR (cM (bG 0 Pr) ls))))/\Below w2.heap.size w2 w' from by
    have hl2:Q2.length=(aR (cM (bG 0 Pr) ls)).length:=by rw [<-hO.made];simp
    obtain ⟨a2,c2,e2,hl⟩:=aBx hO.made (by have:=hO.row;rw [<-hl2] at this;exact this) hO.atoms (by omega) hosh;simp at e2;obtain ⟨rfl,_⟩:=e2;exact aCf _ _ _ w2 hl (by omega)))
   have HMEM:=aA (λ(w2 w3:World) (v2:Value) (nb2:Nat) (Q2:List (Lt×Value)) (hO:vE wr (cM (bG 0 Pr) ls) v2 nb2 Q2 w2) (hb:Below w2.heap.size w2 w3)=>(show bM B w3 (.slice (some ⟨nb2,0,none⟩) (aR (cM (bG 0 Pr) ls)).length (aR (cM (bG 0 Pr) ls)).length) (aR (cM (bG 0 Pr) ls))/\Below B w0 w3 from by
    have hl2:Q2.length=(aR (cM (bG 0 Pr) ls)).length:=by rw [<-hO.made];simp
    refine ⟨⟨Q2,hO.made,?_,λq hq=>dN (aU (hO.atoms q hq) hb (zy _)) HBIG.out,aWu hO.once⟩,(HLOW.out.trans (hO.low.mono HBIG.out)).trans (hb.mono (Nat.le_trans HBIG.out hO.low.size))⟩;have h1:=dN (aU hO.row hb (zy _)) HBIG.out;rw [hl2];exact h1))
   clear hW hS hpu hnod hmem h500 hsh hli hcnt hosh hln hlnR hR60 hRl;generalize cM (bG 0 Pr) ls=cc at *;obtain ⟨n5,hn5⟩ : ∃n,aK (aR cc)=n:=⟨_,rfl⟩;rw [hn5] at CN HOUT;by_cases h5:500<n5
   ·have h5i:(500:Int)<(n5:Int):=by omega
    have HO5:=aA (HOUT.out.1 h5);go_wp2_with (first
     | (go_at_call 52;refine (aB CO).mono ?_;rintro e w2 ⟨v2,nb2,Q2,rfl,hO⟩;have hv2:=hO.val;subst hv2;have HO:=aA hO;have CN2:=aA (CN.out w2 _ nb2 Q2 hO);clear hO)
     | (go_at_call 57;refine (aB CN2).mono ?_;rintro e w3 ⟨rfl,hb3⟩;have HM3:=aA (HMEM.out w2 w3 _ nb2 Q2 HO.out hb3);clear hb3)
     | go_in)
    go_returns;exact ⟨_,_,_,rfl,⟨⟨[],HO5.out,bM.nil _ _,by simp⟩,HM3.out.2⟩⟩
   ·have h5i:¬((500:Int)<(n5:Int)):=by omega
    have HO5:=aA (HOUT.out.2 (by omega));go_wp2_with (first
     | (go_at_call 52;refine (aB CO).mono ?_;rintro e w2 ⟨v2,nb2,Q2,rfl,hO⟩;have hv2:=hO.val;subst hv2;have HO:=aA hO;have CN2:=aA (CN.out w2 _ nb2 Q2 hO);clear hO)
     | (go_at_call 57;refine (aB CN2).mono ?_;rintro e w3 ⟨rfl,hb3⟩;have HM3:=aA (HMEM.out w2 w3 _ nb2 Q2 HO.out hb3);clear hb3)
     | go_in)
    go_returns;exact ⟨_,_,_,rfl,⟨⟨_,HO5.out,HM3.out.1,by omega⟩,HM3.out.2⟩⟩
end
end Go.Proofs.YtcldkjcpofjmhaaGreatDoor
