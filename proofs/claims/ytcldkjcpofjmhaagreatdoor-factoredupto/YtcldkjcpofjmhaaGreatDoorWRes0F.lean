import Derived.Test.YtcldkjcpofjmhaaGreatDoorWMadeF
open Bool renaming noConfusion→zo
open List renaming getElem?_map→zy,getElem?_append_right→zx,getElem?_eq_getElem→zw,getElem?_eq_some_iff→zu,map_append→zt,getElem?_append_left→zr,eraseIdx_of_length_le→zp,drop_eq_getElem_cons→zn,map_congr_left→zm,eraseIdx_append_of_length_le→zl,append_assoc→zk,mem_of_getElem?→zj,getElem_of_mem→zi,length_append→zg,length_cons→zf,mem_map→ze,mem_append→zc,append_nil→zb,mem_flatMap→z1,getElem_mem→z2,cons_append→z3
open Nat renaming le_refl→zv,le_trans→zh,add_sub_cancel→za
open Or renaming inr→zs,inl→zq
open Prod renaming snd→zz
namespace Go.Proofs.YtcldkjcpofjmhaaGreatDoor
set_option maxRecDepth 100000
variable{at' er:Int}{out:List (List Lt)}{ns:List Bool}{S rs:List Nat}{B:Nat}{g:Nat->Nat}{α:Type}{nv rv v:Value}{w w0 wr:World}
section
open Go.RowKit Go.Shelf Go.WideMaps
theorem aKl{l:List α}{i:Nat}(h:i<l.length):∃l1 x l2,l=l1++x :: l2/\l1.length=i:=
 ⟨l.take i,l[i],l.drop (i+1),by rw [<-zn h,List.take_append_drop],by simp;omega⟩
theorem aDr(l1 l2:List α)(x:α):(l1++x :: l2).eraseIdx l1.length=l1++l2:=by rw [zl (zv _)];simp
theorem aKm(C1 C2:List (Int×Lt))(r:Int×Lt)(n:Nat):bN n (C1++r :: C2)=bN n C1++(n+(aJ C1).length) :: bN (n+(aJ C1).length+r.2.2.length) C2:=by rw [aAh];rfl
theorem rI{t:List Nd}(h:aW t 1=true):0<t.length:=by
 cases t with
 | nil=>simp [aW] at h
 | cons=>simp
theorem uK{B':Nat}{e e':TypeId}{z z' n n':Nat}{v':Value}{xs xs':List Value}(h:w.ownsRow B e z v n xs)(h':w.ownsRow B' e' z' v' n' xs')(hne:e≠e'):v.ownBlock=none\/v.ownBlock≠v'.ownBlock:=by
 obtain ⟨_,⟨rfl,_⟩ | ⟨g,cap,cur,rfl,_,hh,_⟩⟩:=h
 ·exact zq rfl
 ·refine zs λhe=>?_
  obtain ⟨_,⟨rfl,_⟩ | ⟨g',cap',cur',rfl,_,hh',_⟩⟩:=h'
  ·cases he
  ·cases he;rw [hh] at hh';cases hh';exact hne rfl
structure gX(w0:World)(B tp:Nat)(L:List (Int×Lt))(S rs:List Nat)(ns:List Bool)(rv nv:Value)(wr:World)(v:Value)(P:Tb)(g:Nat->Nat):Prop where
 tab:bU wr B tp v P
 rows:Rows (aJ L) (P.map Prod.fst) g
 len:P.length<=(aJ L).length
 pos:∀r∈L,0<r.2.2.length
 sts:(bN 0 L).map g=S
 orv:dH B wr rv rs
 onv:wr.ownsRow B 4 1 nv ns.length (ns.map Value.bool)
 apart:∀p∈P,p.2.ownBlock=none\/p.2.ownBlock≠rv.ownBlock
 low:Below B w0 wr
 big:B<=wr.heap.size
section
variable {w0:World}{B tp:Nat}{L:List (Int×Lt)}{S rs:List Nat}{ns:List Bool}{rv nv:Value}{wr:World}{v:Value}{P:Tb}{g:Nat->Nat}
theorem gX.put(h:gX w0 B tp L S rs ns rv nv wr v P g){o up:Int}{x:Lt}(hup:up=60*o)(ht:aW x.2 1=true){k:Nat}{s':List Nd}{w':World}{v':Value}{P':Tb}(hp:pJ wr B tp v P up x.2 k s' w' v' P'):∃g',gX w0 B tp (L++[(o,x)]) (S++[k]) rs ns rv nv w' v' P' g':=by
 subst hup;obtain ⟨g2,p2⟩:=hp.put.inv;have hr:=h.rows.put (o:=o) ht p2;have e1:aJ (L++[(o,x)])=aJ L++x.2.map λn=>(o,n):=by simp [aJ]
 have hps:=p2.ps;simp [fK] at hps;have hlen:=hp.len;refine ⟨_,hp.tab,by rw [e1];exact hr,?_,?_,?_,?_,?_,λp hpm=>?_,?_,zh h.big hp.far.size⟩
 ·rw [e1];have:=h.len;simp;omega
 ·intro r hr;rcases zc.1 hr with hr | hr
  ·exact h.pos r hr
  ·simp at hr;subst hr;exact rI ht
 ·rw [aAh,zt,<-h.sts];congr 1
  ·apply zm;intro p hpm;have:=vX L 0 h.pos p hpm;exact jY (by omega)
  ·simp only [bN,List.map_cons,List.map_nil];rw [show 0+(aJ L).length=0+(aJ L).length from rfl,yH,hps]
 ·exact hp.far.own h.orv (cE h.orv h.tab.box (by decide)) (uK h.orv h.tab.row (by decide))
 ·exact hp.far.own h.onv (cE h.onv h.tab.box (by decide)) (uK h.onv h.tab.row (by decide))
 ·rcases hp.old p hpm with ⟨q,hq,e⟩ | e | ⟨g,e,hg⟩
  ·rw [e];exact h.apart q hq
  ·exact zq e
  ·refine zs λhe=>?_
   rw [e] at he;have:=(aT h.orv g he.symm).2;omega
 ·exact h.low.trans (hp.far.low h.tab.high (λk e=>(aT h.tab.row k e).1) h.big)
theorem gX.row(h:gX w0 B tp L S rs ns rv nv wr v P g){k:Nat}{rv':Value}{w':World}{X:Obj}(ho:w'.ownsRow B 3 1 rv' (rs.length+1) ((rs.map λk=>Value.int .i64 (k:Nat))++[.int .i64 (k:Nat)]))(hg:(wr.alloc X).grownBy w' rv.ownBlock)(hm:aX (wr.alloc X) rv rv'):gX w0 B tp L S (rs++[k]) ns rv' nv w' v P g:=by
 have hbA:Below wr.heap.size wr (wr.alloc X):=(Below.refl _ wr).alloc (zv _) _;have ht:=h.tab.below hbA;have hr:=aU h.orv hbA (zv _);have hn:=aU h.onv hbA (zv _);refine ⟨ht.grown hg (cE hr ht.box (by decide)) (uK ht.row hr (by decide)) h.apart,h.rows,h.len,h.pos,h.sts,?_,cH hn hg ?_,λp hp=>?_,?_,?_⟩
 ·unfold dH;simpa using ho
 ·rcases uK hn hr (by decide) with e | e
  ·exact zq e
  ·exact zs e
 ·rcases h.apart p hp with e | e
  ·exact zq e
  ·rcases hm with e' | ⟨g',e',hg'⟩
   ·exact zs (by rw [e'];exact e)
   ·refine zs λhe=>?_
    rw [e'] at he;have:=(aT (h.tab.parts p hp) g' he).2;simp at hg';omega
 ·exact h.low.trans ((hbA.mono h.big).trans (xQ (λk e=>(aT h.orv k e).1) (by simp;have:=h.big;omega) hg))
 ·have:=h.big;exact zh this (zh (by simp) hg.size)
theorem gX.sign(h:gX w0 B tp L S rs ns rv nv wr v P g){b:Bool}{nv':Value}{w':World}{X:Obj}(ho:w'.ownsRow B 4 1 nv' (ns.length+1) (ns.map Value.bool++[.bool b]))(hg:(wr.alloc X).grownBy w' nv.ownBlock):gX w0 B tp L S rs (ns++[b]) rv nv' w' v P g:=by
 have hbA:Below wr.heap.size wr (wr.alloc X):=(Below.refl _ wr).alloc (zv _) _;have ht:=h.tab.below hbA;have hr:=aU h.orv hbA (zv _);have hn:=aU h.onv hbA (zv _);refine ⟨ht.grown hg (cE hn ht.box (by decide)) (uK ht.row hn (by decide)) (λp hp=>uK (ht.parts p hp) hn (by decide)),h.rows,h.len,h.pos,h.sts,cH hr hg (uK hr hn (by decide)),?_,h.apart,?_,?_⟩
 ·simpa using ho
 ·exact h.low.trans ((hbA.mono h.big).trans (xQ (λk e=>(aT h.onv k e).1) (by simp;have:=h.big;omega) hg))
 ·have:=h.big;exact zh this (zh (by simp) hg.size)
end
theorem aKn{l:List α}{x:α}{i:Nat}(h:i≠l.length):(l++[x]).eraseIdx i=l.eraseIdx i++[x]:=by
 rcases Nat.lt_or_ge i l.length with h1 | h1
 ·rw [List.eraseIdx_append_of_lt_length h1]
 ·rw [zp (by simp;omega),zp h1]
theorem aKo{l:List α}{x:α}{i:Nat}(h:i=l.length):(l++[x]).eraseIdx i=l.eraseIdx i:=by subst h;rw [zp (zv _),zl (zv _)];simp
structure aXt(P:Tb)(S:List Nat):Prop where
 ok:gS P
 few:P.length<=1000000
 pts:∀p∈P,p.1.parts.length<=1000000
 short:∀i (h:i<P.length),P[i].1.node.1.size<=1000000
 lt:∀r∈S,r<P.length
theorem aKp{L:List (Int×Lt)}{t:Tg}(h:t∈aJ L):∃r∈L,t.2∈r.2.2:=by obtain ⟨r,hr,ht⟩:=z1.1 h;obtain ⟨n,hn,rfl⟩:=ze.1 ht;exact ⟨r,hr,hn⟩
theorem gX.facts{tp:Nat}{L:List (Int×Lt)}{P:Tb}(h:gX w0 B tp L S rs ns rv nv wr v P g)(ht:∀r∈L,aW r.2.2 1=true)(hl:(aJ L).length<=1000000):aXt P S:=by
 have hok:∀t∈aJ L,eA t.2=true:=λt hm=>by
  obtain ⟨r,hr,hn⟩:=aKp hm;exact aC9 _ _ (ht r hr) _ hn
 refine ⟨h.rows.tabOk rfl λp t hp=>?_,by have:=h.len;omega,λp hp=>?_,λi hi=>?_,λr hr=>?_⟩
 ·obtain ⟨r,hr,hn⟩:=aKp (zj hp);exact aLu (ht r hr) _ hn
 ·obtain ⟨i,hi,rfl⟩:=zi hp;obtain ⟨t,hm,_,k1,k2⟩:=h.rows.node rfl hi;cases hv:aF t.2
  ·rw [k2 hv];have:=(aCy (hok t hm)).2;omega
  ·rw [k1 hv];simp
 ·obtain ⟨t,hm,k1,_⟩:=h.rows.node rfl hi;rw [k1];have:=aHd (hok t hm);omega
 ·rw [<-h.sts] at hr;obtain ⟨p,hp,rfl⟩:=ze.1 hr;have:=vX L 0 h.pos p hp;have:=h.rows.lt (p:=p) (by omega);simpa using this
theorem gX.start(w0:World):gX w0 w0.heap.size w0.heap.size [] [] [] [] (.slice none 0 0) (.slice none 0 0) (w0.alloc (.cells #[.slice none 0 0] 63)) (.slice none 0 0) [] id:=
 ⟨bU.new w0,Rows.start,by simp,by simp,rfl,World.ownsRow_nil _ _ _ _,World.ownsRow_nil _ _ _ _,by simp,(Below.refl _ w0).alloc (zv _) _,by simp⟩
theorem gX.putT{tp:Nat}{L0:List (Int×Lt)}{c:List Lt}{k:Nat}{P:Tb}{o up:Int}(h:gX w0 B tp (L0++(c.take k).map λl=>(o,l)) S rs ns rv nv wr v P g)(hlt:k<c.length)(hup:up=60*o)(nc:jH c){kx:Nat}{s':List Nd}{w':World}{v':Value}{P':Tb}(hp:pJ wr B tp v P up c[k].2 kx s' w' v' P'):∃g',gX w0 B tp (L0++(c.take (k+1)).map λl=>(o,l)) (S++[kx]) rs ns rv nv w' v' P' g':=by obtain ⟨g',h'⟩:=h.put (o:=o) (x:=c[k]) hup (nc.term c[k] (z2 _)).1 hp;refine ⟨g',?_⟩;rw [List.take_succ_eq_append_getElem hlt,zt,<-zk];exact h'
theorem gX.few{tp:Nat}{L:List (Int×Lt)}{P:Tb}(h:gX w0 B tp L S rs ns rv nv wr v P g)(hL:∀r∈L,r.2.2.length<=60)(hl:L.length<=16):P.length<=1000:=by
 have key:∀L:List (Int×Lt),(∀r∈L,r.2.2.length<=60)->(aJ L).length<=60*L.length:=by
  intro L;induction L with
  | nil=>intro _;simp [aJ]
  | cons r L ih=>
   intro h;rw [uJ];have h1:=h r (by simp);have h2:=ih λx hx=>h x (by simp [hx])
   simp [aO];omega
 have h1:=key L hL;have h2:=h.len;omega
theorem aXu{a1:Option Addr}{c:List Lt}(h1:bE w a1 c)(hD:Below w.heap.size w w0)(nc:jH c)(up:Int)(hup:0<=up/\up<=1000){k:Nat}(hk:k<c.length):∃b1 o1 aa ac,a1=some ⟨b1,o1,none⟩/\∀wr v P,Below w0.heap.size w0 wr->bU wr w0.heap.size w0.heap.size v P->P.length<=10000->w0.heap.size<=wr.heap.size->
  wr.cell? ⟨b1,o1+k*2,none⟩=some (.bool c[k].1)/\wr.cell? ⟨b1,o1+k*2+1,none⟩=some (.slice aa c[k].2.length ac)/\(∀w',Below w0.heap.size w0 w'->w'.cell? ⟨b1,o1+k*2,none⟩=some (.bool c[k].1))/\
  Calls Tryz.prog 25 #[.pointer (some ⟨w0.heap.size,0,none⟩),.slice aa c[k].2.length ac,.int .i64 0,.int .i64 up] wr λe w'=>∃(kx i':Nat) (v':Value) (P':Tb) (s':List Nd),e=.returned (.tuple #[.int .i64 (kx:Nat),.int .i64 (i':Nat)])/\pJ wr w0.heap.size w0.heap.size v P up c[k].2 kx s' w' v' P':=by
 obtain ⟨b1,o1,aa,ac,rfl,e1,e2,hn⟩:=h1.cell k hk;obtain ⟨t1,t2⟩:=nc.term c[k] (z2 _);refine ⟨b1,o1,aa,ac,rfl,λwr v P hb ht hP hz=>?_⟩;have hbw:Below w.heap.size w wr:=hD.trans (hb.mono hD.size);have hwr:∀w',Below w0.heap.size w0 w'->w'.cell? ⟨b1,o1+k*2,none⟩=some (.bool c[k].1):=λw' hb'=>Below.at' (hD.trans (hb'.mono hD.size)) (zv _) e1
 refine ⟨hwr wr hb,Below.at' hbw (zv _) e2,hwr,?_⟩;refine (aUd w0.heap.size w0.heap.size up hup aa ac c[k].2 t2 (λp hp=>Nat.lt_of_lt_of_le (vU hn t1 p hp) hD.size) c[k].2.length 0 0 v P wr (by simp) (by simpa using t1) (hn.below hbw (zv _)) ht (by simp;omega) hz).mono ?_;rintro e w' ⟨kx,i',rfl,_,_,_,v',P',hp⟩;exact ⟨kx,i',v',P',_,rfl,by simpa using hp⟩
theorem aXv{L:List (Int×Lt)}(h:∀r∈L,r.2.2.length<=60):(aJ L).length<=60*L.length:=by
 induction L with
 | nil=>simp [aJ]
 | cons r L ih=>
  rw [uJ];have h1:=h r (by simp);have h2:=ih λx hx=>h x (by simp [hx])
  simp [aO];omega
def pR(S:List Lt->Bool->Int->Prop)(w:World)(e:Ending)(w':World):Prop:=
 ∃oa oc out yes er,e=.returned (.tuple #[.slice oa out.length oc,.bool yes,.int .i64 er])/\S out yes er/\bE w' oa out/\out.length<=16/\Below w.heap.size w w'
theorem pR.none{S:List Lt->Bool->Int->Prop}{w':World}(h:S [] false er)(hb:Below w.heap.size w w'):pR S w (.returned (.tuple #[.slice none 0 0,.bool false,.int .i64 er])) w':=
 ⟨Option.none,0,[],false,er,rfl,h,aDo _,by simp,hb⟩
end
section
open Go.RowKit Go.WideMaps
theorem xC.none{l:List Pl}{r:Int}(h:xC l r)(hb:∀i h,¬nQ l i h):r=-1:=by
 rcases h with ⟨rfl,_⟩ | ⟨i,hi,h,_⟩
 ·rfl
 ·exact absurd h (hb i hi)
theorem aKq{s:ByteArray}(h:tW s out at' er)(hs:s.size<=3000){st:bB}{cs:List (Nat×List Lt)}(hp:xE s=.ok (st,cs))(hb:∀i h,¬nQ st.places i h)(hc:∀i h,¬oN cs i h):out=cs.map (λp=>aR p.2)/\at'=0/\er=0:=by
 rcases h with ⟨h1,_⟩ | ⟨_,h⟩
 ·omega
 ·rw [hp] at h;obtain ⟨r,h1,h2⟩:=h;have:=h1.none hb;subst this;rcases h2 with ⟨h0,_⟩ | ⟨_,h3⟩
  ·omega
  ·rcases h3 with ⟨i,hi,hbad,_⟩ | ⟨_,rfl,rfl,rfl⟩
   ·exact absurd hbad (hc i hi)
   ·exact ⟨rfl,rfl,rfl⟩
def pN:Nd:=(⟨#[112]⟩,0)
theorem aXw:xE ⟨#[112,46,32,126,112,46]⟩=.ok (⟨5,[],[(⟨#[112]⟩,true,0,0),(⟨#[112]⟩,true,0,4)]⟩,[(0,[(false,[pN])]),(3,[(true,[pN])])]):=by kernel_rfl
def cP:List Lt:=[(false,[pN])]
def fG:List Lt:=[(true,[pN])]
theorem aKr(h:tW ⟨#[112,46,32,126,112,46]⟩ out at' er):out=[cP,fG]/\at'=0/\er=0:=by
 have:=aKq h (by decide) aXw (λi h=>by
  match i,h with
  | 0,_=>simp [nQ]
  | 1,_=>
   simp only [nQ,xB];rintro (h | ⟨k,hk,h1,h2⟩)
   ·exact absurd h (by simp)
   ·obtain rfl:k=0:=by omega
    simp at h2) (λi h=>by
  match i,h with
  | 0,_=>simp only [oN];exact not_or.2 ⟨by omega,λh=>zo (h.symm.trans (show dP (aR _)=true by kernel_rfl))⟩
  | 1,_=>simp only [oN];exact not_or.2 ⟨by omega,λh=>zo (h.symm.trans (show dP (aR _)=true by kernel_rfl))⟩)
 rw [show [cP,fG]=[(0,[(false,[pN])]),(3,[(true,[pN])])].map (λp:Nat×List Lt=>aR p.2) by kernel_rfl];exact this
def pS:List Nd:=[(⟨#[112]⟩,1),(⟨#[97]⟩,0)]
def pT:List Nd:=[(⟨#[112]⟩,1),(⟨#[]⟩,0)]
theorem aXx:xE ⟨#[112,40,97,41,46,32,126,112,40,88,41,46]⟩=.ok (⟨11,[⟨#[88]⟩],[(⟨#[112]⟩,true,1,0),(⟨#[97]⟩,false,0,2),(⟨#[112]⟩,true,1,7)]⟩,[(0,[(false,pS)]),(6,[(true,pT)])]):=by kernel_rfl
theorem aXy(h:tW ⟨#[112,40,97,41,46,32,126,112,40,88,41,46]⟩ out at' er):out=[[(false,pS)],[(true,pT)]]/\at'=0/\er=0:=by
 have:=aKq h (by decide) aXx (λi h=>by
  match i,h with
  | 0,_=>simp [nQ]
  | 1,_=>
   simp only [nQ,xB];rintro (h | ⟨k,hk,h1,h2⟩)
   ·exact absurd h (by simp)
   ·obtain rfl:k=0:=by omega
    simp at h1
  | 2,_=>
   simp only [nQ,xB];rintro (h | ⟨k,hk,h1,h2⟩)
   ·exact absurd h (by simp)
   ·match k,hk with
    | 0,_=>simp at h2
    | 1,_=>simp at h1) (λi h=>by
  match i,h with
  | 0,_=>simp only [oN];exact not_or.2 ⟨by omega,λh=>zo (h.symm.trans (show dP (aR _)=true by kernel_rfl))⟩
  | 1,_=>simp only [oN];exact not_or.2 ⟨by omega,λh=>zo (h.symm.trans (show dP (aR _)=true by kernel_rfl))⟩)
 rw [show [[(false,pS)],[(true,pT)]]=[(0,[(false,pS)]),(6,[(true,pT)])].map (λp:Nat×List Lt=>aR p.2) by kernel_rfl];exact this
end
section
open Go.RowKit Go.Shelf Go.WideMaps
theorem aXz{R:Nat->Nat->Prop}(hr:∀i,R i i)(hs:∀i j,R i j->R j i)(ht:∀i j k,R i j->R j k->R i k):∃rep:Nat->Nat,∀p q,rep p=rep q↔R p q:=by
 refine ⟨λp=>Classical.epsilon (R p),λp q=>⟨λh=>?_,λh=>?_⟩⟩
 ·have h1:R p (Classical.epsilon (R p)):=Classical.epsilon_spec ⟨p,hr p⟩;have h2:R q (Classical.epsilon (R q)):=Classical.epsilon_spec ⟨q,hr q⟩;have h:Classical.epsilon (R p)=Classical.epsilon (R q):=h;rw [h] at h1;exact ht _ _ _ h1 (hs _ _ h2)
 ·have:R p=R q:=funext λk=>propext ⟨λhk=>ht _ _ _ (hs _ _ h) hk,λhk=>ht _ _ _ h hk⟩
  show Classical.epsilon (R p)=Classical.epsilon (R q);rw [this]
theorem aDs(M:List Tg)(a b:Nat):∃rep:Nat->Nat,∀p q,rep p=rep q↔bK M a b p q:=
 aXz (λi=>Cl.refl i) (λ_ _ h=>Cl.symm h) (λ_ _ _ h k=>Cl.trans h k)
def xW(n:Nd):Prop:=aF n=false/\bJ n=0
theorem aY0{n:Nd}(hn:xW n)(o1 o2:Int)(rest:List (Int×Lt))(hr:∀r∈rest,∃m,r.2.2=[m]/\xW m)(hc:aK (aR (rest.map zz))<=500):eY [(o1,n),(o2,n)] 0 1 rest (aR (rest.map zz)) true 0:=by
 have hall:∀x∈[(o1,n),(o2,n)]++aJ rest,xW x.2:=by
  intro x hx;rcases zc.1 hx with hx | hx
  ·simp at hx;rcases hx with rfl | rfl <;> exact hn
  ·obtain ⟨r,hr1,hr2⟩:=z1.1 hx;obtain ⟨m,e,hm⟩:=hr r hr1;rw [e] at hr2;simp at hr2;subst hr2;exact hm
 obtain ⟨M,hM⟩ : ∃M,[(o1,n),(o2,n)]++aJ rest=M:=⟨_,rfl⟩;have hch:∀i,(aC (M.map zz)).ch i=[]:=by
  intro i;unfold aC;simp only;cases hi:(M.map zz)[i]? with
  | none=>rfl
  | some m=>
   simp only;have hm:m∈M.map zz:=zj hi;obtain ⟨x,hx,rfl⟩:=ze.1 hm;rw [<-hM] at hx;rw [(hall x hx).2];rfl
 have hrt:∀i,aY M i=i:=by
  intro i;cases hi:M[i]? with
  | none=>exact oZ (List.getElem?_eq_none_iff.1 hi)
  | some x=>exact mX hi (hall x (by rw [hM];exact zj hi)).1
 have hlab:∀i j,bK M 0 1 i j->(aC (M.map zz)).lab i=(aC (M.map zz)).lab j:=by
  intro i j h;induction h with
  | refl=>rfl
  | base h=>
   rcases h with h | ⟨rfl,rfl⟩
   ·rw [hrt,hrt] at h;rw [h]
   ·unfold aC;rw [<-hM];rfl
  | symm _ ih=>exact ih.symm
  | trans _ _ ih1 ih2=>exact ih1.trans ih2
  | down _ _ _ h=>rw [hch] at h;simp at h
 obtain ⟨rep,hrep⟩:=aDs M 0 1;refine zs ⟨⟨λi j h _ _=>?_,λp _=>⟨p,λj _ _ q hq=>?_⟩⟩,rep,rest.map (λr=>r.2.2),?_,?_,zs ⟨?_,?_,rfl,rfl⟩⟩
 ·rw [hM] at h ⊢;exact hlab i j h
 ·rw [hM,hch] at hq;cases hq
 ·rw [hM];exact hrep
 ·rw [hM];have key:∀(rs:List (Int×Lt)) (pre:List Tg),pre++aJ rs=M->(∀r∈rs,∃m,r.2.2=[m]/\xW m)->aM (λp l=>aL (aC (M.map zz)) (bK M 0 1) rep [p] l) (bN pre.length rs) (rs.map (λr=>r.2.2)):=by
   intro rs;induction rs with
   | nil=>intro _ _ _;exact aM.nil
   | cons r rs ih=>
    intro pre hp hrr;obtain ⟨m,e,hm⟩:=hrr r (by simp);have hput:aJ (r :: rs)=(r.1,m) :: aJ rs:=by simp [aJ,e]
    rw [hput] at hp;have hat:(M.map zz)[pre.length]?=some m:=by rw [<-hp];simp
    refine aM.cons ?_ ?_
    ·show aL _ _ _ _ r.2.2;rw [e];have hl:(aC (M.map zz)).lab pre.length=m:=by unfold aC;simp only [hat,Option.getD_some]
     have:=aL.name (G:=aC (M.map zz)) (R:=bK M 0 1) (rep:=rep) (i:=pre.length) (j:=pre.length) (r:=[]) (l:=[]) (Cl.refl _) (by unfold Gr.named;rw [hl];exact hm.1) (by rw [hch];exact aL.nil);rwa [hl] at this
    ·have:=ih (pre++[(r.1,m)]) (by rw [<-hp];simp) (λr' h'=>hrr r' (by simp [h']));simpa [e] using this
  exact key rest [(o1,n),(o2,n)] hM hr
 ·have:cM rest (rest.map λr=>r.2.2)=rest.map zz:=by
   unfold cM;clear hall hM hch hrt hlab hrep hr hc;induction rest with
   | nil=>rfl
   | cons r rs ih=>simp at ih ⊢;exact ih
  rw [this];exact hc
 ·have:cM rest (rest.map λr=>r.2.2)=rest.map zz:=by
   unfold cM;clear hall hM hch hrt hlab hrep hr hc;induction rest with
   | nil=>rfl
   | cons r rs ih=>simp at ih ⊢;exact ih
  rw [this]
def iE:List Tg:=aO 0 pS++aO 1 pT
theorem aY1:eY (aO 0 pS++aO 1 pT) 0 2 [] [] true 0:=by
 have c0:(aC (iE.map zz)).ch 0=[1]:=by kernel_rfl
 have c1:(aC (iE.map zz)).ch 1=[]:=by kernel_rfl
 have c2:(aC (iE.map zz)).ch 2=[3]:=by kernel_rfl
 have c3:(aC (iE.map zz)).ch 3=[]:=by kernel_rfl
 have c4:∀i,(aC (iE.map zz)).ch (i+4)=[]:=λi=>rfl
 have hch:∀i k p:Nat,((aC (iE.map zz)).ch i)[k]?=some p->(i=0\/i=2)/\(p=1\/p=3):=by
  intro i k p h;match i with
  | 0=>
   rw [c0] at h;cases k with
   | zero=>simp at h;omega
   | succ k=>simp at h
  | 1=>rw [c1] at h;simp at h
  | 2=>
   rw [c2] at h;cases k with
   | zero=>simp at h;omega
   | succ k=>simp at h
  | 3=>rw [c3] at h;simp at h
  | i+4=>rw [c4] at h;simp at h
 have r0:aY iE 0=0:=by kernel_rfl
 have r1:aY iE 1=1:=by kernel_rfl
 have r2:aY iE 2=2:=by kernel_rfl
 have r3:aY iE 3=3:=by kernel_rfl
 have hrt:∀i,aY iE i=i:=λi=>by
  match i with
  | 0=>exact r0
  | 1=>exact r1
  | 2=>exact r2
  | 3=>exact r3
  | i+4=>rfl
 have hcl:∀i j,bK iE 0 2 i j->i=j\/(i<4/\j<4/\i % 2=j % 2):=by
  intro i j h;induction h with
  | refl=>exact zq rfl
  | base h=>
   rcases h with h | ⟨rfl,rfl⟩
   ·rw [hrt,hrt] at h;exact zq h
   ·exact zs (by omega)
  | symm _ ih=>omega
  | trans _ _ ih1 ih2=>omega
  | down _ _ _ h1 h2=>
   obtain ⟨_,h3⟩:=hch _ _ _ h1;obtain ⟨_,h4⟩:=hch _ _ _ h2;omega
 have n3:¬(aC (iE.map zz)).named 3:=λh=>zo (h.symm.trans (show aF ((aC (iE.map zz)).lab 3)=true by kernel_rfl))
 have l02:(aC (iE.map zz)).lab 0=(aC (iE.map zz)).lab 2:=by kernel_rfl
 have e13:∀i,i=1\/i=3->bD (aC (iE.map zz)) (bK iE 0 2) i:=λi hi=>⟨i,λj hj _ q hq=>by
  obtain ⟨k,hk,e⟩:=zi hq;have:=hch j k q (by rw [zw hk,e]);have:=hcl _ _ hj;omega⟩
 obtain ⟨rep,hrep⟩:=aDs iE 0 2;have hM:aO 0 pS++aO 1 pT++aJ []=iE:=by simp [aJ,iE]
 refine zs ⟨⟨λi j h hi hj=>?_,λp _=>⟨p,λj _ _ q hq=>?_⟩⟩,rep,[],?_,aM.nil,zs ⟨by simp [cM,aK];decide,rfl,rfl,rfl⟩⟩
 ·rw [hM] at h hi hj ⊢;rcases hcl _ _ h with rfl | h
  ·rfl
  ·have hi4:i=0\/i=1\/i=2\/i=3:=by omega
   have hj4:j=0\/j=1\/j=2\/j=3:=by omega
   rcases hi4 with rfl | rfl | rfl | rfl <;> rcases hj4 with rfl | rfl | rfl | rfl <;> first | rfl | exact l02 | exact l02.symm | exact absurd hj n3 | exact absurd hi n3 | omega
 ·rw [hM] at hq ⊢;obtain ⟨k,hk,e⟩:=zi hq;exact e13 q (hch j k q (by rw [zw hk,e])).2
 ·rw [hM];exact hrep
end
section
open Go.RowKit
def pU(G:Gr)(R:Nat->Nat->Prop)(rep:Nat->Nat)(p q:Nat):Prop:=p=q\/∃l,aL G R rep [p] l/\aL G R rep [q] l
theorem aKs{L:List Nd}{R:Nat->Nat->Prop}{rep:Nat->Nat}{x:List Nat}{l:List Nd}(h:aL (aC L) R rep x l):∀s,aH (l++s) x.length=l.length:=by
 induction h with
 | nil=>intro s;simp
 | @var i r l _ _ ih=>
  intro s;have hw:=oJ (oI (rep i:Int));simp only [z3,zf,aH,hw,Nat.add_zero,ih s];omega
 | @name i j r l _ h2 _ ih=>
  intro s;obtain ⟨n,h3,_⟩:=jN h2;have hl:((aC L).ch j).length=bJ n:=by rw [fM h3,tD]
  have:=ih s;rw [zg,hl] at this;rw [lC h3];simp only [z3,zf,aH];rw [Nat.add_comm r.length,this];omega
section
variable {L:List Nd}{R:Nat->Nat->Prop}{rep:Nat->Nat}
theorem aY2:∀(x y:List Nat) (l:List Nd),aL (aC L) R rep x l->aL (aC L) R rep y l->x.length=y.length->∀(k p q:Nat),x[k]?=some p->y[k]?=some q->∃m,aL (aC L) R rep [p] m/\aL (aC L) R rep [q] m:=by
 intro x;induction x with
 | nil=>intro y l _ _ _ k p q h;simp at h
 | cons a x ih=>
  intro y l h1 h2 hl k p q hp hq;cases y with
  | nil=>simp at hl
  | cons b y=>
   obtain ⟨u1,u2,rfl,a1,a2⟩:=h1.split [a] x rfl;obtain ⟨v1,v2,e,b1,b2⟩:=h2.split [b] y rfl;have c1:=aKs a1 u2;have c2:=aKs b1 v2;rw [<-e] at c2;simp only [zf,List.length_nil] at c1 c2;have huv:u1=v1:=List.append_inj_left e (by omega);subst huv;have he:=List.append_cancel_left e;subst he;cases k with
   | zero=>
    simp at hp hq;subst hp hq;exact ⟨u1,a1,b1⟩
   | succ k=>exact ih y u2 a2 b2 (by simpa using hl) k p q (by simpa using hp) (by simpa using hq)
theorem aY3{x y:List Nat}(h:aM (λp q=>∃l,aL (aC L) R rep [p] l/\aL (aC L) R rep [q] l) x y):∃l,aL (aC L) R rep x l/\aL (aC L) R rep y l:=by
 induction h with
 | nil=>exact ⟨[],aL.nil,aL.nil⟩
 | cons h1 _ ih=>
  obtain ⟨l,a,b⟩:=h1;obtain ⟨m,c,d⟩:=ih;exact ⟨l++m,a.append c,b.append d⟩
theorem xX(hR:eK (aC L) R)(hN:dW (aC L) R)(hrep:∀i j,R i j->rep i=rep j){i:Nat}{l:List Nd}(hn:(aC L).named i)(h:aL (aC L) R rep [i] l):∃m,l=(aC L).lab i :: m/\aL (aC L) R rep ((aC L).ch i) m:=by
 cases h with
 | var h1 _=>exact absurd hn (h1 i (hR.refl i))
 | @name _ j _ m h1 h2 h3=>
  rw [zb] at h3;refine ⟨m,by rw [hN i j h1 hn h2],h3.same hR hrep _ (uX hR hN (oD L) (hR.symm _ _ h1) h2 hn)⟩
theorem aY4(hR:eK (aC L) R)(hN:dW (aC L) R)(hrep:∀i j,R i j->rep i=rep j):eK (aC L) (pU (aC L) R rep) where
 refl i:=zq rfl
 symm i j h:=by
  rcases h with rfl | ⟨l,a,b⟩
  ·exact zq rfl
  ·exact zs ⟨l,b,a⟩
 trans i j k h g:=by
  rcases h with rfl | ⟨l,a,b⟩
  ·exact g
  ·rcases g with rfl | ⟨m,c,d⟩
   ·exact zs ⟨l,a,b⟩
   ·have:=b.one hR hN (oD L) hrep _ c;subst this;exact zs ⟨l,a,d⟩
 down i j k p q h hi hj hp hq:=by
  rcases h with rfl | ⟨l,a,b⟩
  ·rw [hp] at hq;simp at hq;exact zq hq
  ·obtain ⟨m,rfl,a2⟩:=xX hR hN hrep hi a;obtain ⟨m2,e,b2⟩:=xX hR hN hrep hj b;simp at e;obtain ⟨e1,rfl⟩:=e;exact zs (aY2 _ _ m a2 b2 (oD L i j hi hj e1) k p q hp hq)
theorem aKt(hR:eK (aC L) R){i j:Nat}(h:pU (aC L) R rep i j)(hi:∀k,R i k->¬(aC L).named k):¬(aC L).named j/\(rep i:Int)=rep j:=by
 rcases h with rfl | ⟨l,a,b⟩
 ·exact ⟨hi _ (hR.refl _),rfl⟩
 ·cases a with
  | name h1 h2 _=>exact absurd h2 (hi _ h1)
  | var _ h2=>
   cases h2;generalize e:([((⟨#[]⟩ : ByteArray),(rep i:Int))]:List Nd)=l at b;cases b with
   | var h3 h4=>
    cases h4;simp at e;exact ⟨h3 _ (hR.refl _),by omega⟩
   | @name _ k _ _ h3 h4 _=>
    simp at e;have h5:aF ((aC L).lab k)=false:=h4;rw [<-e.1,oI] at h5;cases h5
end
section
variable {L N:List Nd}{R R1:Nat->Nat->Prop}{rep rep1:Nat->Nat}{f:Nat->Nat}
structure mS(L N:List Nd)(R R1:Nat->Nat->Prop)(rep:Nat->Nat)(f:Nat->Nat):Prop where
 at':∀p,L[p]?=N[f p]?
 ch:∀p,(aC L).named p->(aC N).ch (f p)=((aC L).ch p).map f
 onto:∀r,∃p,f p=r
 fwd:∀p q,R p q->R1 (f p) (f q)
 bck:∀p q,R1 (f p) (f q)->pU (aC L) R rep p q
 lt:∀p,p<L.length↔f p<N.length
theorem mS.lab(h:mS L N R R1 rep f)(p:Nat):(aC L).lab p=(aC N).lab (f p):=by show (L[p]?).getD _=(N[f p]?).getD _;rw [h.at']
theorem mS.named(h:mS L N R R1 rep f)(p:Nat):(aC L).named p↔(aC N).named (f p):=by unfold Gr.named;rw [h.lab]
theorem mS.clash(h:mS L N R R1 rep f)(hR:eK (aC L) R)(hN:dW (aC L) R)(hrep:∀i j,R i j->rep i=rep j):dW (aC N) R1:=by
 intro r s c hr hs;obtain ⟨p,rfl⟩:=h.onto r;obtain ⟨q,rfl⟩:=h.onto s;rw [<-h.named] at hr hs;rw [<-h.lab,<-h.lab];rcases h.bck p q c with rfl | ⟨l,a,b⟩
 ·rfl
 ·obtain ⟨m,rfl,_⟩:=xX hR hN hrep hr a;obtain ⟨m2,e,_⟩:=xX hR hN hrep hs b;simp at e;exact e.1
theorem mS.ends(h:mS L N R R1 rep f)(hR:eK (aC L) R)(hN:dW (aC L) R)(hrep:∀i j,R i j->rep i=rep j):∀(n p:Nat) (l:List Nd),aL (aC L) R rep [p] l->l.length<=n->bD (aC N) R1 (f p):=by
 intro n;induction n with
 | zero=>
  intro p l he hl;have:=he.pos;omega
 | succ n ih=>
  intro p l he hl;refine ⟨_,λs hs hn x hx=>?_⟩;obtain ⟨q,rfl⟩:=h.onto s;have hq:=(h.named q).2 hn;rw [h.ch q hq] at hx;obtain ⟨u,hu,rfl⟩:=ze.1 hx;have he2:aL (aC L) R rep [q] l:=by
   rcases h.bck p q hs with rfl | ⟨m,a,b⟩
   ·exact he
   ·rw [he.one hR hN (oD L) hrep _ a];exact b
  obtain ⟨m,rfl,hm⟩:=xX hR hN hrep hq he2;obtain ⟨x1,x2,e⟩:=List.append_of_mem hu;rw [e] at hm;obtain ⟨m1,m2,rfl,_,b1⟩:=hm.split x1 (u :: x2) rfl;obtain ⟨m3,m4,rfl,b2,_⟩:=b1.split [u] x2 rfl;exact ih u m3 b2 (by simp at hl;omega)
def CpV(L:List Nd)(R:Nat->Nat->Prop)(rep rep1:Nat->Nat)(f:Nat->Nat)(x y:Int):Prop:=∃p,(∀k,R p k->¬(aC L).named k)/\x=(rep p:Int)/\y=(rep1 (f p):Int)
theorem mS.pairs(h:mS L N R R1 rep f)(hR:eK (aC L) R)(hrep:∀i j,rep i=rep j↔R i j)(hrep1:∀i j,rep1 i=rep1 j↔R1 i j):lH (CpV L R rep rep1 f):=by
 rintro x y x' y' ⟨p,hp,rfl,rfl⟩ ⟨q,hq,rfl,rfl⟩;constructor
 ·intro e;have:=(hrep1 _ _).2 (h.fwd _ _ ((hrep p q).1 (by omega)));omega
 ·intro e;have:=h.bck _ _ ((hrep1 (f p) (f q)).1 (by omega));exact (aKt hR this hp).2
theorem mS.exp(h:mS L N R R1 rep f)(hR:eK (aC L) R){x:List Nat}{l:List Nd}(e:aL (aC L) R rep x l):∃m,aL (aC N) R1 rep1 (x.map f) m/\aM (kQ (CpV L R rep rep1 f)) l m:=by
 induction e with
 | nil=>exact ⟨[],aL.nil,aM.nil⟩
 | @var i r l h1 _ ih=>
  obtain ⟨m,a,b⟩:=ih;refine ⟨_,aL.var (λs hs hn=>?_) a,aM.cons (zq ⟨oI _,oI _,rfl,i,h1,rfl,rfl⟩) b⟩;obtain ⟨q,rfl⟩:=h.onto s;have hq:=(h.named q).2 hn;exact (aKt hR (h.bck _ _ hs) h1).1 hq
 | @name i j r l h1 h2 _ ih=>
  obtain ⟨m,a,b⟩:=ih;rw [zt,<-h.ch j h2] at a;exact ⟨_,aL.name (h.fwd _ _ h1) ((h.named j).1 h2) a,aM.cons (zs ⟨h2,h.lab j⟩) b⟩
end
section
variable {X Y Z:List Tg}
def cL(x a p:Nat):Nat:=if p<x then a+p else p-x
theorem aAl(p:Nat):(X++(Y++X++Z))[p]?=(Y++X++Z)[cL X.length Y.length p]?:=by
 unfold cL;by_cases h:p<X.length
 ·rw [if_pos h,zr h,zk,zx (by omega),zr (by omega)];congr 1
  omega
 ·rw [if_neg h,zx (by omega)]
theorem vZ(hX:dE (X.map zz)){p:Nat}(hp:p<(X++(Y++X++Z)).length):(aC ((Y++X++Z).map zz)).ch (cL X.length Y.length p)=((aC ((X++(Y++X++Z)).map zz)).ch p).map (cL X.length Y.length):=by
 have hxl:(X.map zz).length=X.length:=by simp
 rw [zt (l₁:=X)];by_cases h:p<X.length
 ·have e:cL X.length Y.length p=(Y.map zz).length+p:=by unfold cL;rw [if_pos h];simp
  rw [e,lP hX (by omega),zt,zt,uN hX (by omega)];refine zm λx hx=>?_
  have h1:(X.map zz)[p]?=some (X.map zz)[p]:=zw (by omega);rw [fM h1] at hx;have h4:=(oC _ _ _ (hX p _ h1) x hx).2;have h5:aH ((X.map zz).drop p) 1<=((X.map zz).drop p).length:=mD _ _;rw [zn (by omega)] at h5;simp [aH] at h5;unfold cL;rw [if_pos (by simp at h4;omega)];simp;omega
 ·have e:cL X.length Y.length p=p-X.length:=by unfold cL;rw [if_neg h]
  have hp2:p=(X.map zz).length+(p-X.length):=by omega
  rw [e];conv=>rhs;rw [hp2,wG (by simp at hp ⊢;omega)]
  rw [List.map_map];refine (List.map_id _).symm.trans (zm λx _=>?_);simp only [Function.comp,cL,hxl];rw [if_neg (by omega)];simp
theorem pV(x a r:Nat):cL x a (r+x)=r:=by unfold cL;rw [if_neg (by omega)];omega
theorem aY5{x a p q:Nat}(h:cL x a p=cL x a q):p=q\/(p<x/\q=p+x+a)\/(q<x/\p=q+x+a):=by unfold cL at h;split at h <;> split at h <;> omega
theorem aY6{p q:Nat}(h:wF (X++(Y++X++Z)) p q):wF (Y++X++Z) (cL X.length Y.length p) (cL X.length Y.length q):=by
 rcases h with rfl | ⟨s,t,h1,h2,h3⟩
 ·exact zq rfl
 ·rw [aAl] at h1 h2;exact zs ⟨s,t,h1,h2,h3⟩
theorem aY7{r s:Nat}(h:wF (Y++X++Z) r s):wF (X++(Y++X++Z)) (r+X.length) (s+X.length):=by
 rcases h with rfl | ⟨u,v,h1,h2,h3⟩
 ·exact zq rfl
 ·refine zs ⟨u,v,?_,?_,h3⟩
  ·rw [zx (by omega),za];exact h1
  ·rw [zx (by omega),za];exact h2
variable (hX:dE (X.map zz))(hx:0<X.length)
include hX hx
theorem aKu{rep:Nat->Nat}(hrep:∀i j,bK (X++(Y++X++Z)) 0 X.length i j->rep i=rep j)(hall:∀p,p<(X++(Y++X++Z)).length->∃l,aL (aC ((X++(Y++X++Z)).map zz)) (bK (X++(Y++X++Z)) 0 X.length) rep [p] l) :
  ∀(n p:Nat),p+n=X.length->p<X.length->∃l,aL (aC ((X++(Y++X++Z)).map zz)) (bK (X++(Y++X++Z)) 0 X.length) rep [p] l/\aL (aC ((X++(Y++X++Z)).map zz)) (bK (X++(Y++X++Z)) 0 X.length) rep [p+X.length+Y.length] l:=by
 intro n;induction n using Nat.strongRecOn with
 | _ n ih=>
  intro p hn hp;have m1:(X++(Y++X++Z))[p]?=some X[p]:=by rw [zr hp,zw hp]
  have m2:(X++(Y++X++Z))[p+X.length+Y.length]?=some X[p]:=by
   rw [zx (by omega),zk,zx (by omega),zr (by omega),<-zw hp];congr 1
   omega
  cases hv:aF X[p].2 with
  | true=>
   obtain ⟨l,hl⟩:=hall p (by simp;omega);have hc:bK (X++(Y++X++Z)) 0 X.length p (p+X.length+Y.length):=Cl.base (zq ((rN _ _ _).2 (zs ⟨_,_,m1,m2,hv,hv,rfl,rfl⟩)));exact ⟨l,hl,hl.same (Cl.isDown _ _) hrep _ (aM.cons hc aM.nil)⟩
  | false=>
   have n1:((X++(Y++X++Z)).map zz)[p]?=some X[p].2:=by rw [zy,m1];rfl
   have n2:((X++(Y++X++Z)).map zz)[p+X.length+Y.length]?=some X[p].2:=by rw [zy,m2];rfl
   have d1:=(fL n1).2 hv;have d2:=(fL n2).2 hv;have hxl:(X.map zz).length=X.length:=by simp
   have c1:(aC ((X++(Y++X++Z)).map zz)).ch p=(aC (X.map zz)).ch p:=by rw [zt];exact lP hX (by omega)
   have c2:(aC ((X++(Y++X++Z)).map zz)).ch (p+X.length+Y.length)=((aC (X.map zz)).ch p).map (· + (X.length+Y.length)):=by
    have e1:p+X.length+Y.length=(X.map zz++Y.map zz).length+p:=by simp;omega
    have e2:(X++(Y++X++Z)).map zz=(X.map zz++Y.map zz)++X.map zz++Z.map zz:=by simp
    rw [e1,e2,uN hX (by omega)];simp
   have hin:∀u∈(aC (X.map zz)).ch p,p<u/\u<X.length:=by intro u hu;have h1:(X.map zz)[p]?=some (X.map zz)[p]:=zw (by omega);rw [fM h1] at hu;have h4:=oC _ _ _ (hX p _ h1) u hu;have h5:aH ((X.map zz).drop p) 1<=((X.map zz).drop p).length:=mD _ _;rw [zn (by omega)] at h5;simp [aH] at h5;simp at h4;omega
   have hall2:∀xs:List Nat,(∀u∈xs,p<u/\u<X.length)->aM (λa b=>∃l,aL (aC ((X++(Y++X++Z)).map zz)) (bK (X++(Y++X++Z)) 0 X.length) rep [a] l/\aL (aC ((X++(Y++X++Z)).map zz)) (bK (X++(Y++X++Z)) 0 X.length) rep [b] l) xs (xs.map (· + (X.length+Y.length))):=by
    intro xs hxs;induction xs with
    | nil=>exact aM.nil
    | cons u xs ihx=>
     refine aM.cons ?_ (ihx λz hz=>hxs z (by simp [hz]));have hu:=hxs u (by simp);have:=ih (X.length-u) (by omega) u (by omega) (by omega);rwa [Nat.add_assoc] at this
   obtain ⟨l,l1,l2⟩:=aY3 (hall2 _ hin);rw [<-c1] at l1;rw [<-c2] at l2;refine ⟨X[p].2 :: l,?_,?_⟩
   ·have:=aL.name (rep:=rep) (R:=bK (X++(Y++X++Z)) 0 X.length) (r:=[]) (Cl.refl p) d1 (by rw [zb];exact l1);rwa [lC n1] at this
   ·have:=aL.name (rep:=rep) (R:=bK (X++(Y++X++Z)) 0 X.length) (r:=[]) (Cl.refl _) d2 (by rw [zb];exact l2);rwa [lC n2] at this
theorem aDu{p q:Nat}(h:bK (X++(Y++X++Z)) 0 X.length p q):bK (Y++X++Z) Y.length 0 (cL X.length Y.length p) (cL X.length Y.length q):=by
 refine Cl.le (R:=λp q=>bK (Y++X++Z) Y.length 0 (cL X.length Y.length p) (cL X.length Y.length q)) ⟨λ_=>Cl.refl _,λ_ _=>Cl.symm,λ_ _ _=>Cl.trans,?_⟩ ?_ h
 ·intro i j k p q c hi hj hp hq;have key:∀{i:Nat},(aC ((X++(Y++X++Z)).map zz)).named i->(aC ((Y++X++Z).map zz)).named (cL X.length Y.length i)/\i<(X++(Y++X++Z)).length:=by
   intro i hi;obtain ⟨n,h1,h2⟩:=jN hi;have h3:=(zu.1 h1).1;rw [zy,aAl,<-zy] at h1;exact ⟨(fL h1).2 h2,by simpa using h3⟩
  obtain ⟨i1,i2⟩:=key hi;obtain ⟨j1,j2⟩:=key hj;exact Cl.down (k:=k) c i1 j1 (by rw [vZ hX i2,zy,hp];rfl) (by rw [vZ hX j2,zy,hq];rfl)
 ·rintro i j (h | ⟨rfl,rfl⟩)
  ·exact Cl.base (zq ((rN _ _ _).2 (aY6 ((rN _ _ _).1 h))))
  ·refine Cl.base (zs ⟨?_,?_⟩)
   ·unfold cL;rw [if_pos hx];rfl
   ·unfold cL;rw [if_neg (by omega)];omega
theorem aY8(hC:dW (aC ((X++(Y++X++Z)).map zz)) (bK (X++(Y++X++Z)) 0 X.length)){rep:Nat->Nat}(hrep:∀i j,bK (X++(Y++X++Z)) 0 X.length i j->rep i=rep j)(hall:∀p,p<(X++(Y++X++Z)).length->∃l,aL (aC ((X++(Y++X++Z)).map zz)) (bK (X++(Y++X++Z)) 0 X.length) rep [p] l)
  {p q:Nat} (h:bK (Y++X++Z) Y.length 0 (cL X.length Y.length p) (cL X.length Y.length q)):pU (aC ((X++(Y++X++Z)).map zz)) (bK (X++(Y++X++Z)) 0 X.length) rep p q:=by
 have hD:=aY4 (rep:=rep) (Cl.isDown _ _) hC hrep;have hker:∀p q,cL X.length Y.length p=cL X.length Y.length q->pU (aC ((X++(Y++X++Z)).map zz)) (bK (X++(Y++X++Z)) 0 X.length) rep p q:=by
  intro p q e;rcases aY5 e with rfl | ⟨h1,rfl⟩ | ⟨h1,rfl⟩
  ·exact zq rfl
  ·exact zs (aKu hX hx hrep hall (X.length-p) p (by omega) h1)
  ·obtain ⟨l,a,b⟩:=aKu hX hx hrep hall (X.length-q) q (by omega) h1;exact zs ⟨l,b,a⟩
 have hcl:∀p q,p<(X++(Y++X++Z)).length->bK (X++(Y++X++Z)) 0 X.length p q->pU (aC ((X++(Y++X++Z)).map zz)) (bK (X++(Y++X++Z)) 0 X.length) rep p q:=by intro p q hp c;obtain ⟨l,hl⟩:=hall p hp;exact zs ⟨l,hl,hl.same (Cl.isDown _ _) hrep _ (aM.cons c aM.nil)⟩
 have main:∀p' q',cL X.length Y.length p'=cL X.length Y.length p->cL X.length Y.length q'=cL X.length Y.length q->pU (aC ((X++(Y++X++Z)).map zz)) (bK (X++(Y++X++Z)) 0 X.length) rep p' q':=by
  refine Cl.le (R:=λr s=>∀p q,cL X.length Y.length p=r->cL X.length Y.length q=s->pU (aC ((X++(Y++X++Z)).map zz)) (bK (X++(Y++X++Z)) 0 X.length) rep p q) ⟨?_,?_,?_,?_⟩ ?_ h
  ·rintro i p q rfl e;exact hker _ _ e.symm
  ·intro i j h p q e1 e2;exact hD.symm _ _ (h q p e2 e1)
  ·intro i j k h g p q e1 e2;exact hD.trans _ _ _ (h p (j+X.length) e1 (pV _ _ _)) (g (j+X.length) q (pV _ _ _) e2)
  ·intro i j k r s h hi hj hr hs p q e1 e2;have key:∀{i:Nat},(aC ((Y++X++Z).map zz)).named i->(aC ((X++(Y++X++Z)).map zz)).named (i+X.length)/\i+X.length<(X++(Y++X++Z)).length:=by
    intro i hi;obtain ⟨n,h1,h2⟩:=jN hi;have h3:=(zu.1 h1).1;have h4:((X++(Y++X++Z)).map zz)[i+X.length]?=some n:=by rw [zt (l₁:=X),zx (by simp)];simpa using h1
    exact ⟨(fL h4).2 h2,by simp at h3 ⊢;omega⟩
   obtain ⟨i1,i2⟩:=key hi;obtain ⟨j1,j2⟩:=key hj;have ci:=vZ hX i2;have cj:=vZ hX j2;rw [pV] at ci cj;rw [ci,zy,Option.map_eq_some_iff] at hr;rw [cj,zy,Option.map_eq_some_iff] at hs;obtain ⟨u,u1,u2⟩:=hr;obtain ⟨v,v1,v2⟩:=hs;have huv:=hD.down _ _ k u v (h _ _ (pV _ _ _) (pV _ _ _)) i1 j1 u1 v1;exact hD.trans _ _ _ (hD.trans _ _ _ (hker p u (by rw [e1,u2])) huv) (hker v q (by rw [e2,v2]))
  ·rintro r s (h | ⟨rfl,rfl⟩) p q e1 e2
   ·have h2:=aY7 ((rN _ _ _).1 h);have:pU (aC ((X++(Y++X++Z)).map zz)) (bK (X++(Y++X++Z)) 0 X.length) rep (r+X.length) (s+X.length):=by
     rcases h2 with e | ⟨a,b,h3,h4,h5⟩
     ·exact zq e
     ·exact hcl _ _ (zu.1 h3).1 (Cl.base (zq ((rN _ _ _).2 (zs ⟨a,b,h3,h4,h5⟩))))
    exact hD.trans _ _ _ (hD.trans _ _ _ (hker p _ (by rw [e1,pV])) this) (hker _ q (by rw [e2,pV]))
   ·have h0:cL X.length Y.length 0=Y.length:=by unfold cL;rw [if_pos hx];rfl
    have h1:cL X.length Y.length X.length=0:=by unfold cL;rw [if_neg (by omega)];omega
    have:pU (aC ((X++(Y++X++Z)).map zz)) (bK (X++(Y++X++Z)) 0 X.length) rep 0 X.length:=hcl _ _ (by simp;omega) (Cl.base (zs ⟨rfl,rfl⟩));exact hD.trans _ _ _ (hD.trans _ _ _ (hker p 0 (by rw [e1,h0])) this) (hker _ q (by rw [e2,h1]))
 exact main p q rfl rfl
end
theorem aY9{T:List Tg}{C1 C2:List (Int×Lt)}{r:Int×Lt}(h1:∀x∈C1,aW x.2.2 1=true)(h2:∀x∈C2,aW x.2.2 1=true)(hr:aW r.2.2 1=true){out:List Lt}{yes:Bool}{e:Int}
  (h:eY T (T.length+(aJ C1).length) 0 (C1++r :: C2) out yes e):eY (aO r.1 r.2.2++T) 0 r.2.2.length (C1++r :: C2) out yes e:=by
 obtain ⟨X,hXe⟩ : ∃X,aO r.1 r.2.2=X:=⟨_,rfl⟩;have hxl:r.2.2.length=X.length:=by rw [<-hXe];simp [aO]
 have hx:0<X.length:=by rw [<-hxl];exact rI hr
 have hX:dE (X.map zz):=by rw [<-hXe,tA];exact qZ hr
 have hrest:∀x∈C1++r :: C2,aW x.2.2 1=true:=by
  intro x hx;simp only [zc,List.mem_cons] at hx;rcases hx with hx | rfl | hx
  ·exact h1 x hx
  ·exact hr
  ·exact h2 x hx
 have eM:T++aJ (C1++r :: C2)=(T++aJ C1)++X++aJ C2:=by rw [xV,uJ,hXe];simp
 have eN:X++T++aJ (C1++r :: C2)=X++((T++aJ C1)++X++aJ C2):=by rw [zk,eM]
 have hY:(T++aJ C1).length=T.length+(aJ C1).length:=by simp
 have hpl:bN (X++T).length (C1++r :: C2)=(bN T.length (C1++r :: C2)).map (· + X.length):=by rw [vY _ (X++T).length,vY _ T.length,List.map_map];apply zm;intro z _;simp;omega
 unfold eY at h ⊢;rw [hXe,hxl,hpl];rw [eM,<-hY] at h;rw [eN];generalize hYe:T++aJ C1=Y at *;generalize hZe:aJ C2=Z at *;obtain ⟨rep,hrep⟩:=aDs (X++(Y++X++Z)) 0 X.length;have hr1:∀i j,bK (X++(Y++X++Z)) 0 X.length i j->rep i=rep j:=λi j c=>(hrep i j).2 c
 have hcp:oT (X++(Y++X++Z)) 0 X.length->mS ((X++(Y++X++Z)).map zz) ((Y++X++Z).map zz) (bK (X++(Y++X++Z)) 0 X.length) (bK (Y++X++Z) Y.length 0) rep (cL X.length Y.length):=by
  rintro ⟨c1,c2⟩;have hall:∀p,p<(X++(Y++X++Z)).length->∃l,aL (aC ((X++(Y++X++Z)).map zz)) (bK (X++(Y++X++Z)) 0 X.length) rep [p] l:=λp hp=>(c2 p hp).exp
  refine ⟨λp=>?_,λp hp=>?_,λs=>⟨s+X.length,pV _ _ _⟩,λp q c=>aDu hX hx c,λp q c=>aY8 hX hx c1 hr1 hall c,λp=>?_⟩
  ·rw [zy,aAl,zy]
  ·obtain ⟨n,a,_⟩:=jN hp;have:=(zu.1 a).1;exact vZ hX (by simpa using this)
  ·simp only [List.length_map,zg];unfold cL;split <;> omega
 have hyes:oT (Y++X++Z) Y.length 0->oT (X++(Y++X++Z)) 0 X.length:=by
  rintro ⟨c1,c2⟩;have hlab:∀p,(aC ((X++(Y++X++Z)).map zz)).lab p=(aC ((Y++X++Z).map zz)).lab (cL X.length Y.length p):=by intro p;show (_:Option Nd).getD _=(_:Option Nd).getD _;rw [zy,aAl,zy]
  have hnm:∀p,(aC ((X++(Y++X++Z)).map zz)).named p->(aC ((Y++X++Z).map zz)).named (cL X.length Y.length p):=by intro p hp;unfold Gr.named at hp ⊢;rw [<-hlab];exact hp
  refine ⟨λi j c hi hj=>?_,?_⟩
  ·rw [hlab,hlab];exact c1 _ _ (aDu hX hx c) (hnm i hi) (hnm j hj)
  ·have hb:∀s,bD (aC ((Y++X++Z).map zz)) (bK (Y++X++Z) Y.length 0) s->∀p,cL X.length Y.length p=s->bD (aC ((X++(Y++X++Z)).map zz)) (bK (X++(Y++X++Z)) 0 X.length) p:=by
    intro s he;induction he with
    | mk s _ ih=>
     rintro p rfl;refine ⟨_,λj hj hn u hu=>?_⟩;obtain ⟨n,a,_⟩:=jN hn;have hjl:=(zu.1 a).1;refine ih _ (aDu hX hx hj) (hnm j hn) (cL X.length Y.length u) ?_ u rfl;rw [vZ hX (by simpa using hjl)];exact List.mem_map_of_mem hu
   intro p hp;refine hb _ (c2 (cL X.length Y.length p) ?_) p rfl;simp only [zg] at hp ⊢;unfold cL;split <;> omega
 have hno:oT (X++(Y++X++Z)) 0 X.length->oT (Y++X++Z) Y.length 0:=by intro c;have hc:=hcp c;refine ⟨hc.clash (Cl.isDown _ _) c.1 hr1,λs hs=>?_⟩;obtain ⟨l,hl⟩:=(c.2 (s+X.length) (by simp at hs ⊢;omega)).exp (rep:=rep);have:=hc.ends (Cl.isDown _ _) c.1 hr1 l.length _ l hl (zv _);rwa [pV] at this
 rcases h with ⟨n,rfl,rfl,rfl⟩ | ⟨n,rep1,ls,d1,d2,d3⟩
 ·exact zq ⟨λc=>n (hno c),rfl,rfl,rfl⟩
 ·have c:=hyes n;have hc:=hcp c;have key:∀(ps:List Nat) (ls:List (List Nd)),(∀p∈ps,p<(Y++X++Z).length)->aM (λp l=>aL (aC ((Y++X++Z).map zz)) (bK (Y++X++Z) Y.length 0) rep1 [p] l) ps ls->∃ms,aM (λp m=>aL (aC ((X++(Y++X++Z)).map zz)) (bK (X++(Y++X++Z)) 0 X.length) rep [p] m) (ps.map (· + X.length)) ms/\aM (λm l=>aM (kQ (CpV ((X++(Y++X++Z)).map zz) (bK (X++(Y++X++Z)) 0 X.length) rep rep1 (cL X.length Y.length))) m l) ms ls:=by
   intro ps;induction ps with
   | nil=>
    intro ls _ hh;cases hh;exact ⟨[],aM.nil,aM.nil⟩
   | cons p ps ih=>
    intro ls hps hh;cases hh with
    | cons y hy=>
     obtain ⟨ms,i1,i2⟩:=ih _ (λq hq=>hps q (by simp [hq])) hy;have hp:=hps p (by simp);obtain ⟨m,hm⟩:=(c.2 (p+X.length) (by simp at hp ⊢;omega)).exp (rep:=rep);obtain ⟨m2,k1,k2⟩:=hc.exp (rep1:=rep1) (Cl.isDown _ _) hm;simp only [List.map_cons,List.map_nil,pV] at k1;have e2:=k1.one (Cl.isDown _ _) n.1 (oD _) (λi j hij=>(d1 i j).2 hij) _ y;subst e2;exact ⟨m :: ms,aM.cons hm i1,aM.cons k2 i2⟩
  have hne:∀x∈C1++r :: C2,0<x.2.2.length:=λx hx=>rI (hrest x hx)
  obtain ⟨ms,k1,k2⟩:=key (bN T.length (C1++r :: C2)) ls (λp hp=>by have:=vX _ _ hne p hp;rw [<-eM];simp;omega) d2;have ho:=aDh (hc.pairs (Cl.isDown _ _) hrep d1) (aAb (C1++r :: C2) k2);rw [<-ho] at d3;exact zs ⟨c,rep,ms,hrep,k1,d3⟩
end
end Go.Proofs.YtcldkjcpofjmhaaGreatDoor
