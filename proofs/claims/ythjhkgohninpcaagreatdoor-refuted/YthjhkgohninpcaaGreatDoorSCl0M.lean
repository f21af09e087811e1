import Derived.Test.YthjhkgohninpcaaGreatDoorStepAppM
import Derived.Deep.DeepCutAuto
open List renaming mem_append→zx,length_append→zw,map_append→zv,map_singleton→zu,length_nil→zr,getD_eq_getElem?_getD→zq,getElem_mem→zp,getElem?_eq_none→zn,length_singleton→zm,mem_cons_of_mem→zl,mem_cons_self→zh
open Nat renaming le_refl→zz,le_trans→zt,lt_of_lt_of_le→zi,zero_le→zf
open Prod renaming fst→zy,snd→zd
namespace Go.Proofs.YthjhkgohninpcaaGreatDoor
open _root_.Go.Proofs.Tryz renaming prog→zo
open World renaming ownsRow_nil→zs,setCell→zk
open Go.RowKit
set_option maxHeartbeats 3000000
set_option maxRecDepth 100000
variable{bad brk:Int}{c:List Lt}{bg:List Nat}{l:List Nd}{L:List Tk}{B pa:Nat}{v vB vC vL vP vV:Value}{w w':World}{st:aY}
theorem xA:(⟨#[]⟩ : ByteArray).size=0:=rfl
theorem aJ5(d:ByteArray)(a b:Nat):(d.extract a b).size<=b-a:=by rw [ByteArray.size_extract];omega
theorem aUr(e:ByteArray):∀f i b g d,fU e f i b=some (g,d)->g.size+b<=i.size+d/\d<=e.size:=by
 intro f;induction f with
 |zero=>intro i b g d a;simp [fU] at a
 |succ f ih=>
  intro i b g d a;rw [fU] at a;split at a
  ·split at a
   ·split at a
    ·simp at a;obtain ⟨rfl,rfl⟩:=a;omega
    ·simp at a
   ·split at a
    ·split at a
     ·have j:=ih _ _ _ _ a;have:=aJ5 e (b+1) (b+2);rw [ByteArray.size_append] at j;omega
     ·simp at a
    ·split at a
     ·simp at a
     ·have j:=ih _ _ _ _ a;have:=aJ5 e b (b+bF e b);rw [ByteArray.size_append] at j;omega
  ·simp at a
theorem aUs{b:ByteArray}{g e:Nat}{d:Tk}(a:eZ b g=.tok d e):d.txt.size<=b.size:=by
 unfold eZ at a;split at a
 ·split at a
  ·cases a
  ·simp only [Nx.tok.injEq] at a;rw [<-a.1];simp only;rw [ByteArray.size_extract];omega
 ·split at a
  ·split at a
   ·rename_i i k f;simp only [Nx.tok.injEq] at a;rw [<-a.1];have j:=aUr _ _ _ _ _ _ f;rw [xA] at j;show i.size<=b.size;omega
   ·cases a
  ·split at a
   ·split at a
    ·simp only [Nx.tok.injEq] at a;rw [<-a.1];exact zf _
    ·cases a
   ·split at a
    ·simp only [Nx.tok.injEq] at a;rw [<-a.1];exact zf _
    ·cases a
theorem aUt(f:ByteArray):∀a d,∀e∈(cW f a d).1,e.txt.size<=f.size:=by
 intro a;induction a with
 |zero=>intro d;simp [cW]
 |succ a ih=>
  intro d;rw [cW];split
  ·split
   ·exact ih _
   ·split
    ·exact ih _
    ·split
     ·rename_i e i b;intro g hu;rcases List.mem_cons.1 hu with rfl|hu
      ·exact aUs b
      ·exact ih _ g hu
     ·simp
  ·intro e b;simp at b;rw [b];exact zf _
structure sF(L T:List Tk):Prop where
 small:∀i,(aH T i).txt.size<=1000000
 low:∀i,i<L.length->(aH T i).kind≠63/\i<T.length
 rest:∀i,¬i<L.length->(aH T i).kind=63
theorem aB0(d:ByteArray)(n:d.size<=1000000):sF (cW d (d.size+1) 0).1 (eP (cW d (d.size+1) 0)):=by
 obtain ⟨_,_,_,j⟩:=aE2 d (d.size+1) 0;have i:=aUt d (d.size+1) 0;generalize cW d (d.size+1) 0=r at *;obtain ⟨L,e⟩:=r;simp only at j i;have g:∀a,(a<L.length/\aH (eP (L,e)) a∈L/\a<(eP (L,e)).length)\/(¬a<L.length/\(aH (eP (L,e)) a).kind=63/\(aH (eP (L,e)) a).txt=⟨#[]⟩):=by
  intro a;by_cases b:a<L.length
  ·refine Or.inl ⟨b,?_,by simp [eP];omega⟩;have:aH (eP (L,e)) a=L[a]:=by simp [aH,eP,List.getElem?_append_left b,b]
   rw [this];exact zp _
  ·refine Or.inr ⟨b,?_⟩;cases e with
   |none=>
    have:aH (eP (L,none)) a=uR:=by simp only [aH,eP,List.append_nil];rw [zq,zn (by omega)];rfl
    rw [this];exact ⟨rfl,rfl⟩
   |some p=>
    by_cases m:a=L.length
    ·subst m;have:aH (eP (L,some p)) L.length=⟨63,⟨#[]⟩,p⟩:=by simp [aH,eP]
     rw [this];exact ⟨rfl,rfl⟩
    ·have:aH (eP (L,some p)) a=uR:=by simp only [aH,eP];rw [zq,zn (by simp;omega)];rfl
     rw [this];exact ⟨rfl,rfl⟩
 refine ⟨λa=>?_,λa f=>?_,λa f=>?_⟩
 ·rcases g a with ⟨_,b,_⟩|⟨_,_,b⟩
  ·have:=i _ b;omega
  ·rw [b,xA];omega
 ·rcases g a with ⟨_,b,k⟩|⟨b,_⟩
  ·exact ⟨j _ b,k⟩
  ·exact absurd f b
 ·rcases g a with ⟨b,_⟩|⟨_,b,_⟩
  ·exact absurd b f
  ·exact b
def dZ(l:List Nd):Prop:=∀x∈l,x.1.size<=1000000
theorem yS{x:Nd}(a:dZ l)(b:x.1.size<=1000000):dZ (l++[x]):=by
 intro d hy;rcases zx.1 hy with hy|hy
 ·exact a d hy
 ·simp at hy;subst hy;exact b
theorem aUu(d:dZ l)(g i:Nat):dZ (dR l g i):=by
 intro j b;unfold dR at b;rw [List.mem_iff_getElem?] at b;obtain ⟨f,a⟩:=b;rw [List.getElem?_modify] at a;cases hq:l[f]? with
 |none=>rw [hq] at a;simp at a
 |some z=>
  rw [hq] at a;have e:=d z (List.mem_of_getElem? hq);simp at a;subst a;split<;>exact e
theorem aDx{f:List Tk}(r:sF L f):∀e,(∀i st l d b,cJ f e i st l=.ok (d,b)->dZ l->dZ b)/\(∀st l j d b k,eA f e st l j=.ok (d,b,k)->dZ l->dZ b):=by
 intro e;induction e with
 |zero=>exact ⟨λi st l d b a=>by simp [cJ] at a,λst l j d b k a=>by simp [eA] at a⟩
 |succ e ih=>
  obtain ⟨s,n⟩:=ih;constructor
  ·intro i st l d b a g;rw [cJ] at a;split at a
   ·simp only [Except.ok.injEq,Prod.mk.injEq] at a;obtain ⟨rfl,rfl⟩:=a;exact yS g (by rw [xA];omega)
   ·split at a
    ·simp at a
    ·have m:=yS (x:=((aH f st.i).txt,0)) g (r.small _);split at a
     ·split at a
      ·simp at a
      ·rename_i u t y q;simp only [Except.ok.injEq,Prod.mk.injEq] at a;obtain ⟨rfl,rfl⟩:=a;exact aUu (n _ _ _ _ _ _ q m) _ _
     ·simp only [Except.ok.injEq,Prod.mk.injEq] at a;obtain ⟨rfl,rfl⟩:=a;exact m
  ·intro st l j d b k a g;rw [eA] at a;split at a
   ·simp at a
   ·rename_i u t p;have o:=s _ _ _ _ _ p g;split at a
    ·exact n _ _ _ _ _ _ a o
    ·split at a
     ·simp only [Except.ok.injEq,Prod.mk.injEq] at a;obtain ⟨rfl,rfl,rfl⟩:=a;exact o
     ·simp at a
theorem bT.mono{d e:Nat}(a:bT B e w w')(p:d<=e):bT B d w w':=
 ⟨a.os,a.tape,a.output,a.size,λk r b=>a.block k r (b.imp id λb f T i q=>by
  obtain ⟨j,m,n,o⟩:=b f T i q;exact ⟨j,m,n,λg=>zi (o g) p⟩)⟩
theorem bT.own{f i:Nat}{a:TypeId}{k:Nat}{n:Nat}{m:List Value}(r:bT B f w w')(A:w.ownsRow i a k v n m)(b:a≠143/\a≠9/\a≠98)(z:a=106->w.heap.size<=f):w'.ownsRow i a k v n m:=by
 obtain ⟨j,⟨rfl,s⟩|⟨g,o,p,rfl,t,d,u,y,D,C⟩⟩:=A
 ·exact ⟨j,Or.inl ⟨rfl,s⟩⟩
 ·have x:=(Array.getElem?_eq_some_iff.1 d).1;refine ⟨j,Or.inr ⟨g,o,p,rfl,t,?_,u,y,D,C⟩⟩;rw [r.block g x (Or.inr λF E G e=>?_)]
  ·exact d
  ·rw [d] at e;simp at e;obtain ⟨_,rfl,_⟩:=e;exact ⟨b.1,b.2.1,b.2.2,λq=>by have:=z q;omega⟩
theorem bT.fresh{g i:Nat}{d:World}{e:TypeId}{o:Nat}{n:Nat}{p:List Value}(a:bT B g d w)(m:w.ownsRow i e o v n p)(q:d.heap.size<=i)(b:w.grownBy w' v.ownBlock):bT B g d w':=
 ⟨b.os.trans a.os,b.tape.trans a.tape,b.output.trans a.output,zt a.size b.size,λf j k=>by
  rw [b.block f (zi j a.size) (λe=>by have:=(bL m f e.symm).1;omega),a.block f j k]⟩
def kZ(w:World)(B:Nat)(a:List (Lt×Value)×Value):Prop:=w.ownsRow B 55 2 a.2 a.1.length (bS a.1)/\∀b∈a.1,w.ownsRow B 106 2 b.2 b.1.2.length (aP b.1.2)
structure iQ(B:Nat)(w:World)(vC vB:Value)(CV:List (List (Lt×Value)×Value))(bg:List Nat):Prop where
 cl:w.ownsRow B 41 1 vC CV.length (CV.map zd)
 each:∀p∈CV,kZ w B p
 begins:w.ownsRow B 3 1 vB bg.length (bg.map λk:Nat=>Value.int .i64 (k:Int))
section
variable {B:Nat}{w w':World}{vC vB:Value}{CV:List (List (Lt×Value)×Value)}{bg:List Nat}
theorem iQ.keptP{e:Nat}(b:iQ B w vC vB CV bg)(d:bT B e w w')(i:w.heap.size<=e):iQ B w' vC vB CV bg:=
 ⟨d.own b.cl (by decide) (by intro a;exact absurd a (by decide)),λg f=>⟨d.own (b.each g f).1 (by decide) (by intro a;exact absurd a (by decide)),λk j=>d.own ((b.each g f).2 k j) (by decide) (λ_=>i)⟩,d.own b.begins (by decide) (by intro a;exact absurd a (by decide))⟩
theorem iQ.below(a:iQ B w vC vB CV bg)(k:aC w w'):iQ B w' vC vB CV bg:=a.keptP (.of_below k) (zz _)
theorem iQ.begin{i:Nat}(a:iQ B w vC vB CV bg)(j:w'.ownsRow B 3 1 v (bg.length+1) ((bg.map λk:Nat=>Value.int .i64 (k:Int))++[.int .i64 i]))(e:w.grownBy w' vB.ownBlock):iQ B w' vC v CV (bg++[i]):=
 ⟨a.cl.kept e (bW a.cl a.begins (by decide)),λd b=>⟨(a.each d b).1.kept e (bW (a.each d b).1 a.begins (by decide)),λg f=>((a.each d b).2 g f).kept e (bW ((a.each d b).2 g f) a.begins (by decide))⟩,by rw [zv,zw];exact j⟩
theorem iQ.more{e:List (Lt×Value)×Value}(b:iQ B w vC vB CV bg)(k:kZ w B e)(j:w'.ownsRow B 41 1 v (CV.length+1) (CV.map zd++[e.2]))(d:w.grownBy w' vC.ownBlock):iQ B w' v vB (CV++[e]) bg:=by
 have g:∀a,kZ w B a->kZ w' B a:=λa hq=>⟨hq.1.kept d (bW hq.1 b.cl (by decide)),λi f=>(hq.2 i f).kept d (bW (hq.2 i f) b.cl (by decide))⟩
 refine ⟨by rw [zv,zw];exact j,λa hq=>?_,b.begins.kept d (bW b.begins b.cl (by decide))⟩;rcases zx.1 hq with hq|hq
 ·exact g a (b.each a hq)
 ·simp at hq;subst hq;exact g a k
end
theorem bG.apart{j:Nat}(a:bG w pa vL j bad vP vC vB vV){B:Nat}{b:TypeId}{m:Nat}{v:Value}{k:Nat}{n:List Value}(i:w.ownsRow B b m v k n)(e:b≠98):v.ownBlock=none\/v.ownBlock≠some pa:=by
 obtain ⟨_,⟨rfl,_⟩|⟨g,o,p,rfl,_,f,_⟩⟩:=i
 ·exact Or.inl rfl
 ·right;intro d;simp [Value.ownBlock] at d;subst d;unfold bG at a;rw [f] at a;simp at a;exact e a.2
theorem bG.far{e:Nat}(a:bG w pa vL e bad vP vC vB vV){B:Nat}{d:TypeId}{k:Nat}{v:Value}{n:Nat}{m:List Value}(j:w.ownsRow B d k v n m)(f:d≠98)(g:w.grownBy w' v.ownBlock):bG w' pa vL e bad vP vC vB vV:=by
 have i:=a.lt;have ha:=a.apart j f;unfold bG at a ⊢;rw [g.block pa i ?_]
 ·exact a
 ·intro b;rcases ha with ha|ha
  ·rw [ha] at b;simp at b
  ·exact ha b.symm
structure iD(B pa:Nat)(w0:World)(L:List Tk)(vL vC vB:Value)(wr:World)(st:aY)(bad:Int)(vP vV vc:Value)(P:List (Lt×Value)):Prop where
 pin:bN B wr pa L st bad vL vP vC vB vV
 kept:bT B w0.heap.size w0 wr
 row:wr.ownsRow w0.heap.size 55 2 vc P.length (bS P)
 atoms:∀q∈P,wr.ownsRow w0.heap.size 106 2 q.2 q.1.2.length (aP q.1.2)
section
variable {B pa:Nat}{w0 wr w':World}{L:List Tk}{vL vC vB vP vV vc:Value}{st:aY}{bad:Int}{P:List (Lt×Value)}
theorem iD.below(a:iD B pa w0 L vL vC vB wr st bad vP vV vc P)(k:aC wr w'):iD B pa w0 L vL vC vB w' st bad vP vV vc P:=
 ⟨a.pin.below k,a.kept.trans (.of_below k),bB a.row k (zz _),λd b=>bB (a.atoms d b) k (zz _)⟩
theorem iD.setI(a:iD B pa w0 L vL vC vB wr st bad vP vV vc P):iD B pa w0 L vL vC vB (wr.setCell ⟨pa,1,none⟩ (.int .i64 ((st.i:Int)+1))) ⟨st.i+1,st.vars,st.pz⟩ bad vP vV vc P:=
 ⟨a.pin.setI (st.i+1),a.kept.grownBox a.pin.box a.pin.high (bX _ _ _),a.pin.box.row a.row (by decide) _ _,λd b=>a.pin.box.row (a.atoms d b) (by decide) _ _⟩
theorem iD.wrong{d:Int}(a:iD B pa w0 L vL vC vB wr st bad vP vV vc P)(g:bG w' pa vL st.i d vP vC vB vV)(b:wr.grownBy w' (some pa)):iD B pa w0 L vL vC vB w' st d vP vV vc P:=
 ⟨a.pin.grownBox b g,a.kept.grownBox a.pin.box a.pin.high b,a.row.kept b (a.pin.box.apart a.row (by decide)),λf e=>(a.atoms f e).kept b (a.pin.box.apart (a.atoms f e) (by decide))⟩
theorem iD.atom{e:aY}{d:Int}{f g i:Value}(a:iD B pa w0 L vL vC vB wr st bad vP vV vc P)(k:bN B w' pa L e d vL f vC vB g)(b:bT B wr.heap.size wr w')(m:w'.ownsRow wr.heap.size 106 2 i l.length (aP l)):iD B pa w0 L vL vC vB w' e d f g vc P/\w'.ownsRow w0.heap.size 106 2 i l.length (aP l):=
 ⟨⟨k,a.kept.trans (b.mono a.kept.size),b.own a.row (by decide) (by intro j;exact absurd j (by decide)),λo n=>b.own (a.atoms o n) (by decide) (λ_=>zz _)⟩,eJ m a.kept.size⟩
theorem iD.lit{d g:Value}{x:Lt}(a:iD B pa w0 L vL vC vB wr st bad vP vV vc P)(e:wr.ownsRow w0.heap.size 106 2 d x.2.length (aP x.2))(i:w'.ownsRow w0.heap.size 55 2 g (P.length+1) (bS P++[.bool x.1,d]))(b:wr.grownBy w' vc.ownBlock):iD B pa w0 L vL vC vB w' st bad vP vV g (P++[(x,d)]):=by
 refine ⟨a.pin.far a.row (by decide) b,a.kept.fresh a.row (zz _) b,by rw [aAw,zw];exact i,λf hq=>?_⟩;rcases zx.1 hq with hq|hq
 ·exact (a.atoms f hq).kept b (bW (a.atoms f hq) a.row (by decide))
 ·simp at hq;subst hq;exact e.kept b (bW e a.row (by decide))
end
theorem xB{P:List (Lt×Value)}(k:w.ownsRow B 55 2 v P.length (bS P))(p:∀a∈P,w.ownsRow B 106 2 a.2 a.1.2.length (aP a.1.2))(u:∀a∈P,dZ a.1.2)(y:aR (P.map zy)<=1000000)(A:P.length<=2000000):∃b e,v=.slice b P.length e/\bD w b (P.map zy):=by
 obtain ⟨b,e,rfl,r⟩:=sB k;refine ⟨b,e,rfl,⟨by simp;omega,λd s=>?_⟩⟩;have t:d<P.length:=by simpa using s
 obtain ⟨j,rfl,m,n⟩:=r d t;have f:P[d]∈P:=zp _;have z:=wZ (P.map zy) P[d].1 (List.mem_map.2 ⟨_,f,rfl⟩);obtain ⟨g,i,x,o⟩:=tA (p _ f) (by omega) (λC q=>by have:=u _ f _ (zp q);omega);refine ⟨j,0,g,i,rfl,?_,?_,?_⟩
 ·simpa using m
 ·rw [Nat.zero_add,n,x];simp
 ·simpa using o
theorem aUv{d:List (List (Lt×Value)×Value)}(a:bN B w pa L st bad vL vP vC vB vV)(b:iQ B w vC vB d bg):bN B (w.setCell ⟨pa,6,none⟩ (.slice none 0 0)) pa L ⟨st.i,[],st.pz⟩ bad vL vP vC vB (.slice none 0 0)/\iQ B (w.setCell ⟨pa,6,none⟩ (.slice none 0 0)) vC vB d bg/\Below B w (w.setCell ⟨pa,6,none⟩ (.slice none 0 0))/\(w.setCell ⟨pa,6,none⟩ (.slice none 0 0)).heap.size=w.heap.size:=
 ⟨⟨a.high,a.box.set6 _,a.box.row a.toks (by decide) _ _,a.box.row a.pz (by decide) _ _,zs _ _ _ _⟩,
  ⟨a.box.row b.cl (by decide) _ _,λf e=>⟨a.box.row (b.each f e).1 (by decide) _ _,λi g=>a.box.row ((b.each f e).2 i g) (by decide) _ _⟩,a.box.row b.begins (by decide) _ _⟩,
  eH (Below.refl _ _) a.high _,by simp [zk]⟩
theorem aUw{b:World}{k:List (List (Lt×Value)×Value)}{f:List (Lt×Value)×Value}{n:Obj}(o:bN B w pa L st bad vL vP vC vB vV)(t:iQ B w vC vB k bg)(j:kZ w B f)(s:B<=w.heap.size)
  (u:b.ownsRow B 41 1 v (k.length+1) (k.map zd++[f.2])) (e:(w.alloc n).grownBy b vC.ownBlock):b.frozen? ⟨pa,4,none⟩=false/\b.cell? ⟨pa,4,none⟩=some vC/\bN B (b.setCell ⟨pa,4,none⟩ v) pa L st bad vL vP v vB vV/\iQ B (b.setCell ⟨pa,4,none⟩ v) v vB (k++[f]) bg/\Below B w (b.setCell ⟨pa,4,none⟩ v)/\w.heap.size<=(b.setCell ⟨pa,4,none⟩ v).heap.size:=by
 have i:=(Below.refl w.heap.size w).alloc (zz _) n;have d:=o.below i;have g:=t.below i;have x:kZ (w.alloc n) B f:=⟨bB j.1 i (zz _),λq p=>bB (j.2 q p) i (zz _)⟩;have a:=d.box.far g.cl (by decide) e;have m:=g.more x u e;have y:=e.size;refine ⟨a.soft 4,a.c4,⟨o.high,a.set4 v,?_,?_,?_⟩,?_,?_,?_⟩
 ·exact a.row (d.toks.kept e (bW d.toks g.cl (by decide))) (by decide) _ _
 ·exact a.row (d.pz.kept e (bW d.pz g.cl (by decide))) (by decide) _ _
 ·exact a.row (d.vars.kept e (bW d.vars g.cl (by decide))) (by decide) _ _
 ·exact ⟨a.row m.cl (by decide) _ _,λf j=>⟨a.row (m.each f j).1 (by decide) _ _,λq p=>a.row ((m.each f j).2 q p) (by decide) _ _⟩,a.row m.begins (by decide) _ _⟩
 ·refine eH ((i.mono s).grown e ?_ ?_) o.high _
  ·simp;omega
  ·exact λz r=>(bL g.cl z r).1
 ·simp [zk] at y ⊢;omega
theorem aJ6:(zo.info? 41).map (λa=>(a.zero,a.size,a.bytes))=some (some (.slice none 0 0),1,24):=by kernel_rfl
theorem aJ7{m:Array Oper}{b:Oper}{a:Act}{w:World}{K:Act->World->Prop}{o:Exit->Act->World->Prop}{n:Prop}(t:b.guard=none)(d:Nat)(i:Array Operand)(A:Array TypeId)
  (x:b.op=.call {callee:=.value (.func d),args:=i,argTypes:=A}) (s:∀k w,(callFunc d k).run zo w=.ok (.enter d k) w) (f:Array Value) (g:i.toList.map a.eval=f.toList) {j:Ending->World->Prop} (r:Calls zo d f w j)
  (p:∀e w',j e w'->∃v,e=.returned v/\K (a.put b.dst v) w'):if Region.wanted b (yielded m a.tmps)=true then Oper.wp zo b a w K o else n:=by
 have z:Region.wanted b (yielded m a.tmps)=true:=by simp [Region.wanted,t]
 rw [aJ z];have y:(execOp a.eval b).run zo w=.ok (.enter d f) w:=by
  have g:i.map a.eval=f:=by apply Array.ext';rw [Array.toList_map];exact g
  subst g;simp [execOp,x,resolve,invoke,s,Act.eval,Deferred.ofValue]
 unfold Oper.wp;rw [y,Oper.upon_enter];exact r.mono λe w' q=>by
  obtain ⟨v,rfl,u⟩:=p e w' q;exact u
theorem aUx{r b:World}{n:List (List (Lt×Value)×Value)}{s:Nat}{o:Obj}(j:bN B w pa L st bad vL vP vC vB vV)(x:iQ B w vC vB n bg)(u:B<=w.heap.size)(i:aC w r)
  (y:b.ownsRow B 3 1 v (bg.length+1) ((bg.map λm:Nat=>Value.int .i64 (m:Int))++[.int .i64 s])) (e:(r.alloc o).grownBy b vB.ownBlock):b.frozen? ⟨pa,5,none⟩=false/\b.cell? ⟨pa,5,none⟩=some vB/\bN B (b.setCell ⟨pa,5,none⟩ v) pa L st bad vL vP vC v vV/\iQ B (b.setCell ⟨pa,5,none⟩ v) vC v n (bg++[s])/\Below B w (b.setCell ⟨pa,5,none⟩ v)/\w.heap.size<=(b.setCell ⟨pa,5,none⟩ v).heap.size:=by
 have k:=i.alloc i.size o;have d:=j.below k;have f:=x.below k;have a:=d.box.far f.begins (by decide) e;have g:=f.begin y e;have A:=e.size;refine ⟨a.soft 5,a.c5,⟨j.high,a.set5 v,?_,?_,?_⟩,?_,?_,?_⟩
 ·exact a.row (d.toks.kept e (bW d.toks f.begins (by decide))) (by decide) _ _
 ·exact a.row (d.pz.kept e (bW d.pz f.begins (by decide))) (by decide) _ _
 ·exact a.row (d.vars.kept e (bW d.vars f.begins (by decide))) (by decide) _ _
 ·exact ⟨a.row g.cl (by decide) _ _,λq p=>⟨a.row (g.each q p).1 (by decide) _ _,λC z=>a.row ((g.each q p).2 C z) (by decide) _ _⟩,a.row g.begins (by decide) _ _⟩
 ·refine eH ((k.mono u).grown e ?_ ?_) j.high _
  ·have:=i.size;simp;omega
  ·exact λm t=>(bL f.begins m t).1
 ·have:=i.size;simp [zk] at A ⊢;omega
def aJ8(B pa:Nat)(w:World)(L g:List Tk)(st:aY)(vL:Value)(i:List (List (Lt×Value)×Value))(bg:List Nat)(j:Ending)(w':World):Prop:=
 j=.returned (.tuple #[])/\Below B w w'/\w.heap.size<=w'.heap.size/\
  match iV g st with
  | .ok (st',c)=>∃d b a e f v,bN B w' pa L st' (-1) vL d b a e/\iQ B w' b a (i++[(f,v)]) (bg++[(aH g st.i).pos])/\f.map zy=aU c
  | .error p=>∃k d b a e,bG w' pa vL k (p:Int) d b a e
def aB1(B pa:Nat)(g:World)(L d:List Tk)(vL vC vB:Value)(st:aY)(f:Value)(wr:World):Prop:=
 ∃a bad vP vV b,iD B pa g L vL vC vB wr a bad vP vV f b/\a.i<=3000010/\
  match jY d st with
  | .ok (s1,c)=>bad=-1/\s1=a/\c=b.map zy/\a.i<d.length/\a.pz.length<=a.i/\b.length<=1000003/\aR (b.map zy)<=1000000/\(∀e∈b,dZ e.1.2)
  | .error p=>bad=(p:Int)
def qB(B pa:Nat)(m:World)(L a:List Tk)(vL vC vB:Value)(d:aY)(i:Nat)(k:Value)(f:Bool)(wr:World):Prop:=
 ∃st bad vP vV b,i+b.length=a.length+1/\iD B pa m L vL vC vB wr st bad vP vV k b/\st.i<=3000000/\
  ((bad=-1/\st.i<a.length/\st.pz.length<=st.i/\st.vars.length<=st.i/\b.length<=st.i/\aR (b.map zy)<=st.i/\(∀j∈b,dZ j.1.2)/\
    (f=true->∃e,a.length<st.i+e/\fD a (a.length+1) d []=fD a e st (b.map zy))/\(f=false->fD a (a.length+1) d []=.ok (st,b.map zy)))\/
   ∃g:Nat,bad=(g:Int)/\fD a (a.length+1) d []=.error g)
def fJ(a:List Tk)(st:aY):aY:=⟨if (aH a st.i).kind=126 then st.i+1 else st.i,st.vars,st.pz⟩
theorem yT{a:List Tk}{e d:Nat}(b:cJ a (a.length+1) true (fJ a st) []=.error d):fD a (e+1) st c=.error d:=by unfold fJ at b;rw [fD,b]
theorem aB2{a:List Tk}{e:Nat}{b:aY}{d:List Nd}(f:cJ a (a.length+1) true (fJ a st) []=.ok (b,d))(g:(aH a b.i).kind=124):fD a (e+1) st c=fD a e ⟨b.i+1,b.vars,b.pz⟩ (c++[(decide ((aH a st.i).kind=126),d)]):=by unfold fJ at f;rw [fD,f];simp only;rw [aJ g]
theorem aB3{a:List Tk}{f:Nat}{b:aY}{d:List Nd}(e:cJ a (a.length+1) true (fJ a st) []=.ok (b,d))(g:(aH a b.i).kind≠124):fD a (f+1) st c=.ok (b,c++[(decide ((aH a st.i).kind=126),d)]):=by unfold fJ at e;rw [fD,e];simp only;rw [aI g]
theorem xC(a:List Tk)(st:aY):st.i<=(fJ a st).i/\(fJ a st).i<=st.i+1/\(fJ a st).vars=st.vars/\(fJ a st).pz=st.pz:=by unfold fJ;simp only;split<;>simp
theorem aB4{a:List Tk}(e:TL L a brk){st:aY}(b:st.i<a.length):(fJ a st).i<a.length:=by
 unfold fJ;simp only;split
 ·rename_i d;exact e.more _ b (by rw [d];decide) (by rw [d];decide)
 ·exact b
section
variable {B pa:Nat}{w0 wr:World}{L T:List Tk}{brk:Int}{vL vC vB vP vV vc:Value}{s0 st:aY}{k g:Nat}{P:List (Lt×Value)}{s2:aY}{bad2:Int}{vl:Value}{l2:List Nd}
theorem qB.more(d:TL L T brk)(e:sF L T)(A:k+P.length=T.length+1)(C:P.length<=st.i)(y:aR (P.map zy)<=st.i)(r:∀f∈P,dZ f.1.2)(p:st.i<T.length)(D:st.pz.length<=st.i)(E:st.vars.length<=st.i)(z:T.length<st.i+(g+1))(o:fD T (T.length+1) s0 []=fD T (g+1) st (P.map zy))(x:T.length<=1000002)
  (a:cJ T (T.length+1) true (fJ T st) []=.ok (s2,l2)) (b:(aH T s2.i).kind=124) (n:iD B pa w0 L vL vC vB wr ⟨s2.i+1,s2.vars,s2.pz⟩ (-1) vP vV vc (P++[((decide ((aH T st.i).kind=126),l2),vl)])):qB B pa w0 L T vL vC vB s0 (k-1) vc true wr:=by
 obtain ⟨F,G,t,u⟩:=xC T st;have i:=(tS T (T.length+1)).1 _ _ _ _ _ a;have q:=(aB7 d (T.length+1)).1 _ _ _ _ _ a (aB4 d p);have s:=(aDx e (T.length+1)).1 _ _ _ _ _ a (by intro H e;simp at e);rw [t,u] at i;simp only [zr] at i;have m:=d.more _ q (by rw [b];decide) (by rw [b];decide);refine ⟨_,-1,vP,vV,_,by simp;omega,n,by simp;omega,Or.inl ⟨rfl,m,by simp;omega,by simp;omega,by simp;omega,?_,?_,λ_=>⟨g,by simp;omega,?_⟩,λj=>by cases j⟩⟩
 ·rw [zv,zu,nT];simp only;omega
 ·intro f hq;rcases zx.1 hq with hq|hq
  ·exact r f hq
  ·simp at hq;subst hq;exact s
 ·rw [o,aB2 a b,zv,zu]
theorem qB.stop(e:TL L T brk)(b:sF L T)(y:k+P.length=T.length+1)(z:P.length<=st.i)(x:aR (P.map zy)<=st.i)(p:∀q∈P,dZ q.1.2)(n:st.i<T.length)(A:st.pz.length<=st.i)(C:st.vars.length<=st.i)(m:fD T (T.length+1) s0 []=fD T (g+1) st (P.map zy))(u:T.length<=1000002)
  (a:cJ T (T.length+1) true (fJ T st) []=.ok (s2,l2)) (i:(aH T s2.i).kind≠124) (j:iD B pa w0 L vL vC vB wr s2 (-1) vP vV vc (P++[((decide ((aH T st.i).kind=126),l2),vl)])):qB B pa w0 L T vL vC vB s0 (k-1) vc false wr:=by
 obtain ⟨D,E,s,t⟩:=xC T st;have d:=(tS T (T.length+1)).1 _ _ _ _ _ a;have o:=(aB7 e (T.length+1)).1 _ _ _ _ _ a (aB4 e n);have r:=(aDx b (T.length+1)).1 _ _ _ _ _ a (by intro F b;simp at b);rw [s,t] at d;simp only [zr] at d;refine ⟨_,-1,vP,vV,_,by simp;omega,j,by omega,Or.inl ⟨rfl,o,by omega,by omega,by simp;omega,?_,?_,(λf=>by cases f),λ_=>?_⟩⟩
 ·rw [zv,zu,nT];simp only;omega
 ·intro q hq;rcases zx.1 hq with hq|hq
  ·exact p q hq
  ·simp at hq;subst hq;exact r
 ·rw [m,aB3 a i,zv,zu]
theorem qB.err{a:Nat}{b:Bool}{m:Bool}(n:k+P.length=T.length+1)(o:1<=k)(f:fD T (T.length+1) s0 []=fD T (g+1) st (P.map zy))
  (j:cJ T (T.length+1) true (fJ T st) []=.error a) (e:bad2=(a:Int)) (i:s2.i<=3000000) (d:iD B pa w0 L vL vC vB wr s2 bad2 vP vV vc (P++[((b,l2),vl)])):qB B pa w0 L T vL vC vB s0 (k-1) vc m wr:=
 ⟨_,bad2,vP,vV,_,by simp;omega,d,i,Or.inr ⟨a,e,by rw [f,yT j]⟩⟩
end
theorem aUy(B pa:Nat)(brk:Int)(st:aY)(vL vP vC vB vV:Value)(L a:List Tk)(g:List (List (Lt×Value)×Value))(bg:List Nat)(w:World)(p:TL L a brk)(f2:sF L a)(i1:∀vC vB o2,aE6 B pa brk L a vL vC vB o2)(m:bN B w pa L st (-1) vL vP vC vB vV)(b3:iQ B w vC vB g bg)(o9:B<=w.heap.size)(q1:st.i<L.length)(q4:st.pz.length<=st.i)(t1:a.length<=1000000)(t3:bg.length<=st.i)(t4:g.length<=st.i):Calls zo 45 #[.pointer (some ⟨pa,0,none⟩),.int .i64 brk] w λn w'=>aJ8 B pa w L a st vL g bg n w':=by
 obtain ⟨o6,j8⟩:=f2.low _ q1;have k4:=p.pos _ o6;obtain ⟨v8,w3,rfl⟩:=aW b3.begins;obtain ⟨j,k,rfl⟩:=aW b3.cl;obtain ⟨q9,p0,p1,p2,p3⟩:=info_parts sC;obtain ⟨r0,p4,p5,p6,p7⟩:=info_parts aJ6;have u4:=aE8;have u3:=aVt;have q:=aA (pA B pa st.i (-1) vL vP _ _ vV L w.drew (m.drawn 1).box (m.drawn 1).toks);have m3:=aA i1;clear i1;unfold nU at q;rw [k4] at q;obtain ⟨l0,e2⟩ : ∃l0,(aH L st.i).kind=l0:=⟨_,rfl⟩;obtain ⟨l5,k6⟩ : ∃l5,(aH L st.i).txt=l5:=⟨_,rfl⟩;obtain ⟨R,f1⟩ : ∃R,(aH a st.i).pos=R:=⟨_,rfl⟩;rw [e2,k6,f1] at q;have s3:=aA e2;have n2:=aA f1;have h2:=aA m;have d3:=aA b3;have h8:=m.box.c5;clear m b3 e2 k6 f1 k4;go_enter Tryz.func45,Tryz.ntmps45;go_upto_region 0 with (fail);go_cut [] (λf=>∃e,bN B f pa L st (-1) vL vP (.slice j g.length k) e vV/\iQ B f (.slice j g.length k) e g (bg++[R])/\Below B w f/\w.heap.size<=f.heap.size);case first=>
  refine sG ?_;go_region_law (first
   |(refine aJ7 (by rfl) 43 _ _ (by rfl) (enters_of Tryz.func43 (by kernel_rfl) rfl) _ (by rfl) (aB q) ?_;rintro n D ⟨rfl,a1⟩;refine ⟨_,rfl,?_⟩;have b0:aG (aC w D):=aA ((aL (w1:=w.drew) ⟨1,rfl⟩).trans a1);have u5:=b0.o.size;have o1:=aD b0.o h8;have s7:=(λr5=>aD ((Below.refl D.heap.size D).alloc (zz _) r5) o1);have n0:=aA (bB d3.o.begins b0.o (zz _));clear a1)
   |(refine mC ?g1 (.tmp 13) (.tmp 17) 25 3 ?g2 (.int .i64 0) 1 8 Tryz.underlying25 rR ?g3 ?g4 ?g5 B _ bg.length (bg.map λf3:Nat=>Value.int .i64 (f3:Int)) ?g6 (n0.o.alloc _) ?g7 ?g8 D.heap.size 1 [.int .i64 R] ?g9 ?g10 (nC D (.int .i64 R) 3 D.heap.size rfl) (aA2 R) ?_;(case g1=>rfl);(case g2=>rfl);(case g3=>rfl);(case g4=>decide);(case g5=>decide);(case g6=>rfl);(case g7=>omega);(case g8=>simp;omega);(case g9=>rfl);(case g10=>rfl);intro v5 a6 e6 j4;obtain ⟨v1,c5,i6,i4,z,k5⟩:=aUx h2.o d3.o o9 b0.o e6 j4;have m8:=aA i6;have m6:=aA i4;have m1:=aA z;have n1:=aA k5;obtain ⟨v9,w4,rfl⟩:=aW e6;clear e6 j4 i6 i4 z k5))
  all_goals
   refine qD ?_;go_wp2_with fail;go_meet;case rel=>exact ⟨_,m8.o,m6.o,m1.o,n1.o⟩
 case rest=>
  obtain ⟨e,b4,i2,b6,q5⟩:=hcut;obtain ⟨b5,i3,a1,q8⟩:=aUv b4 i2;have n6:=b4.box.c6;have o4:=b4.box.soft 6;go_upto_region 3 with (fail);generalize wc.setCell ⟨pa,6,none⟩ (.slice none 0 0)=w0 at *;have m0:=aA (b6.trans a1);have d9:B<=w0.heap.size:=by omega
  have q7:w.heap.size<=w0.heap.size:=by omega
  have a7:=aA (pA B pa st.i (-1) vL vP _ e (.slice none 0 0) L w0 b5.box b5.toks);unfold nU at a7;obtain ⟨f4,e0⟩ : ∃f4,(aH L st.i).kind=f4:=⟨_,rfl⟩;rw [e0] at a7;have h0:=aA e0;have f8:aG (iD B pa w0 L vL (.slice j g.length k) e w0 ⟨st.i,[],st.pz⟩ (-1) vP (.slice none 0 0) (.slice none 0 0) []):=aA ⟨b5,bT.refl _ _ _,zs _ _ _ _,λd0 d=>by simp at d⟩;have m5:=aA i3;clear b4 i2 b6 q5 b5 i3 a1 q8 n6 o4 e0 h2 d3 q h8;go_upto_if 27 with (first
   |(go_at_call 43;refine (aB a7).mono ?_;rintro n D ⟨rfl,A⟩;have H:=aA (f8.o.below A);have Y:=H.o.pin.box.c1;have Z:=H.o.pin.box.soft 1;clear A)
   |go_in)
  clear f8 a7;obtain ⟨n5,M⟩ : ∃n4,((f4:Int)==102)=n4:=⟨_,rfl⟩;rw [M];go_cut [4] (λc f=>aB1 B pa w0 L a vL (.slice j g.length k) e st c f);case first=>
   cases n5;case true=>
    have F:(aH a st.i).kind=102:=by rw [<-p.kind,h0.o];simp at M;omega
    have q3:=p.more _ j8 (by rw [F];decide) (by rw [F];decide);have J:aG (∀f,iD B pa w0 L vL (.slice j g.length k) e f ⟨st.i+1,[],st.pz⟩ (-1) vP (.slice none 0 0) (.slice none 0 0) []->aB1 B pa w0 L a vL (.slice j g.length k) e st (.slice none 0 0) f):=aA λf m=>⟨_,-1,_,_,[],m,by simp;omega,by
     rw [jY,aJ F];exact ⟨rfl,rfl,rfl,q3,by simp;omega,by simp,by simp [aR],λd0 d=>by simp at d⟩⟩
    clear F M;go_wp2_with fail;go_meet;case rel=>exact J.o _ H.o.setI
   case false=>
    have F:(aH a st.i).kind≠102:=by rw [<-p.kind,h0.o];rw [beq_eq_false_iff_ne] at M;omega
    have f7:aG (jY a st=fD a (a.length+1) ⟨st.i,[],st.pz⟩ []):=aA (by rw [jY,aI F]);have h4:aG (qB B pa w0 L a vL (.slice j g.length k) e ⟨st.i,[],st.pz⟩ (a.length+1) (.slice none 0 0) true D):=aA ⟨_,-1,_,_,[],by simp,H.o,by simp;omega,Or.inl ⟨rfl,j8,by simpa using q4,by simp,by simp,by simp [aR],(λd0 d=>by simp at d),λ_=>⟨a.length+1,by simp;omega,rfl⟩,λm=>by cases m⟩⟩;clear F H Y Z M;go_wp2_with fail;go_loopg [4,5] (a.length+1) (λf3 c r3 wr=>∃a3:Bool,r3=.bool a3/\qB B pa w0 L a vL (.slice j g.length k) e ⟨st.i,[],st.pz⟩ f3 c a3 wr);case atStart=>exact ⟨true,rfl,h4.o⟩
    case round=>
     clear h4;obtain ⟨a3,rfl,b,bad,a4,a5,X,e1,o,t5,p9⟩:=hrel;have Y:=o.pin.box.c1;have h7:=o.pin.box.c2;have Z:=o.pin.box.soft 1;have f9:=aA o;rcases p9 with ⟨rfl,b7,e9,k8,k2,j2,c6,e4,e5⟩|⟨Q,rfl,a2⟩
     ·cases a3 with
      |false=>
       have J:aG (aB1 B pa w0 L a vL (.slice j g.length k) e st _ wr):=aA ⟨b,-1,a4,a5,X,o,by omega,by
        rw [f7.o,e5 rfl];exact ⟨rfl,rfl,rfl,b7,e9,by omega,by omega,c6⟩⟩
       clear o e4 e5 c6;go_wp2_with fail;go_meet;case rel=>exact J.o
      |true=>
       obtain ⟨d7,q0,a2⟩:=e4 rfl;obtain ⟨d7,rfl⟩ : ∃o5,d7=o5+1:=⟨d7-1,by omega⟩;have d4:=aA a2;have h6:=aA c6;have q:=aA (pA B pa b.i (-1) vL a4 _ e a5 L wr o.pin.box o.pin.toks);unfold nU at q;obtain ⟨c7,b8⟩ : ∃c7,(aH L b.i).kind=c7:=⟨_,rfl⟩;rw [b8] at q;rw [p.kind] at b8;have b2:=aA b8;clear o e4 e5 c6 a2 b8;go_upto_if 47 with (first
        |(go_at_call 43;refine (aB q).mono ?_;rintro n w8 ⟨rfl,j0⟩;have S:=aA (f9.o.below j0);have n7:=S.o.pin.box.c1;have o3:=S.o.pin.box.soft 1;clear j0)
        |go_in)
       clear q f9 Y h7 Z;go_cut [6] (λr4 f=>r4=.bool (decide ((aH a b.i).kind=126))/\iD B pa w0 L vL (.slice j g.length k) e f (fJ a b) (-1) a4 a5 _ X);case first=>
        by_cases d8:c7=126
        ·subst d8;have d5:aG (fJ a b=⟨b.i+1,b.vars,b.pz⟩):=aA (by unfold fJ;rw [aJ b2.o]);go_wp2_with fail;go_meet;case rel=>exact ⟨by rw [b2.o];rfl,by rw [d5.o];exact S.o.setI⟩
        ·have d5:aG (fJ a b=b):=aA (by unfold fJ;rw [aI (by rw [b2.o];exact d8)]);have t9:((c7:Int)==126)=false:=by rw [beq_eq_false_iff_ne];omega
         go_wp2_with fail;go_meet;case rel=>exact ⟨by rw [b2.o];simp [d8];omega,by rw [d5.o];exact S.o⟩
       case rest=>
        clear S n7 o3;obtain ⟨rfl,i⟩:=hcut;obtain ⟨l2,l3,rfl⟩:=aW i.row;obtain ⟨u8,u9,r8,r9⟩:=xC a b;have o8:B<=wc.heap.size:=zt d9 i.kept.size;have f6:=aA (m3.o (.slice j g.length k) e (a.length+1) wc.heap.size true (fJ a b) a4 a5 (.slice none 0 0) [] wc i.pin (zs _ _ _ _) o8 (zz _) (aB4 p b7) (by omega) (by omega) (by simp) (by rw [r9];omega) (by rw [r8];omega));have b1:=aA i;clear i;go_wp2_with (first
         |(go_at_call 76;refine (aB f6).mono ?_;rintro n a6 ⟨w7,s0,s1,l4,s4,l1,rfl,k3,e3,j9,j1,u⟩;obtain ⟨r1,r2,rfl⟩:=aW e3;obtain ⟨t,k0⟩:=b1.o.atom k3 j9 e3;have s:=aA t;have h1:=aA k0;have h5:=aA u;have t6:=j1.2.1;have u6:=t.kept.size;clear t k0 u k3 e3 j9 j1)
         |(at_builtin;refine wpList_append_own _ rfl (.tmp 58) (.tmp 62) 41 rfl w0.heap.size 55 q9 (.agg #[.bool false,.slice none 0 0]) 2 32 Tryz.underlying41 p0 p1 p2 p3 rfl (by decide) _ _ _ rfl (s.o.row.alloc _) ⟨_,0,none⟩ 1 1 [.bool (decide ((aH a b.i).kind=126)),.slice r1 l1.length r2] rfl rfl ?c1 ?c2 ?c3 ?c4 ?c5 ?_)
         |go_in)
        try case c1=>exact fS _ _ _ _ _ rfl
        try case c2=>exact sD _ _ _ _
        case c3=>unfold maxLen;omega
        case c4=>omega
        case c5=>simp;omega
        intro v6 d1 e7 j6 _;have a0:=(s.o.below ((Below.refl _ _).alloc (zz _) _)).lit (x:=(decide ((aH a b.i).kind=126),l1)) (h1.o.alloc _) e7 j6;obtain ⟨w1,w5,rfl⟩:=aW e7;have T:=aA a0;have g1:=a0.pin.box.c1;have g2:=a0.pin.box.c2;have s9:=a0.pin.box.soft 1;clear a0 e7 j6 s h1 f6 b1;have u:=h5.o;clear h5;cases d:cJ a (a.length+1) true (fJ a b) [] with
        |error Q=>
         rw [d] at u;simp only at u;subst u;have I:=aA d;clear d;have b6:decide ((Q:Int)<0)=false:=by simp
         go_wp2_with fail;go_roundg (gk-1);case measure=>omega
         case rel=>exact ⟨false,rfl,qB.err e1 (by omega) d4.o I.o rfl (by omega) T.o⟩
        |ok r=>
         obtain ⟨v0,u7⟩:=r;rw [d] at u;simp only at u;obtain ⟨rfl,rfl,rfl⟩:=u;have I:=aA d;clear d;have a8:=aA (pA B pa l4.i (-1) vL s0 _ e s1 L d1 T.o.pin.box T.o.pin.toks);unfold nU at a8;obtain ⟨c8,b9⟩ : ∃c8,(aH L l4.i).kind=c8:=⟨_,rfl⟩;rw [b9] at a8;rw [p.kind] at b9;have V:=aA b9;clear b9;by_cases h9:c8=124
         ·subst h9;go_wp2_with (first
           |(go_at_call 43;refine (aB a8).mono ?_;rintro n l8 ⟨rfl,C⟩;have U:=aA (T.o.below C);have s8:=U.o.pin.box.c1;have t0:=U.o.pin.box.soft 1;clear C)
           |go_in)
          go_roundg (gk-1);case measure=>omega
          case rel=>exact ⟨true,rfl,qB.more p f2 e1 k2 j2 h6.o b7 e9 k8 q0 d4.o (by omega) I.o V.o U.o.setI⟩
         ·have t8:((c8:Int)==124)=false:=by rw [beq_eq_false_iff_ne];omega
          go_wp2_with (first
           |(go_at_call 43;refine (aB a8).mono ?_;rintro n l8 ⟨rfl,C⟩;have U:=aA (T.o.below C);clear C)
           |go_in)
          go_roundg (gk-1);case measure=>omega
          case rel=>exact ⟨false,rfl,qB.stop p f2 e1 k2 j2 h6.o b7 e9 k8 d4.o (by omega) I.o (by rw [V.o];exact h9) U.o⟩
     ·have J:aG (aB1 B pa w0 L a vL (.slice j g.length k) e st _ wr):=aA ⟨b,_,a4,a5,X,o,by omega,by
       rw [f7.o,a2]⟩
      have b6:decide ((Q:Int)<0)=false:=by simp
      clear o a2;cases a3 with
      |true=>
       go_wp2_with fail;go_meet;case rel=>exact J.o
      |false=>
       go_wp2_with fail;go_meet;case rel=>exact J.o
  case rest=>
   clear H Y Z M;obtain ⟨v3,s5,l6,l7,X,y,t7,P⟩:=hcut;have d2:=aA y;have Y:=y.pin.box.c1;have h7:=y.pin.box.c2;have Z:=y.pin.box.soft 1;have G:aG (∀f,bT B w0.heap.size w0 f->Below B w f/\w.heap.size<=f.heap.size):=aA λf m=>⟨m0.o.trans (m.below d9),zt q7 m.size⟩
   cases d:jY a st with
   |error Q=>
    rw [d] at P;simp only at P;subst P;have W:aG (iV a st=.error Q):=aA (by rw [iV,d]);have t2:decide ((Q:Int)<0)=false:=by simp
    clear y d;go_wp2_with fail;go_returns;have E:=d2.o.setI;refine ⟨rfl,(G.o _ E.kept).1,(G.o _ E.kept).2,?_⟩;rw [W.o];exact ⟨_,_,_,_,_,E.pin.box⟩
   |ok r=>
    obtain ⟨b,c⟩:=r;rw [d] at P;simp only at P;obtain ⟨rfl,rfl,rfl,q2,u2,u1,j3,q6⟩:=P;have a9:=aA (pA B pa b.i (-1) vL l6 _ e l7 L wc y.pin.box y.pin.toks);unfold nU at a9;obtain ⟨c9,O⟩ : ∃c9,(aH L b.i).kind=c9:=⟨_,rfl⟩;rw [O] at a9;rw [p.kind] at O;clear y;by_cases i0:c9=46
    ·subst i0;have W:aG (iV a st=.ok (⟨b.i+1,b.vars,b.pz⟩,X.map zy)):=aA (by rw [iV,d];simp only;rw [aJ O]);clear d O;go_wp2_with (first
      |(go_at_call 43;refine (aB a9).mono ?_;rintro n a6 ⟨rfl,z⟩;have i:=(d2.o.below z);have n8:=i.pin.box.c1;have o0:=i.pin.box.soft 1;have t:=i.setI;have n9:=t.pin.box.c2;obtain ⟨l2,l3,rfl,k1⟩:=xB t.row t.atoms q6 j3 (by omega);have f5:=aA (aDt l2 l3 _ _ k1 j3);rw [List.length_map] at f5;have s:=aA t;clear z i t k1)
      |(go_at_call 77;refine (aB f5).mono ?_;rintro n d1 ⟨s2,d6,rfl,i8,f0,i9,A⟩;have c0:B<=(a6.setCell ⟨pa,1,none⟩ (.int .i64 ((b.i:Int)+1))).heap.size:=zt d9 s.o.kept.size;have g0:=aA ((m5.o.keptP s.o.kept (zz _)).below A);have h3:=aA (s.o.pin.below A);have m4:aG (kZ d1 B (d6,s2)):=aA ⟨eJ f0 c0,λd0 d=>eJ (i9 d0 d) c0⟩;have V:=aA (s.o.kept.trans (.of_below A));have s6:=h3.o.box.c4;have o7:B<=d1.heap.size:=zt c0 A.size;have I:=aA i8;obtain ⟨r6,r7,rfl⟩:=aW f0;clear f0 i9 A i8 c0)
      |(at_builtin;refine wpList_append_own _ rfl (.tmp 115) (.tmp 117) 26 rfl B 41 r0 (.slice none 0 0) 1 24 Tryz.underlying26 p4 p5 p6 p7 rfl (by decide) _ _ _ rfl (g0.o.cl.alloc _) ⟨_,0,none⟩ 1 1 [.slice r6 d6.length r7] rfl rfl ?c1 ?c2 ?c3 ?c4 ?c5 ?_)
      |go_in)
     try case c1=>exact nC _ _ _ _ rfl
     try case c2=>intro v4 k7;simp at k7;subst k7;rfl
     case c3=>unfold maxLen;omega
     case c4=>omega
     case c5=>simp;omega
     intro v7 l8 e8 j7 _;obtain ⟨w2,w6,rfl⟩:=aW e8;obtain ⟨v2,g6,i7,i5,C,k9⟩:=aUw h3.o g0.o m4.o o7 e8 j7;have m9:=aA i7;have m7:=aA i5;have m2:=aA C;have n3:=aA k9;clear i7 i5 C k9 e8 j7;go_wp2_with fail;go_returns;refine ⟨rfl,(G.o _ V.o).1.trans m2.o,zt (G.o _ V.o).2 n3.o,?_⟩;rw [W.o,n2.o];exact ⟨_,_,_,_,d6,_,m9.o,m7.o,I.o⟩
    ·have u0:((c9:Int) != 46)=true:=by simp;omega
     have W:aG (iV a st=.error (aH a b.i).pos):=aA (by rw [iV,d];simp only;rw [aI (by rw [O];exact i0)]);have p8:=p.bad _ q2;clear d O;go_wp2_with (first
      |(go_at_call 43;refine (aB a9).mono ?_;rintro n a6 ⟨rfl,z⟩;have i:=d2.o.below z;have l9:=aA (aB6 B pa b.i brk vL l6 _ e l7 L a6 i.pin.box i.pin.toks);have b1:=aA i;clear z i)
      |(go_at_call 44;refine (aB l9).mono ?_;rintro n w9 ⟨rfl,N,j5⟩;rw [p8] at N;have s:=aA (b1.o.wrong N j5);have n8:=N.c1;have n9:=N.c2;have o0:=N.soft 1;clear N j5)
      |go_in)
     go_returns;have E:=s.o.setI;refine ⟨rfl,(G.o _ E.kept).1,(G.o _ E.kept).2,?_⟩;rw [W.o];exact ⟨_,_,_,_,_,E.pin.box⟩
theorem aJ9:dZ []:=λb a=>by simp at a
theorem aUz{a:List Tk}(k:TL L a brk)(hx:sF L a):∀i st c b f,fD a i st c=.ok (b,f)->st.i<a.length->(∀e∈c,dZ e.2)->
  (∀e∈f,dZ e.2)/\st.i<b.i/\b.i<a.length/\aR f<=aR c+(b.i-st.i)/\f.length<=c.length+(b.i-st.i)/\st.pz.length<=b.pz.length/\b.pz.length<=st.pz.length+(b.i-st.i):=by
 intro i;induction i with
 |zero=>intro st c b f d;simp [fD] at d
 |succ i ih=>
  intro st c b f d q s;cases hq:cJ a (a.length+1) true (fJ a st) [] with
  |error p=>rw [yT hq] at d;simp at d
  |ok g=>
   obtain ⟨z,u⟩:=g;obtain ⟨A,C,x,y⟩:=xC a st;have m:=(tS a (a.length+1)).1 _ _ _ _ _ hq;have r:=(aB7 k (a.length+1)).1 _ _ _ _ _ hq (aB4 k q);have t:=(aDx hx (a.length+1)).1 _ _ _ _ _ hq aJ9;rw [x,y] at m;simp only [zr] at m;have n:∀e∈c++[(decide ((aH a st.i).kind=126),u)],dZ e.2:=by
    intro e hx;rcases zx.1 hx with hx|hx
    ·exact s e hx
    ·simp at hx;subst hx;exact t
   by_cases j:(aH a z.i).kind=124
   ·rw [aB2 hq j] at d;have o:=k.more _ r (by rw [j];decide) (by rw [j];decide);have g:=ih _ _ _ _ d o n;rw [nT] at g;simp only [zw,zm] at g;refine ⟨g.1,?_⟩;obtain ⟨_,D,E,F,G,H,I⟩:=g;omega
   ·rw [aB3 hq j] at d;simp only [Except.ok.injEq,Prod.mk.injEq] at d;obtain ⟨rfl,rfl⟩:=d;refine ⟨n,?_⟩;rw [nT];simp only [zw,zm];omega
theorem aDy{b:List Tk}(g:TL L b brk)(e:sF L b){st d:aY}{c:List Lt}(a:iV b st=.ok (d,c))(m:st.i<b.length):(∀j∈c,dZ j.2)/\st.i<d.i/\d.i<b.length/\aR c<=b.length/\c.length<=b.length/\st.pz.length<=d.pz.length/\d.pz.length<=st.pz.length+(d.i-st.i):=by
 unfold iV at a;cases hq:jY b st with
 |error p=>rw [hq] at a;simp at a
 |ok r=>
  obtain ⟨A,z⟩:=r;rw [hq] at a;simp only at a;split at a
  ·rename_i f;simp only [Except.ok.injEq,Prod.mk.injEq] at a;obtain ⟨rfl,rfl⟩:=a;unfold jY at hq;split at hq
   ·rename_i k;have o:=g.more _ m (by rw [k];decide) (by rw [k];decide);simp only [Except.ok.injEq,Prod.mk.injEq] at hq;obtain ⟨rfl,rfl⟩:=hq;have i:=g.more _ o (by rw [f];decide) (by rw [f];decide);refine ⟨λj e=>by simp at e,by simp;omega,i,by simp [aR],by simp,by simp,by simp⟩
   ·obtain ⟨q,s,t,u,x,n,y⟩:=aUz g e _ _ _ _ _ hq m (λj e=>by simp at e);have i:=g.more _ t (by rw [f];decide) (by rw [f];decide);simp only [zr,aR,List.map_nil,List.sum_nil] at s u x n y;refine ⟨q,by simp only;omega,i,?_,by omega,n,by simp only;omega⟩;unfold aR;omega
  ·simp at a
theorem aV0{a:List Tk}(b:(aH a st.i).kind=63):iV a st=.error (aH a st.i).pos:=by
 have e:fJ a ⟨st.i,[],st.pz⟩=⟨st.i,[],st.pz⟩:=by unfold fJ;rw [aI (by simp only;rw [b];decide)]
 have f:cJ a (a.length+1) true (fJ a ⟨st.i,[],st.pz⟩) []=.error (aH a st.i).pos:=by rw [e,cJ,aI (by simp only;rw [b];exact λd=>absurd d.1 (by decide)),aJ (by simp only;rw [b];decide)]
 have g:jY a st=.error (aH a st.i).pos:=by rw [jY,aI (by rw [b];decide)];exact yT f
 rw [iV,g]
theorem aV1(l:List Nd):∀f,dZ l->dZ (dF l f).1:=by
 have j:∀(l:List Nd) (a:List Nd×List Int),dZ l->dZ a.1->dZ (l.foldl cZ a).1:=by
  intro l;induction l with
  |nil=>intro a _ b;exact b
  |cons x r ih=>
   intro a g d;refine ih _ (λk i=>g k (zl _ i)) ?_;have e:=g x (zh ..);unfold cZ;split
   ·split
    ·exact yS d (by first|exact e|(rw [xA];omega))
    ·exact yS d (by first|exact e|(rw [xA];omega))
   ·exact yS d e
 exact λf b=>j l ([],f) b aJ9
theorem aV2(c:List Lt)(d:∀a∈c,dZ a.2):∀a∈(dG c).1,dZ a.2:=by
 have i:∀(c:List Lt) (b:List Lt×List Int),(∀a∈c,dZ a.2)->(∀a∈b.1,dZ a.2)->∀a∈(c.foldl eG b).1,dZ a.2:=by
  intro c;induction c with
  |nil=>intro b _ d;exact d
  |cons y r ih=>
   intro b e f;refine ih _ (λj g=>e j (zl _ g)) ?_;intro a hx;unfold eG at hx;simp only at hx;rcases zx.1 hx with hx|hx
   ·exact f a hx
   ·simp at hx;subst hx;exact aV1 _ _ (e y (zh ..))
 exact i c ([],[]) d (λa hx=>by simp at hx)
theorem aV3(c:List Lt):aR (dG c).1=aR c:=by
 have b:∀(c:List Lt) (a:List Lt×List Int),aR (c.foldl eG a).1=aR a.1+aR c:=by
  intro c;induction c with
  |nil=>intro a;simp [aR]
  |cons y r ih=>
   intro a;rw [List.foldl_cons,ih];unfold eG;simp only;rw [nT];simp only [aR,List.map_cons,List.sum_cons];have:=(uK y.2 a.2).1;omega
 have:=b c ([],[]);simpa [dG,aR] using this
theorem aDz(c:List Lt)(f:∀a∈c,dZ a.2):(∀a∈aU c,dZ a.2)/\aR (aU c)<=aR c/\(aU c).length<=c.length:=by
 obtain ⟨b,d,e⟩:=oY c;refine ⟨aV2 _ λa g=>f a (e a g),?_,?_⟩
 ·unfold aU;rw [aV3];exact d
 ·unfold aU;rw [(oZ _).1];exact b
def jB(b:List (Nat×List Lt))(a:Nat)(d:a<b.length):Prop:=40<=a\/cD (aU b[a].2)=false
def tR(a:List (Nat×List Lt))(i:List (List Lt))(e f:Int):Prop:=
 (∃b d,jB a b d/\(∀g j,g<b->¬jB a g j)/\i=[]/\e=a[b].1/\f=4)\/((∀b d,¬jB a b d)/\i=a.map (λp=>aU p.2)/\e=0/\f=0)
def gI(s:ByteArray)(d:List (List Lt))(a b:Int):Prop:=
 (3000<s.size/\d=[]/\a=0/\b=1)\/(s.size<=3000/\
  match qC s with
  | .error p=>d=[]/\a=p/\b=2
  | .ok (st,cs)=>∃e,oX st.pz e/\((0<=e/\d=[]/\a=e/\b=3)\/(e<0/\tR cs d a b)))
def lK(B:Nat)(w:World)(v:Value)(b:List (List (Lt×Value)×Value)):Prop:=
 w.ownsRow B 41 1 v b.length (b.map zd)/\∀a∈b,kZ w B a/\(∀d∈a.1,dZ d.1.2)/\aR (a.1.map zy)<=1000000/\a.1.length<=1000000
theorem lK.nil(B:Nat)(w:World):lK B w (.slice none 0 0) []:=⟨zs _ _ _ _,λp a=>by simp at a⟩
structure lL(B:Nat)(w:World)(v:Value)(QV:List (List (Lt×Value)×Value)):Prop where
 mem:lK B w v QV
 once:(QV.map λp=>p.2.ownBlock).Nodup
 atoms:(QV.flatMap λp=>p.1.filterMap λq=>q.2.ownBlock).Nodup
theorem lL.nil(B:Nat)(w:World):lL B w (.slice none 0 0) []:=⟨lK.nil _ _,by simp,by simp⟩
