import Derived.Test.YtbpiopdphigodaaGreatDoorGEmpP
import Derived.Test.YtbpiopdphigodaaGreatDoorUWrP
namespace Go.Proofs.YtbpiopdphigodaaGreatDoor
open _root_.Go.Proofs.Tryz renaming prog→zx
open Value renaming ownBlock→zz
open Go.RowKit Go.WideMaps Go.Shelf
set_option maxRecDepth 100000
variable{wd:ByteArray}{xs:List Value}{B B' n:Nat}{e:TypeId}{left v vC vM vP:Value}{a w w':World}
structure bQ(B B' mg:Nat)(w w':World):Prop where
 os:w'.os=w.os
 tape:w'.tape=w.tape
 output:w'.output=w.output
 size:w.heap.size<=w'.heap.size
 block:∀k,k<w.heap.size->(k<B\/(k≠mg/\∀cs T fr,w.heap[k]?=some (.cells cs T fr)->T≠3/\T≠54/\(T=43->k<B')))->w'.heap[k]?=w.heap[k]?
theorem bQ.refl(B B' mg:Nat)(w:World):bQ B B' mg w w:=⟨rfl,rfl,rfl,Nat.le_refl _,λ_ _ _=>rfl⟩
theorem bQ.trans{B B' mg:Nat}{a b c:World}(d:bQ B B' mg a b)(k:bQ B B' mg b c):bQ B B' mg a c:=
 ⟨k.os.trans d.os,k.tape.trans d.tape,k.output.trans d.output,Nat.le_trans d.size k.size,λi g f=>by
  have e:=d.block i g f;rw [k.block i (Nat.lt_of_lt_of_le g d.size) (by rw [e];exact f),e]⟩
theorem bQ.of_below{mg:Nat}(b:aB w w'):bQ B B' mg w w':=⟨b.os,b.tape,b.output,b.size,λk c _=>b.block k c⟩
theorem bQ.below{mg:Nat}(b:bQ B B' mg w w')(d:B<=w.heap.size):Below B w w':=⟨b.os,b.tape,b.output,b.size,λk c=>b.block k (by omega) (Or.inl c)⟩
theorem bQ.mono{d f g:Nat}(b:bQ B f g w w')(p:d<=f):bQ B d g w w':=
 ⟨b.os,b.tape,b.output,b.size,λk r c=>b.block k r (c.imp id λ⟨j,c⟩=>⟨j,λcs T i q=>by
  obtain ⟨l,m,o⟩:=c cs T i q;exact ⟨l,m,λe=>Nat.lt_of_lt_of_le (o e) p⟩⟩)⟩
theorem bQ.grownBox{f:Nat}{d:Nat}{k l:Int}(g:bQ B B' f a w)(i:bM w d left k l wd vC vP vM)(m:B<=d)(b:w.grownBy w' (some d)):bQ B B' f a w':=by
 refine g.trans ⟨b.os,b.tape,b.output,b.size,λk j c=>b.block k j ?_⟩;intro e;simp at e;subst e;rcases c with c|⟨_,c⟩
 ·omega
 ·exact (c _ _ _ i).2.1 rfl
theorem bQ.grownMap{d:Nat}(f:bQ B B' d a w)(j:B<=d)(b:w.grownBy w' (some d)):bQ B B' d a w':=by
 refine f.trans ⟨b.os,b.tape,b.output,b.size,λi g c=>b.block i g ?_⟩;intro e;simp at e;subst e;rcases c with c|⟨c,_⟩
 ·omega
 ·exact c rfl
theorem bQ.grownRow{g d:Nat}{r:Nat}(i:bQ B B' g a w)(p:w.ownsRow d e r v n xs)(x:B<=d)(l:e=3\/e=43/\B'<=d)(b:w.grownBy w' v.ownBlock):bQ B B' g a w':=by
 refine i.trans ⟨b.os,b.tape,b.output,b.size,λq o c=>b.block q o ?_⟩;intro f;obtain ⟨_,⟨rfl,_⟩|⟨u,s,t,rfl,y,m,_⟩⟩:=p
 ·simp [zz] at f
 ·simp [zz] at f;subst f;rcases c with c|⟨_,c⟩
  ·omega
  ·obtain ⟨j,_,k⟩:=c _ _ _ m;rcases l with rfl|⟨rfl,z⟩
   ·exact j rfl
   ·have:=k rfl;omega
theorem bQ.own{k f:Nat}{l:Nat}(p:bQ B B' k w w')(z:w.ownsRow f e l v n xs)(j:e≠3/\e≠54)(y:e=43->w.heap.size<=B')(x:v.ownBlock≠some k):w'.ownsRow f e l v n xs:=by
 obtain ⟨i,⟨rfl,q⟩|⟨g,m,o,rfl,r,c,s,u,C,A⟩⟩:=z
 ·exact ⟨i,Or.inl ⟨rfl,q⟩⟩
 ·have t:=(Array.getElem?_eq_some_iff.1 c).1;refine ⟨i,Or.inr ⟨g,m,o,rfl,r,?_,s,u,C,A⟩⟩;rw [p.block g t (Or.inr ⟨λb=>x (by rw [b];rfl),λE D F d=>?_⟩)]
  ·exact c
  ·rw [c] at d;simp at d;obtain ⟨_,rfl,_⟩:=d;exact ⟨j.1,j.2,λb=>by have:=y b;omega⟩
theorem bM.apart{d:Nat}{k a:Int}(b:bM w d left k a wd vC vP vM){B:Nat}{e:TypeId}{l:Nat}{v:Value}{n:Nat}{xs:List Value}(j:w.ownsRow B e l v n xs)(f:e≠54):v.ownBlock=none\/v.ownBlock≠some d:=by
 obtain ⟨_,⟨rfl,_⟩|⟨g,m,o,rfl,_,i,_⟩⟩:=j
 ·exact Or.inl rfl
 ·right;intro c;simp [zz] at c;subst c;unfold bM at b;rw [i] at b;simp at b;exact f b.2
theorem rJ{l:Nat}{d k:Nat}{f:DataW Unit}(g:w.ownsRow B e l v n xs)(j:w.ownsMap zx 9 mS d k f):v.ownBlock≠some d:=by
 obtain ⟨q,o,i,_⟩:=j;intro b;obtain ⟨_,⟨rfl,_⟩|⟨r,m,p,rfl,_,c,_⟩⟩:=g
 ·simp [zz] at b
 ·simp [zz] at b;subst b;rw [i] at c;cases c
theorem xY{d:Nat}{j a:Int}{c:Nat}{f:DataW Unit}(b:bM w d left j a wd vC vP vM)(i:w.ownsMap zx 9 mS c n f):d≠c:=by obtain ⟨l,k,g,_⟩:=i;rintro rfl;unfold bM at b;rw [g] at b;cases b
structure bS(B:Nat)(w:World)(pb:Nat)(s:ByteArray)(T:List Tk)(st:bA)(g:Nat)(vC vP:Value)(mg:Nat):Prop where
 pp:dF B w pb s T st.i g vC vP (.map (some mg))
 pz:w.ownsRow B 3 1 vP st.pz.length (mT st.pz)
 map:∃D,w.ownsMap zx 9 mS mg st.vars.length D/\oS D st.vars
 mhigh:B<=mg
section
variable {B:Nat}{w w':World}{pb:Nat}{s:ByteArray}{T:List Tk}{i g:Nat}{vC vP vM:Value}
theorem dF.below(d:dF B w pb s T i g vC vP vM)(k:aB w w'):dF B w' pb s T i g vC vP vM:=by obtain ⟨f,j,m,c,b⟩:=d;exact ⟨f,j,m,c,b.sc.below k,b.lt,b.on⟩
theorem dF.box(c:dF B w pb s T i g vC vP vM):∃left,bM w pb left (dN (aH T i).kind) (aH T i).pos (aH T i).txt vC vP vM/\B<=pb:=by obtain ⟨k,j,f,d,b⟩:=c;exact ⟨_,b.sc.box,b.sc.high⟩
theorem dF.lt(b:dF B w pb s T i g vC vP vM):i<T.length:=by obtain ⟨k,j,f,d,c⟩:=b;exact c.lt
theorem dF.far(l:dF B w pb s T i g vC vP vM){d:Option Nat}(f:w.grownBy w' d)(m:d≠some pb)(o:d≠some g):dF B w' pb s T i g vC vP vM:=by obtain ⟨r,j,q,k,b⟩:=l;refine ⟨r,j,q,k,⟨?_,b.sc.high,b.sc.row.kept f (Or.inr λe=>o (by rw [<-e];rfl)),b.sc.len,b.sc.drop,b.sc.le⟩,b.lt,b.on⟩;have c:=b.sc.box;have p:=c.lt;unfold bM at c ⊢;rw [f.block pb p (λe=>m e.symm)];exact c
theorem dF.glyph(d:dF B w pb s T i g vC vP vM):∃b c,w.heap[g]?=some (.cells b 109 c):=by
 obtain ⟨r,p,q,k,f⟩:=d;obtain ⟨_,⟨e,_⟩|⟨o,l,m,e,_,j,_⟩⟩:=f.sc.row
 ·simp at e
 ·simp at e;obtain ⟨rfl,_⟩:=e;exact ⟨_,_,j⟩
end
section
variable {B:Nat}{w w' w2:World}{pb:Nat}{s:ByteArray}{T:List Tk}{st:bA}{g mg:Nat}{vC vP:Value}
theorem bS.below(b:bS B w pb s T st g vC vP mg)(k:aB w w'):bS B w' pb s T st g vC vP mg:=by obtain ⟨c,d,f⟩:=b.map;exact ⟨b.pp.below k,bF b.pz k (Nat.le_refl _),⟨c,d.kept (mJ k none) (by simp),f⟩,b.mhigh⟩
theorem bS.take(b:bS B w pb s T st g vC vP mg){i:Nat}(f:w.grownBy w' (some pb))(l:dF B w' pb s T i g vC vP (.map (some mg))):bS B w' pb s T ⟨i,st.vars,st.pz⟩ g vC vP mg:=by obtain ⟨j,c,k⟩:=b.map;obtain ⟨left,d,_⟩:=b.pp.box;exact ⟨l,b.pz.kept f (d.apart b.pz (by decide)),⟨j,c.kept f (by simpa using λe=>xY d c e.symm),k⟩,b.mhigh⟩
theorem dF.row_apart{m:Nat}(d:dF B w pb s T m g vC vP vM){j:Nat}{e:TypeId}{o:Nat}{v:Value}{n:Nat}{xs:List Value}(i:w.ownsRow j e o v n xs)(f:e≠54/\e≠109):v.ownBlock≠some pb/\v.ownBlock≠some g:=by
 obtain ⟨left,k,_⟩:=d.box;obtain ⟨q,t,c⟩:=d.glyph;constructor
 ·rcases k.apart i f.1 with e|e
  ·rw [e];simp
  ·exact e
 ·intro b;obtain ⟨_,⟨rfl,_⟩|⟨u,p,r,rfl,_,l,_⟩⟩:=i
  ·simp [zz] at b
  ·simp [zz] at b;subst b;rw [l] at c;simp at c;exact f.2 c.2.1
theorem bS.far(b:bS B w pb s T st g vC vP mg){j:Nat}{e:TypeId}{p:Nat}{v:Value}{n:Nat}{xs:List Value}(f:w.ownsRow j e p v n xs)(c:e≠54/\e≠109/\e≠3)(d:w.grownBy w' v.ownBlock):bS B w' pb s T st g vC vP mg:=by obtain ⟨k,i,o⟩:=b.map;obtain ⟨l,m⟩:=b.pp.row_apart f ⟨c.1,c.2.1⟩;exact ⟨b.pp.far d l m,b.pz.kept d (fQ b.pz f c.2.2.symm),⟨k,i.kept d (λe=>rJ f i e.symm),o⟩,b.mhigh⟩
theorem bS.var(b:bS B w pb s T st g vC vP mg){f:List ByteArray}{c:DataW Unit}(i:w.grownBy w' (some mg))(o:w'.ownsMap zx 9 mS mg f.length c)(k:oS c f):bS B w' pb s T ⟨st.i,f,st.pz⟩ g vC vP mg:=by obtain ⟨p,d,x⟩:=b.map;obtain ⟨left,l,_⟩:=b.pp.box;obtain ⟨r,u,m⟩:=b.pp.glyph;refine ⟨b.pp.far i (by simpa using λe=>xY l d e.symm) ?_,b.pz.kept i (Or.inr (rJ b.pz d)),⟨c,o,k⟩,b.mhigh⟩;intro e;simp at e;subst e;obtain ⟨t,q,j,_⟩:=d;rw [m] at j;cases j
theorem bS.place(c:bS B w pb s T st g vC vP mg){v:Value}{p:Pl}(r:w2.ownsRow B 3 1 v (st.pz.length+1) (mT st.pz++[.int .i64 p.2.2.2]))(j:w.grownBy w2 vP.ownBlock):w2.cell? ⟨pb,5,none⟩=some vP/\w2.frozen? ⟨pb,5,none⟩=false/\bS B (w2.setCell ⟨pb,5,none⟩ v) pb s T ⟨st.i,st.vars,st.pz++[p]⟩ g vC v mg:=by
 obtain ⟨k,f,q⟩:=c.map;obtain ⟨l,m⟩:=c.pp.row_apart c.pz (by decide);obtain ⟨x,t,u,o,b⟩:=c.pp.far j l m;have d:=b.sc.box;have i:=f.kept j (λe=>rJ c.pz f e.symm);refine ⟨d.c5,d.soft 5,⟨⟨x,t,u,o,⟨heap_setCell_same w2 pb 5 _ _ _ d,b.sc.high,d.row b.sc.row (by decide) _ _,b.sc.len,b.sc.drop,b.sc.le⟩,b.lt,b.on⟩,d.row ?_ (by decide) _ _,⟨k,i.setCell (λe=>xY d i e.symm) _,q⟩,c.mhigh⟩⟩;rw [aVg,List.length_append];exact r
end
theorem aF1{C D:Nat}{d f:Int}{b c:List Nd}(g:kR B C D (aW d b++aW f c) w)(N:aN b 1=true)(O:aN c 1=true)(L:∀E∈aW d b++aW f c,E.2.1.size<=140737488355328)(a5:(aW d b++aW f c).length<=1000000):Calls zx 125 #[.pointer (some ⟨C,0,none⟩),.int .i64 ((0:Nat):Int),.int .i64 b.length] w λe w'=>∃x:Bool,e=.returned (.bool x)/\Below B w w'/\oV none w w'/\
   (x=true->∃b2,gO B C D b2 (aW d b++aW f c) 0 b.length [] [] w')/\(x=false->∀A:List (Int×Lt),(∀i∈A,aN i.2.2 1=true)->¬wT ((aW d b++aW f c)++bL A) 0 b.length):=by
 obtain ⟨G,Q,R,S,j⟩:=g.tm;have M:(aW d b++aW f c).map Prod.snd=b++c:=by rw [List.map_append,zN,zN]
 have m:((aW d b++aW f c).map Prod.snd).length=(aW d b++aW f c).length:=by simp
 have k:(aW d b++aW f c).length=b.length+c.length:=by simp
 have c2:0<b.length:=by
  cases b with
  |nil=>simp [aN] at N
  |cons=>simp
 have c3:0<c.length:=by
  cases c with
  |nil=>simp [aN] at O
  |cons=>simp
 have a4:=j.toIn (by rw [mD];simp) (by simp) (by rw [m];exact a5) (λn a6=>by obtain ⟨E,b0,rfl⟩:=List.mem_map.1 a6;exact L E b0);refine (aX8 B C G Q R S _ ((aW d b++aW f c).map Prod.snd) _ (bG (aW d b++aW f c)) _ g.whole (aD5 _) (aWj _) (aWi _) _ 0 b.length w a4 (by rw [m,k];omega) (by rw [m,k];omega)).mono ?_;rintro e w' ⟨x,rfl,i⟩;have J:∀{v:Value} {n:Nat} {xs:List Value},w.ownsRow B 3 1 v n xs->∀(o:Nat) (r:Array Value) (p:TypeId) (s:Nat×Nat),w.heap[o]?=some (.cells r p s)->p≠3->v.ownBlock≠some o:=by
  intro v n xs a7 o r p s l a0 e;obtain ⟨_,⟨rfl,_⟩|⟨c0,b8,b9,rfl,_,a3,_⟩⟩:=a7
  ·simp [zz] at e
  ·simp [zz] at e;subst e;rw [a3] at l;simp at l;exact a0 l.2.1.symm
 refine ⟨x,rfl,i.low,λo r p s l I _ _=>i.keep o (Array.getElem?_eq_some_iff.1 l).1 (J j.rl o r p s l I) (J j.rs o r p s l I),λz=>?_,λz A a9 b1=>?_⟩
 ·obtain ⟨T,U,y,X,F,b3,b4,b5,P,b6,b7⟩:=i.st z;have Z:(λt u=>y t=y u)=eX (aW d b++aW f c) 0 b.length:=by
   funext t u
   exact propext (P t u)
  have H:=(i.yes.1 z).2;have Y:kA (aJ ((aW d b++aW f c).map Prod.snd)) (eX (aW d b++aW f c) 0 b.length):=Cl.isDown _ _;have a1:=bY.same Y H (Cl.base (Or.inr ⟨rfl,rfl⟩));have a2:∀q,q<(aW d b++aW f c).length->bY (aJ ((aW d b++aW f c).map Prod.snd)) (λt u=>y t=y u) q:=by
   intro q a8;rw [Z];rw [k] at a8;by_cases c1:q<b.length
   ·refine aJ7 (λ_=>Cl.refl _) g.whole (i:=0) (by rw [m,k];omega) H q (Nat.zero_le _) ?_;rw [M,List.drop_zero,yU b 1 c N];omega
   ·refine aJ7 (λ_=>Cl.refl _) g.whole (i:=b.length) (by rw [m,k];omega) a1 q (by omega) ?_;have:=yU c 1 [] O;rw [List.append_nil] at this;rw [M,List.drop_left,this];omega
  refine ⟨G.ownBlock,⟨⟨G,Q,R,S,T,y,X,U,rfl,F.toRaw j.ne j.nl j.ns,⟨g.whole,by rw [F.lf,m],by rw [F.ls,m],b3,b4,b5,P,b6,b7,by rw [k];omega,by rw [k];omega⟩,a2,aO.nil⟩,by simp,g.first.at (i.keep D g.first.lt (pS j.rl g.first) (pS j.rs g.first)),Nat.le_trans g.big i.size,g.ne,g.mlow,L⟩⟩
 ·obtain ⟨V,W⟩:=aXr A a9 g.whole b1;have:=i.yes.2 ⟨V,W 0 (by rw [k];omega)⟩;rw [z] at this;cases this
