import Derived.Test.YthjhkgohninpcaaGreatDoorGNumM
import Derived.Test.YthjhkgohninpcaaGreatDoorONumberM
open List renaming map_singleton→zu,map_append→zq,length_append→zo,getElem_mem→zi
open Nat renaming le_refl→zz,zero_le→zs,lt_of_lt_of_le→zn,le_trans→zl
open Or renaming inr→zm
open Prod renaming fst→zy
namespace Go.Proofs.YthjhkgohninpcaaGreatDoor
open _root_.Go.Proofs.Tryz renaming prog→zx,underlying41→zk,underlying67→zj
open World renaming ownsRow_nil→zw,cell?→zv,setCell_alloc_past→zr,setCell→zp
open Go.RowKit Go.WideMaps Go.Shelf
set_option maxHeartbeats 4000000
set_option maxRecDepth 100000
variable{s:ByteArray}{T:List Tk}{B g lb mg pb tp:Nat}{e:TypeId}{v vC vP vl:Value}{w w' w1 w3:World}{s1 st:aY}
def aOw(B pb:Nat)(w:World)(s:ByteArray)(T:List Tk)(g:Nat)(vC:Value)(mg:Nat)(k:Except Nat (aY×List Lt))(e:Ending)(w':World):Prop:=
 cB B w.heap.size mg w w'/\
  match k with
  | .ok (s1,b)=>∃a f vP,e=.returned (.tuple #[f,.bool true])/\cE B w' pb s T s1 g vC vP mg/\w'.ownsRow w.heap.size 55 2 f a.length (bS a)/\(∀c∈a,w'.ownsRow w.heap.size 106 2 c.2 c.1.2.length (aP c.1.2))/\a.map zy=b
  | .error p=>∃i j b d vP l,e=.returned (.tuple #[.slice i j b,.bool false])/\eD B w' pb s T d g vC vP l/\(aH T d).pos=p
structure LLq(B pb:Nat)(w:World)(s:ByteArray)(T:List Tk)(g:Nat)(vC:Value)(mg:Nat)(r:Except Nat (aY×List Lt))(k:Nat)(vc:Value)(wr:World)(st:aY)(P:List (Lt×Value))(vP:Value):Prop where
 q:cE B wr pb s T st g vC vP mg
 kept:cB B w.heap.size mg w wr
 row:wr.ownsRow w.heap.size 55 2 vc P.length (bS P)
 atoms:∀q∈P,wr.ownsRow w.heap.size 106 2 q.2 q.1.2.length (aP q.1.2)
 eq:r=fD T k st (P.map zy)
 fuel:T.length<st.i+k
 pl:st.pz.length<=st.i
 vs:st.vars.length<=st.i
 few:P.length<=st.i
section
variable {B pb:Nat}{w w1 w2 w3:World}{s:ByteArray}{T:List Tk}{g:Nat}{vC vP vc:Value}{mg:Nat}{st:aY}{P:List (Lt×Value)}
theorem yD{d:aY}(i:cE B w1 pb s T d g vC vP mg)(n:cB B w.heap.size mg w w1)(k:w1.ownsRow w.heap.size 55 2 vc P.length (bS P))(f:∀a∈P,w1.ownsRow w.heap.size 106 2 a.2 a.1.2.length (aP a.1.2)){l:Nat}(b:w1.grownBy w2 (some pb))(o:eD B w2 pb s T l g vC vP (.map (some mg))):cE B w2 pb s T ⟨l,d.vars,d.pz⟩ g vC vP mg/\cB B w.heap.size mg w w2/\w2.ownsRow w.heap.size 55 2 vc P.length (bS P)/\(∀a∈P,w2.ownsRow w.heap.size 106 2 a.2 a.1.2.length (aP a.1.2)):=by
 obtain ⟨left,c,m⟩:=i.pp.box;exact ⟨i.take b o,n.grownBox c m b,k.kept b (c.apart k (by decide)),λa j=>(f a j).kept b (c.apart (f a j) (by decide))⟩
theorem aGt{n:aY}{b:List Nd}(m:cE B w1 pb s T n g vC vP mg)(c:cB B w.heap.size mg w w1)(k:w1.ownsRow w.heap.size 55 2 vc P.length (bS P))(f:∀a∈P,w1.ownsRow w.heap.size 106 2 a.2 a.1.2.length (aP a.1.2))(d:cB B w1.heap.size mg w1 w2)(l:w2.ownsRow w1.heap.size 106 2 vl b.length (aP b)):cB B w.heap.size mg w w2/\w2.ownsRow w.heap.size 55 2 vc P.length (bS P)/\(∀a∈P,w2.ownsRow w.heap.size 106 2 a.2 a.1.2.length (aP a.1.2))/\w2.ownsRow w.heap.size 106 2 vl b.length (aP b):=by
 obtain ⟨o,i,_⟩:=m.map;exact ⟨c.trans (d.mono c.size),d.own k (by decide) (by intro e;exact absurd e (by decide)) (tF k i),λa j=>d.own (f a j) (by decide) (λ_=>zz _) (tF (f a j) i),eJ l c.size⟩
theorem aGu{n:aY}{o:Value}{x:Lt}{j:Obj}(y:cE B w2 pb s T n g vC vP mg)(r:cB B w.heap.size mg w w2)(z:w2.ownsRow w.heap.size 55 2 vc P.length (bS P))(p:∀a∈P,w2.ownsRow w.heap.size 106 2 a.2 a.1.2.length (aP a.1.2))(t:w2.ownsRow w.heap.size 106 2 vl x.2.length (aP x.2))
  (u:w3.ownsRow w.heap.size 55 2 o (P.length+1) (bS P++[.bool x.1,vl])) (b:(w2.alloc j).grownBy w3 vc.ownBlock):cE B w3 pb s T n g vC vP mg/\cB B w.heap.size mg w w3/\w3.ownsRow w.heap.size 55 2 o (P++[(x,vl)]).length (bS (P++[(x,vl)]))/\(∀a∈P++[(x,vl)],w3.ownsRow w.heap.size 106 2 a.2 a.1.2.length (aP a.1.2)):=by
 have d:=(Below.refl w2.heap.size w2).alloc (zz _) j;have f:=bB z d (zz _);have k:=λa hq'=>bB (p a hq') d (zz _)
 have m:=bB t d (zz _);refine ⟨(y.below d).far f (by decide) b,?_,by rw [aAw,zo];exact u,λa hq'=>?_⟩
 ·have c:=r.trans (cB.of_below (B:=B) (B':=w.heap.size) (mg:=mg) d);exact ⟨b.os.trans c.os,b.tape.trans c.tape,b.output.trans c.output,zl c.size b.size,λi l q=>by
   rw [b.block i (zn l c.size) (λe=>by have:=(bL f i e.symm).1;omega),c.block i l q]⟩
 ·rcases List.mem_append.1 hq' with hq'|hq'
  ·exact (k a hq').kept b (bW (k a hq') f (by decide))
  ·simp at hq';subst hq';exact m.kept b (bW m f (by decide))
theorem aOx(a4:∀S,(aH T S).kind∈iO)(a9:∀S,(aH T S).txt.size<=1000000)(R:s.size<=3000)(b9:T.length<=1000000)(Z:cE B w pb s T st g vC vP mg)(b8:B<=w.heap.size)(f:st.pz.length<=st.i)(a8:st.vars.length<=st.i):Calls zx 91 #[.pointer (some ⟨pb,0,none⟩)] w λe w'=>aOw B pb w s T g vC mg (fD T (T.length+1) st []) e w':=by
 obtain ⟨b0,a0,a1,a2,a3⟩:=info_parts sC;have L:aG (LLq B pb w s T g vC mg (fD T (T.length+1) st []) (T.length+1) (.slice none 0 0) w st [] vP):=aA ⟨Z,cB.refl _ _ _ _,zw _ _ _ _,λd8 k=>by simp at k,rfl,by omega,f,a8,by simp⟩;obtain ⟨u,O⟩ : ∃u,fD T (T.length+1) st []=u:=⟨_,rfl⟩;rw [O] at L;simp only [O];have N:=aA a4;have b7:=aA a9;clear Z O a4 a9 f a8;go_enter Tryz.func91,Tryz.ntmps91;go_wp2;go_loopg [4] (T.length+1) (λc4 vc wr=>∃z P W,LLq B pb w s T g vC mg u c4 vc wr z P W);case atStart=>exact ⟨st,[],vP,L.o⟩
 case round=>
  clear L;obtain ⟨z,P,W,j⟩:=hrel;have d3:=j.q.pp.lt;have d2:=j.fuel;have d4:=j.pl;have d5:=j.vs;have d1:=j.few;obtain ⟨J,rfl⟩ : ∃J,gk=J+1:=⟨gk-1,by omega⟩;obtain ⟨e2,e3,rfl⟩:=aW j.row;obtain ⟨d9,e0,b1,b2⟩:=xC T z;have C:=aA (mL 126 (by decide) (by decide) (by decide) N.o R j.q.pp);rw [show eF 126=126 from rfl] at C;have D:=aA (λw1 (c0:w.heap.size<=w1.heap.size) (c2:cE B w1 pb s T (fJ T z) g vC W mg)=>aPt N.o b7.o R b9 c2 (zl b8 c0) (by rw [b2];omega) (by rw [b1];omega));have b:=aA j;obtain ⟨l,Q⟩ : ∃l,decide ((aH T z.i).kind=126)=l:=⟨_,rfl⟩;rw [Q] at C;have X:=aA Q;clear j Q;cases k:cJ T (T.length+1) true (fJ T z) [] with
  |error p=>
   rw [k] at D;have E:aG (u=.error p):=aA (by rw [b.o.eq,yT k]);clear k;go_wp2_with (first
    |(go_at_call 127;refine (D.o _ a.o.2.1.size a.o.1).mono ?_;rintro e w2 ⟨o,c9,d7,d0,d6,b3,e1,rfl,a6,a7⟩;have b4:=aA (a.o.2.1.trans (o.mono a.o.2.1.size));have b5:=aA a6;have b6:=aA a7;clear o a6 a7)
    |(go_at_call 90;refine (aB C).mono ?_;rintro e w1 ⟨rfl,n,f⟩;have a:=aA (yD b.o.q b.o.kept b.o.row b.o.atoms n f);clear n f)
    |go_in)
   go_ret2;refine ⟨b4.o,?_⟩;rw [E.o];exact ⟨_,_,_,_,_,_,rfl,b5.o,b6.o⟩
  |ok y=>
   obtain ⟨m,t⟩:=y;have a5:=(tS T (T.length+1)).1 _ _ _ _ _ k;simp only [List.length_nil] at a5;rw [b1,b2] at a5;rw [k] at D;have Y:=aA k;clear k;have A:=aA (λw3 vP3 (c1:eD B w3 pb s T m.i g vC vP3 (.map (some mg)))=>mL 124 (by decide) (by decide) (by decide) N.o R c1);rw [show eF 124=124 from rfl] at A;by_cases x:(aH T m.i).kind=124
   ·rw [aJ x,eI x] at A;have E:aG (∀vl,u=fD T J ⟨m.i+1,m.vars,m.pz⟩ ((P++[((l,t),vl)]).map zy)):=aA (λvl=>by rw [b.o.eq,aB2 Y.o x,X.o,zq,zu]);go_wp2_with (first
     |(go_at_call 90;refine (A.o _ _ d.o.1.pp).mono ?_;rintro e c8 ⟨rfl,G,H⟩;have i:=aA (yD d.o.1 d.o.2.1 d.o.2.2.1 d.o.2.2.2 G H);clear G H)
     |(at_builtin;refine wpList_append_own _ rfl (.tmp 17) (.tmp 21) 41 rfl w.heap.size 55 b0 (.agg #[.bool false,.slice none 0 0]) 2 32 zk a0 a1 a2 a3 rfl (by decide) _ _ _ rfl (c.o.2.1.alloc _) ⟨_,0,none⟩ 1 1 [.bool l,.slice U t.length V] rfl rfl (fS w2 _ _ _ _ rfl) (sD _ _ _ _) (by unfold maxLen;omega) (by omega) (by simp;omega) ?_;intro c5 w3 r F _;have d:=aA (aGu (x:=(l,t)) M.o c.o.1 c.o.2.1 c.o.2.2.1 c.o.2.2.2 r F);obtain ⟨c6,c7,rfl⟩:=aW r;clear r F)
     |(go_at_call 127;refine (D.o _ a.o.2.1.size a.o.1).mono ?_;rintro e w2 ⟨o,vl,b3,rfl,I,q⟩;obtain ⟨U,V,rfl⟩:=aW q;have c:=aA (aGt a.o.1 a.o.2.1 a.o.2.2.1 a.o.2.2.2 o q);have M:=aA I;have c3:=c.o.1.size;clear o I q)
     |(go_at_call 90;refine (aB C).mono ?_;rintro e w1 ⟨rfl,n,f⟩;have a:=aA (yD b.o.q b.o.kept b.o.row b.o.atoms n f);clear n f)
     |go_in)
    go_roundg J;case measure=>omega
    case rel=>exact ⟨⟨m.i+1,m.vars,m.pz⟩,P++[((l,t),_)],_,i.o.1,i.o.2.1,i.o.2.2.1,i.o.2.2.2,E.o _,by simp;omega,by simp;omega,by simp;omega,by simp;omega⟩
   ·rw [aI x,dE x] at A;have E:aG (∀vl,u=.ok (m,(P++[((l,t),vl)]).map zy)):=aA (λvl=>by rw [b.o.eq,aB3 Y.o x,X.o,zq,zu]);go_wp2_with (first
     |(go_at_call 90;refine (A.o _ _ d.o.1.pp).mono ?_;rintro e c8 ⟨rfl,G,H⟩;have i:=aA (yD d.o.1 d.o.2.1 d.o.2.2.1 d.o.2.2.2 G H);clear G H)
     |(at_builtin;refine wpList_append_own _ rfl (.tmp 17) (.tmp 21) 41 rfl w.heap.size 55 b0 (.agg #[.bool false,.slice none 0 0]) 2 32 zk a0 a1 a2 a3 rfl (by decide) _ _ _ rfl (c.o.2.1.alloc _) ⟨_,0,none⟩ 1 1 [.bool l,.slice U t.length V] rfl rfl (fS w2 _ _ _ _ rfl) (sD _ _ _ _) (by unfold maxLen;omega) (by omega) (by simp;omega) ?_;intro c5 w3 r F _;have d:=aA (aGu (x:=(l,t)) M.o c.o.1 c.o.2.1 c.o.2.2.1 c.o.2.2.2 r F);obtain ⟨c6,c7,rfl⟩:=aW r;clear r F)
     |(go_at_call 127;refine (D.o _ a.o.2.1.size a.o.1).mono ?_;rintro e w2 ⟨o,vl,b3,rfl,I,q⟩;obtain ⟨U,V,rfl⟩:=aW q;have c:=aA (aGt a.o.1 a.o.2.1 a.o.2.2.1 a.o.2.2.2 o q);have M:=aA I;have c3:=c.o.1.size;clear o I q)
     |(go_at_call 90;refine (aB C).mono ?_;rintro e w1 ⟨rfl,n,f⟩;have a:=aA (yD b.o.q b.o.kept b.o.row b.o.atoms n f);clear n f)
     |go_in)
    go_ret2;refine ⟨i.o.2.1,?_⟩;rw [E.o];exact ⟨_,_,_,rfl,i.o.1,i.o.2.2.1,i.o.2.2.2,rfl⟩
end
abbrev Pc:=(Nat×List (Lt×Value))×Value
def pW(b:List Pc):List Value:=b.flatMap λa=>[.int .i64 a.1.1,a.2]
theorem aOy(b:List Pc)(a:Pc):pW (b++[a])=pW b++[.int .i64 a.1.1,a.2]:=by simp [pW]
structure gA(B:Nat)(w:World)(vC:Value)(CV:List Pc):Prop where
 row:w.ownsRow B 114 2 vC CV.length (pW CV)
 each:∀p∈CV,kZ w B (p.1.2,p.2)
def jW(a:Pc):Nat×List Lt:=(a.1.1,a.1.2.map zy)
structure tD(B:Nat)(w:World)(pb:Nat)(s:ByteArray)(T:List Tk)(st:aY)(g:Nat)(vC vP:Value)(CV:List Pc):Prop where
 pp:∃vM,eD B w pb s T st.i g vC vP vM
 pz:w.ownsRow B 3 1 vP st.pz.length (nF st.pz)
 cs:gA B w vC CV
theorem gA.keep{c:List Pc}(a:gA B w vC c)(b:∀e j v f k,(e=114\/e=55\/e=106)->(e=114->v=vC)->w.ownsRow B e j v f k->w'.ownsRow B e j v f k):gA B w' vC c:=
 ⟨b _ _ _ _ _ (Or.inl rfl) (λ_=>rfl) a.row,λi d=>⟨b _ _ _ _ _ (zm (Or.inl rfl)) (λe=>absurd e (by decide)) (a.each i d).1,λm l=>b _ _ _ _ _ (zm (zm rfl)) (λe=>absurd e (by decide)) ((a.each i d).2 m l)⟩⟩
theorem gA.below{a:List Pc}(b:gA B w vC a)(k:aC w w'):gA B w' vC a:=
 b.keep λ_ _ _ _ _ _ _ c=>bB c k (zz _)
theorem aCx(a:e=114\/e=55\/e=106):e≠70/\e≠3:=by rcases a with rfl|rfl|rfl<;>decide
theorem gA.take{a:List Pc}{left:Value}{k c:Int}{n:ByteArray}{l m:Value}(d:gA B w vC a)(f:bV w pb left k c n l vP m)(j:w.grownBy w' (some pb)):gA B w' vC a:=
 d.keep λ_ _ _ _ _ i _ b=>b.kept j (f.apart b (aCx i).1)
theorem gA.kept{n:Nat}{a:List Pc}{d:DataW Unit}(f:gA B w vC a)(j:w.ownsMap zx 9 nE mg n d)(i:cB B w.heap.size mg w w'):gA B w' vC a:=
 f.keep λ_ _ _ _ _ b _ c=>i.own c ⟨(aCx b).2,(aCx b).1⟩ (λ_=>zz _) (tF c j)
theorem aA8{c:TypeId}{m:Nat}{l:Nat}{n:List Value}{d:Array Value}{f:Nat×Nat}(k:w.ownsRow B e m v l n)(b:w.heap[lb]?=some (.cells d c f))(i:e≠c):v.ownBlock≠some lb:=by
 intro a;obtain ⟨_,⟨rfl,_⟩|⟨q,o,p,rfl,_,j,_⟩⟩:=k
 ·simp [Value.ownBlock] at a
 ·simp [Value.ownBlock] at a;subst a;rw [j] at b;simp at b;exact i b.2.1
theorem cE.other{l:Array Value}{m:Nat×Nat}(a:cE B w pb s T st g vC vP mg)(b:w.heap[lb]?=some (.cells l 114 m))(d:w.grownBy w' (some lb)):cE B w' pb s T st g vC vP mg:=by
 obtain ⟨k,f,n⟩:=a.map;obtain ⟨left,c,_⟩:=a.pp.box;obtain ⟨p,r,i⟩:=a.pp.glyph;refine ⟨a.pp.far d ?_ ?_,a.pz.kept d (zm (aA8 a.pz b (by decide))),⟨k,f.kept d ?_,n⟩,a.mhigh⟩
 ·intro e;simp at e;subst e;unfold bV at c;rw [b] at c;simp at c
 ·intro e;simp at e;subst e;rw [b] at i;simp at i
 ·intro e;simp at e;subst e;obtain ⟨q,o,j,_⟩:=f;rw [b] at j;cases j
theorem gA.other{a:List Pc}{d:Array Value}{f:Nat×Nat}(i:gA B w vC a)(l:w.heap[lb]?=some (.cells d 114 f))(k:vC.ownBlock≠some lb)(j:w.grownBy w' (some lb)):gA B w' vC a:=
 i.keep λe _ _ _ _ n m c=>c.kept j (zm (by
  by_cases b:e=114
  ·rw [m b];exact k
  ·exact aA8 c l b))
theorem cE.setC(b:cE B w pb s T st g vC vP mg)(v:Value):cE B (w.setCell ⟨pb,4,none⟩ v) pb s T st g v vP mg:=by obtain ⟨f,d,j⟩:=b.map;obtain ⟨m,k,l,i,a⟩:=b.pp;have c:=a.sc.box;exact ⟨⟨m,k,l,i,⟨heap_setCell_same w pb 4 _ _ _ c,a.sc.high,c.row a.sc.row (by decide) _ _,a.sc.len,a.sc.drop,a.sc.le⟩,a.lt,a.on⟩,c.row b.pz (by decide) _ _,⟨f,d.setCell (λe=>aA9 c d e.symm) _,j⟩,b.mhigh⟩
theorem aOz{j:List Pc}(i:tD B w pb s T st g vC vP j)(A:B<=w.heap.size)(d:Array Value){c:World}(n:c=((w.alloc (.cells d 114)).alloc (.map #[] 0)).setCell ⟨pb,6,none⟩ (.map (some (w.heap.size+1)))):cE B c pb s T ⟨st.i,[],st.pz⟩ g vC vP (w.heap.size+1)/\gA B c vC j/\Below B w c/\c.heap[w.heap.size]?=some (.cells d 114):=by
 subst n;have b:=((Below.refl w.heap.size w).alloc (zz _) (.cells d 114)).alloc (by simp) (.map #[] 0);obtain ⟨F,k⟩:=i.pp;obtain ⟨E,o,z⟩:=k.box;have D:=o.lt;have r:=k.below b;obtain ⟨y,u,x,m,a⟩:=r;have f:=a.sc.box;have t:=bB i.pz b (zz _);have p:=i.cs.below b;have q:((w.alloc (.cells d 114)).alloc (.map #[] 0)).ownsMap zx 9 nE (w.heap.size+1) 0 (.map []):=by have:=World.ownsMap_made (P:=zx) (w.alloc (.cells d 114)) 9 nE;simpa using this
 refine ⟨⟨⟨y,u,x,m,⟨heap_setCell_same _ pb 6 _ _ _ f,a.sc.high,f.row a.sc.row (by decide) _ _,a.sc.len,a.sc.drop,a.sc.le⟩,a.lt,a.on⟩,f.row t (by decide) _ _,⟨.map [],q.setCell (λe=>by simp at e;omega) _,pX.start⟩,by omega⟩,p.take f (bX _ _ _),?_,?_⟩
 ·refine ⟨b.os,b.tape,b.output,by simp [zp];omega,λl C=>?_⟩;rw [Below.heap_setCell _ _ _ _ (show l≠pb by omega)];exact b.block l (by omega)
 ·rw [Below.heap_setCell _ _ _ _ (show w.heap.size≠pb by omega)];show ((w.heap.push _).push _)[w.heap.size]?=_;rw [Array.getElem?_push_lt (by simp)];simp
theorem aGv{f:World}{i:Value}{k:List Pc}{r:Obj}{t:Nat}{q:List (Lt×Value)}(d:cE B f pb s T st g vC vP mg)(z:gA B f vC k)(l:Below B w f)(G:B<=w.heap.size)(y:kZ f B (q,vl))(C:w3.ownsRow B 114 2 i (k.length+1) (pW k++[.int .i64 t,vl]))(c:(f.alloc r).grownBy w3 vC.ownBlock):w3.cell? ⟨pb,4,none⟩=some vC/\w3.frozen? ⟨pb,4,none⟩=false/\cE B (w3.setCell ⟨pb,4,none⟩ i) pb s T st g i vP mg/\gA B (w3.setCell ⟨pb,4,none⟩ i) i (k++[((t,q),vl)])/\Below B w (w3.setCell ⟨pb,4,none⟩ i):=by
 have b:=(Below.refl f.heap.size f).alloc (zz _) r;have n:=z.below b;have D:=d.below b;have x:=D.far n.row (by decide) c;obtain ⟨left,m,F⟩:=x.pp.box;have H:=l.size;have u:∀a∈k++[((t,q),vl)],kZ w3 B (a.1.2,a.2):=by
  intro a hp;have p:kZ (f.alloc r) B (a.1.2,a.2):=by
   rcases List.mem_append.1 hp with hp|hp
   ·exact n.each a hp
   ·simp at hp;subst hp;exact ⟨bB y.1 b (zz _),λj d=>bB (y.2 j d) b (zz _)⟩
  exact ⟨p.1.kept c (bW p.1 n.row (by decide)),λj d=>(p.2 j d).kept c (bW (p.2 j d) n.row (by decide))⟩
 refine ⟨m.c4,m.soft 4,x.setC i,⟨?_,λa hp=>⟨m.row (u a hp).1 (by decide) _ _,λj d=>m.row ((u a hp).2 j d) (by decide) _ _⟩⟩,?_⟩
 ·refine m.row ?_ (by decide) _ _;rw [aOy,zo];exact C
 ·have E:=c.size;simp at E;refine ⟨c.os.trans (b.os.trans l.os),c.tape.trans (b.tape.trans l.tape),c.output.trans (b.output.trans l.output),by simp [zp];omega,λo A=>?_⟩;rw [Below.heap_setCell _ _ _ _ (show o≠pb by omega),c.block o (by simp;omega) (λe=>by have:=(bL n.row o e.symm).1;omega),b.block o (by omega),l.block o A]
def aGw(B pb:Nat)(w:World)(s:ByteArray)(T:List Tk)(g:Nat)(d:List Pc)(f:Nat)(i:Except Nat (aY×List Lt))(e:Ending)(w':World):Prop:=
 Below B w w'/\
  match i with
  | .ok (s1,c)=>∃vC vP a vl,e=.returned (.bool true)/\tD B w' pb s T s1 g vC vP (d++[((f,a),vl)])/\a.map zy=c
  | .error p=>∃b vC vP j,e=.returned (.bool false)/\eD B w' pb s T b g vC vP j/\(aH T b).pos=p
section
variable {B pb:Nat}{s:ByteArray}{T:List Tk}{g:Nat}{vC vP:Value}{st:aY}{w:World}{CV:List Pc}
theorem aGx(d:Int)(c:Option Addr)(i f:Nat):∀b∈[Value.int .i64 d,Value.slice c i f],b.oneCell'=true:=by intro b a;simp at a;rcases a with rfl|rfl<;>rfl
theorem aGy:(zx.info? 114).map (λa=>(a.zero,a.size,a.bytes))=some (some (.agg #[.int .i64 0,.slice none 0 0]),2,32):=by kernel_rfl
theorem aGz{i n:World}{a:aY}{o:Bool}{f m:Value}{j:List (Lt×Value)}{e:Ending}(y:B<=w.heap.size)(x:jY T st=.ok (a,j.map zy))(c:decide ((aH T a.i).kind=46)=o)(l:cE B i pb s T a g f m mg)(u:gA B i f (CV++[((tp,j),vl)]))(p:Below B w i)(k:i.grownBy n (some pb))(d:eD B n pb s T (if (aH T a.i).kind=46 then a.i+1 else a.i) g f m (.map (some mg)))(r:e=.returned (.bool o)):aGw B pb w s T g CV tp (iV T st) e n:=by
 obtain ⟨left,q,t⟩:=l.pp.box;have z:=p.size;refine ⟨p.grown k (by omega) (by simpa using t),?_⟩;unfold iV;rw [x];simp only;by_cases b:(aH T a.i).kind=46
 ·rw [aJ b] at d ⊢;rw [eI b] at c;subst c;exact ⟨f,m,j,vl,r,⟨⟨_,d⟩,l.pz.kept k (q.apart l.pz (by decide)),u.take q k⟩,rfl⟩
 ·rw [aI b] at d ⊢;rw [dE b] at c;subst c;exact ⟨_,_,_,_,r,d,rfl⟩
structure tE(B pb:Nat)(w w1:World)(s:ByteArray)(T:List Tk)(st:aY)(g:Nat)(vC vP:Value)(mg:Nat)(CV:List Pc)(lb tp:Nat)(v:Value):Prop where
 q:cE B w1 pb s T st g vC vP mg
 cs:gA B w1 vC CV
 low:Below B w w1
 box:w1.heap[lb]?=some (.cells #[.int .i64 tp,v] 114)
 size:B<=w1.heap.size
theorem aP0{a:World}(i:cE B a pb s T s1 g vC vP mg)(l:gA B a vC CV)(f:Below B w a)(n:B<=w.heap.size)(d:a.heap[lb]?=some (.cells #[.int .i64 tp,v] 114)){j:Nat}(b:a.grownBy w1 (some pb))(m:eD B w1 pb s T j g vC vP (.map (some mg))):tE B pb w w1 s T ⟨j,s1.vars,s1.pz⟩ g vC vP mg CV lb tp v:=by
 obtain ⟨left,c,k⟩:=i.pp.box;have o:=f.size;have p:=b.size;refine ⟨i.take b m,l.take c b,f.grown b (by omega) (by simpa using k),?_,by omega⟩;rw [b.block lb (Array.getElem?_eq_some_iff.1 d).1 ?_]
 ·exact d
 ·intro e;simp at e;subst e;unfold bV at c;rw [d] at c;simp at c
theorem tE.boxKept(a:tE B pb w w1 s T s1 g vC vP mg CV lb tp v)(d:cB B w1.heap.size mg w1 w3):w3.heap[lb]?=some (.cells #[.int .i64 tp,v] 114):=by
 rw [d.block lb (Array.getElem?_eq_some_iff.1 a.box).1 (zm ⟨?_,λj m l b=>?_⟩)]
 ·exact a.box
 ·rintro rfl;obtain ⟨f,⟨k,i,c,_⟩,_⟩:=a.q.map;have:=a.box;rw [c] at this;cases this
 ·rw [a.box] at b;simp at b;obtain ⟨_,rfl,_⟩:=b;exact ⟨by decide,by decide,λe=>absurd e (by decide)⟩
theorem tE.err(b:tE B pb w w1 s T s1 g vC vP mg CV lb tp v)(t:B<=w.heap.size)(o:B<=lb)(i:cB B w1.heap.size mg w1 w3){k:Nat}{n m:Value}(d:eD B w3 pb s T k g vC n m)(l:Value):w3.cell? ⟨lb,1,none⟩=some v/\w3.frozen? ⟨lb,1,none⟩=false/\Below B w (w3.setCell ⟨lb,1,none⟩ l)/\eD B (w3.setCell ⟨lb,1,none⟩ l) pb s T k g vC n m:=by
 have a:=b.boxKept i;obtain ⟨left,c,r⟩:=d.box;obtain ⟨p,q,f⟩:=d.glyph;have j:=b.low.trans (i.below b.size);have u:=j.size;refine ⟨by unfold zv;rw [a];rfl,by unfold World.frozen?;rw [a];rfl,j.grown (bX _ _ _) (by omega) (by simpa using o),d.far (bX _ _ _) ?_ ?_⟩
 ·intro e;simp at e;subst e;unfold bV at c;rw [a] at c;simp at c
 ·intro e;simp at e;subst e;rw [a] at f;simp at f
theorem tE.ok{o:aY}(b:tE B pb w w1 s T s1 g vC vP mg CV lb tp v)(y:B<=w.heap.size)(q:B<=lb)(t:vC.ownBlock≠some lb)(i:cB B w1.heap.size mg w1 w3){p f:Value}{P:List (Lt×Value)}(u:cE B w3 pb s T o g vC p mg)(m:w3.ownsRow w1.heap.size 55 2 f P.length (bS P))(j:∀d∈P,w3.ownsRow w1.heap.size 106 2 d.2 d.1.2.length (aP d.1.2)):w3.cell? ⟨lb,1,none⟩=some v/\w3.frozen? ⟨lb,1,none⟩=false/\tE B pb w (w3.setCell ⟨lb,1,none⟩ f) s T o g vC p mg CV lb tp f/\kZ (w3.setCell ⟨lb,1,none⟩ f) B (P,f):=by
 have a:=b.boxKept i;obtain ⟨x,r,_⟩:=b.q.map;have k:=b.low.trans (i.below b.size);have z:=k.size;have c:=bX w3 ⟨lb,1,none⟩ f;have n:=b.size;refine ⟨by unfold zv;rw [a];rfl,by unfold World.frozen?;rw [a];rfl,⟨u.other a c,(b.cs.kept r i).other a t c,k.grown c (by omega) (by simpa using q),heap_setCell_same w3 lb 1 _ _ _ a,by have:=c.size;omega⟩,(eJ m n).kept c (zm (aA8 m a (by decide))),λd l=>(eJ (j d l) n).kept c (zm (aA8 (j d l) a (by decide)))⟩
theorem aP1(e1:∀c7,(aH T c7).kind∈iO)(f6:∀c7,(aH T c7).txt.size<=1000000)(a8:s.size<=3000)(i1:T.length<=1000000)(a6:tD B w pb s T st g vC vP CV)(O:B<=w.heap.size)(c:st.pz.length<=st.i)(j1:CV.length<=st.i):Calls zx 51 #[.pointer (some ⟨pb,0,none⟩)] w λe w'=>aGw B pb w s T g CV (aH T st.i).pos (iV T st) e w':=by
 have j3:=@run_makeMap zx;obtain ⟨j7,c3⟩:=a6.pp;have j2:=c3.lt;obtain ⟨left,Q,_⟩:=c3.box;have c1:=Q.c2;have d5:∀d,(w.alloc d).cell? ⟨pb,2,none⟩=some (.int .i64 (aH T st.i).pos):=λd=>aD ((Below.refl w.heap.size w).alloc (zz _) d) c1
 have h5:=Q.c6;have h7:=Q.soft 6;have f1:=Q.lt;obtain ⟨b1,b2,rfl⟩:=aW a6.cs.row;have d1:=aA a6;have a5:=aA e1;have g0:=aA f6;clear a6 Q c3 e1 f6;obtain ⟨tp,a9⟩ : ∃tp,(aH T st.i).pos=tp:=⟨_,rfl⟩;rw [a9] at c1;simp only [a9] at d5 ⊢;have j0:=aA a9;clear a9;go_enter Tryz.func51,Tryz.ntmps51;go_upto_region 3 with (fail);have e2:((w.setCell ⟨pb,6,none⟩ (.map (some (w.heap.size+1)))).alloc (.cells #[.int .i64 tp,.slice none 0 0] 114)).alloc (.map #[] 0)=((w.alloc (.cells #[.int .i64 tp,.slice none 0 0] 114)).alloc (.map #[] 0)).setCell ⟨pb,6,none⟩ (.map (some (w.heap.size+1))):=by rw [zr _ _ _ _ (by simp;omega),zr _ _ _ _ f1]
 have f4:=aOz d1.o O #[.int .i64 tp,.slice none 0 0] e2;have f5:w.heap.size<(((w.setCell ⟨pb,6,none⟩ (.map (some (w.heap.size+1)))).alloc (.cells #[.int .i64 tp,.slice none 0 0] 114)).alloc (.map #[] 0)).heap.size:=by simp [zp];omega
 generalize ((w.setCell ⟨pb,6,none⟩ (.map (some (w.heap.size+1)))).alloc (.cells #[.int .i64 tp,.slice none 0 0] 114)).alloc (.map #[] 0)=W at *;have f0:=tO d1.o.cs.row;generalize w.heap.size+1=mg at *;have u:=O;obtain ⟨lb,e9⟩ : ∃lb,w.heap.size=lb:=⟨_,rfl⟩;rw [e9] at f5 f0 f4 O f1;simp only [e9];obtain ⟨e0,d8,d7,e3⟩:=f4;clear e2 c1 d5 h5 h7;have q:=aA e0;have H:=aA d8;have D:=aA d7;have M:=aA e3;clear e0 d8 d7 e3;have i:=aA (mL 102 (by decide) (by decide) (by decide) a5.o a8 q.o.pp);rw [show eF 102=36 from rfl] at i;by_cases E:(aH T st.i).kind=102
 ·rw [aJ E,eI E] at i;go_upto_region 8 with (first
   |(go_at_call 90;refine (aB i).mono ?_;rintro e a ⟨rfl,f,c⟩;have J:=aA f;have d2:=aA c;clear f c)
   |go_in)
  have a7:=q.o.take J.o d2.o;obtain ⟨j5,e6,i0⟩:=q.o.pp.box;have e7:=H.o.take e6 J.o;have e5:Below B w a:=D.o.grown J.o (by have:=D.o.size;omega) (by simpa using i0);have f7:a.heap[lb]?=some (.cells #[.int .i64 tp,.slice none 0 0] 114):=by rw [J.o.block lb f5 (by simp;omega)];exact M.o
  have r:=aA a7;have I:=aA e7;have b:=aA e5;have t:=aA f7;have L:aG (jY T st=.ok (⟨st.i+1,[],st.pz⟩,[])):=aA (by rw [jY,aJ E]);clear a7 e6 e7 e5 f7 q H D M J d2 i;obtain ⟨i3,R,h9⟩:=r.o.pp.box;have a3:=R.c4;have c9:a.cell? ⟨lb,0,none⟩=some (.int .i64 tp):=by unfold zv;rw [t.o];rfl
  have F:a.cell? ⟨lb,1,none⟩=some (.slice none 0 0):=by unfold zv;rw [t.o];rfl
  have c8:∀d,(a.alloc d).cell? ⟨pb,4,none⟩=some (.slice b1 CV.length b2):=λd=>aD ((Below.refl a.heap.size a).alloc (zz _) d) a3
  have i2:=b.o.size;clear R;go_cut [] (λC=>∃A,cE B C pb s T ⟨st.i+1,[],st.pz⟩ g A vP mg/\gA B C A (CV++[((tp,[]),.slice none 0 0)])/\Below B w C);case first=>
   refine sG ?_;have c4:=aA (r.o.below (aL (w1:=a.drew) ⟨1,rfl⟩));have U:=aA (I.o.below (aL (w1:=a.drew) ⟨1,rfl⟩));have c2:aG (Below B w a.drew):=aA ⟨b.o.os,b.o.tape,b.o.output,b.o.size,b.o.block⟩;have c5:aG (kZ a.drew B ([],.slice none 0 0)):=aA ⟨zw _ _ _ _,λj6 n=>by simp at n⟩;go_region_law (refine mC ?g1 (.tmp 30) (.tmp 32) 67 114 ?g2 (.agg #[.int .i64 0,.slice none 0 0]) 2 32 zj aGy ?g3 ?g4 ?g5 B _ CV.length (pW CV) ?g6 (U.out.row.alloc _) ?g7 ?g8 a.heap.size 1 [.int .i64 tp,.slice none 0 0] ?g9 ?g10 (fS a.drew _ _ 114 a.heap.size rfl) (aGx _ _ _ _) ?_;(case g1=>rfl);(case g2=>rfl);(case g3=>rfl);(case g4=>decide);(case g5=>decide);(case g6=>rfl);(case g7=>omega);(case g8=>(simp;omega));(case g9=>rfl);(case g10=>rfl);intro i5 w3 z V;obtain ⟨h4,h6,m⟩:=aGv c4.out U.out c2.out u c5.out z V;have b6:=aA m;obtain ⟨i7,i8,rfl⟩:=aW z;clear z V m);all_goals
    refine qD ?_;go_wp2_with fail;go_meet;case rel=>exact ⟨_,b6.o⟩
  case rest=>
   obtain ⟨A,x,P,N⟩:=hcut;have o:=aA (mL 46 (by decide) (by decide) (by decide) a5.o a8 x.pp);rw [show eF 46=46 from rfl] at o;have b8:=aA x;have b4:=aA P;have b3:=aA N;clear x P N r I b t a3 c8 c9 F;obtain ⟨h1,S⟩ : ∃c0,decide ((aH T (⟨st.i+1,[],st.pz⟩ : aY).i).kind=46)=c0:=⟨_,rfl⟩;rw [S] at o;go_wp2_with (first
    |(go_at_call 90;refine (aB o).mono ?_;rintro e i9 ⟨rfl,X,Z⟩;have b5:=aA X;have b7:=aA Z;clear X Z)
    |go_in)
   go_ret;exact aGz u L.o S b8.o b4.o b3.o b5.o b7.o rfl
 ·rw [aI E,dE E] at i;have a4:aG (jY T st=fD T (T.length+1) ⟨st.i,[],st.pz⟩ []):=aA (by rw [jY,aI E]);have G:=aA (λw1 (a7:cE B w1 pb s T ⟨st.i,[],st.pz⟩ g (.slice b1 CV.length b2) vP mg) (h8:B<=w1.heap.size)=>aOx a5.o g0.o a8 i1 a7 h8 c (zs _));have b9:=aA (λw1 (f:W.grownBy w1 (some pb)) (c:eD B w1 pb s T st.i g (.slice b1 CV.length b2) vP (.map (some mg)))=>aP0 q.o H.o D.o u M.o f c);cases n:fD T (T.length+1) ⟨st.i,[],st.pz⟩ [] with
  |error p=>
   rw [n] at G;have L:aG (iV T st=.error p):=aA (by rw [iV,a4.o,n]);clear n a4 q H D M;go_wp2_with (first
    |(go_at_call 90;refine (aB i).mono ?_;rintro e w1 ⟨rfl,f,c⟩;have j:=aA (b9.o w1 f c);clear f c)
    |(go_at_call 91;refine (G.o _ j.o.q j.o.size).mono ?_;rintro e w3 ⟨Y,h0,i4,h3,j4,j9,j8,rfl,m,f2⟩;obtain ⟨F,d6,a0⟩:=j.o.err u O Y m (.slice h0 i4 h3);have k:=aA a0;have f8:=aA f2;clear Y m f2 a0)
    |go_in)
   go_ret;refine ⟨k.o.1,?_⟩;rw [L.o];exact ⟨_,_,_,_,rfl,k.o.2,f8.o⟩
  |ok y=>
   obtain ⟨b0,h2⟩:=y;rw [n] at G;have d4:aG (jY T st=.ok (b0,h2)):=aA (by rw [a4.o,n]);clear n a4 q H D M;go_upto_region 8 with (first
    |(go_at_call 90;refine (aB i).mono ?_;rintro e w1 ⟨rfl,f,c⟩;have j:=aA (b9.o w1 f c);clear f c)
    |(go_at_call 91;refine (G.o _ j.o.q j.o.size).mono ?_;rintro e w3 ⟨Y,l,k0,i6,rfl,f3,c6,e4,d9⟩;obtain ⟨a1,a2,rfl⟩:=aW c6;obtain ⟨F,d6,a0,e8⟩:=j.o.ok u O f0 Y f3 c6 e4;have k:=aA a0;have d0:=aA e8;have d3:=aA d9;clear Y f3 c6 e4 a0 d9 e8)
    |go_in)
   have L:aG (jY T st=.ok (b0,l.map zy)):=aA (by rw [d4.o,d3.o]);clear b9 G i j d4 d3 F d6;generalize w3.setCell ⟨lb,1,none⟩ (.slice a1 l.length a2)=a at *;have r:=aA k.o.q;have I:=aA k.o.cs;have b:=aA k.o.low;have t:=aA k.o.box;have f9:=aA d0.o;clear k d0;obtain ⟨i3,R,h9⟩:=r.o.pp.box;have a3:=R.c4;have c9:a.cell? ⟨lb,0,none⟩=some (.int .i64 tp):=by unfold zv;rw [t.o];rfl
   have F:a.cell? ⟨lb,1,none⟩=some (.slice a1 l.length a2):=by unfold zv;rw [t.o];rfl
   have c8:∀d,(a.alloc d).cell? ⟨pb,4,none⟩=some (.slice b1 CV.length b2):=λd=>aD ((Below.refl a.heap.size a).alloc (zz _) d) a3
   have i2:=b.o.size;clear R;go_cut [] (λC=>∃A,cE B C pb s T b0 g A i6 mg/\gA B C A (CV++[((tp,l),.slice a1 l.length a2)])/\Below B w C);case first=>
    refine sG ?_;have c4:=aA (r.o.below (aL (w1:=a.drew) ⟨1,rfl⟩));have U:=aA (I.o.below (aL (w1:=a.drew) ⟨1,rfl⟩));have c2:aG (Below B w a.drew):=aA ⟨b.o.os,b.o.tape,b.o.output,b.o.size,b.o.block⟩;have c5:aG (kZ a.drew B (l,.slice a1 l.length a2)):=aA f9.o;go_region_law (refine mC ?g1 (.tmp 30) (.tmp 32) 67 114 ?g2 (.agg #[.int .i64 0,.slice none 0 0]) 2 32 zj aGy ?g3 ?g4 ?g5 B _ CV.length (pW CV) ?g6 (U.out.row.alloc _) ?g7 ?g8 a.heap.size 1 [.int .i64 tp,.slice a1 l.length a2] ?g9 ?g10 (fS a.drew _ _ 114 a.heap.size rfl) (aGx _ _ _ _) ?_;(case g1=>rfl);(case g2=>rfl);(case g3=>rfl);(case g4=>decide);(case g5=>decide);(case g6=>rfl);(case g7=>omega);(case g8=>(simp;omega));(case g9=>rfl);(case g10=>rfl);intro i5 w3 z V;obtain ⟨h4,h6,m⟩:=aGv c4.out U.out c2.out u c5.out z V;have b6:=aA m;obtain ⟨i7,i8,rfl⟩:=aW z;clear z V m);all_goals
     refine qD ?_;go_wp2_with fail;go_meet;case rel=>exact ⟨_,b6.o⟩
   case rest=>
    obtain ⟨A,x,P,N⟩:=hcut;have o:=aA (mL 46 (by decide) (by decide) (by decide) a5.o a8 x.pp);rw [show eF 46=46 from rfl] at o;have b8:=aA x;have b4:=aA P;have b3:=aA N;clear x P N r I b t a3 c8 c9 F;obtain ⟨h1,S⟩ : ∃c0,decide ((aH T (b0:aY).i).kind=46)=c0:=⟨_,rfl⟩;rw [S] at o;go_wp2_with (first
     |(go_at_call 90;refine (aB o).mono ?_;rintro e i9 ⟨rfl,X,Z⟩;have b5:=aA X;have b7:=aA Z;clear X Z)
     |go_in)
    go_ret;exact aGz u L.o S b8.o b4.o b3.o b5.o b7.o rfl
end
def aP2(B pb:Nat)(w:World)(s:ByteArray)(T:List Tk)(g:Nat)(c:Except Nat (aY×List (Nat×List Lt)))(e:Ending)(w':World):Prop:=
 Below B w w'/\
  match c with
  | .ok (s1,cs)=>∃vC vP a,e=.returned (.bool true)/\tD B w' pb s T s1 g vC vP a/\a.map jW=cs
  | .error p=>∃b vC vP d,e=.returned (.bool false)/\eD B w' pb s T b g vC vP d/\(aH T b).pos=p
structure TLq(B pb:Nat)(w:World)(s:ByteArray)(T:List Tk)(g:Nat)(r:Except Nat (aY×List (Nat×List Lt)))(k:Nat)(wr:World)(st:aY)(vC vP:Value)(CV:List Pc):Prop where
 t:tD B wr pb s T st g vC vP CV
 low:Below B w wr
 eq:r=gJ T k st (CV.map jW)
 fuel:T.length<st.i+k
 pl:st.pz.length<=st.i
 few:CV.length<=st.i
theorem aP3{c:List Pc}(I:∀C,(aH T C).kind∈iO)(O:∀C,(aH T C).txt.size<=1000000)(a8:s.size<=3000)(a3:T.length<=1000000)(G:∀st a x,iV T st=.ok (a,x)->st.i<T.length->st.i<a.i/\a.pz.length<=st.pz.length+(a.i-st.i))(F:tD B w pb s T st g vC vP c)(a2:B<=w.heap.size)(l:st.pz.length<=st.i)(J:c.length<=st.i):Calls zx 25 #[.pointer (some ⟨pb,0,none⟩)] w λe w'=>aP2 B pb w s T g (gJ T (T.length+1) st (c.map jW)) e w':=by
 have t:aG (TLq B pb w s T g (gJ T (T.length+1) st (c.map jW)) (T.length+1) w st vC vP c):=aA ⟨F,Below.refl _ _,rfl,by omega,l,J⟩;obtain ⟨d,z⟩ : ∃d,gJ T (T.length+1) st (c.map jW)=d:=⟨_,rfl⟩;rw [z] at t;simp only [z];have D:=aA I;have a1:=aA O;have W:=aA G;clear F z I O l J G;go_enter Tryz.func25,Tryz.ntmps25;go_wp2;go_loopg [] (T.length+1) (λb0 wr=>∃a R U n,TLq B pb w s T g d b0 wr a R U n);case atStart=>exact ⟨st,vC,vP,c,t.o⟩
 case round=>
  clear t;obtain ⟨a,R,U,n,b⟩:=hrel;obtain ⟨b6,q⟩:=b.t.pp;have a5:=q.lt;obtain ⟨left,A,b2⟩:=q.box;have b3:=b.fuel;have a7:=b.pl;have a4:=b.few;have a9:=b.low.size;have E:=A.c1;obtain ⟨r,rfl⟩ : ∃r,gk=r+1:=⟨gk-1,by omega⟩;by_cases j:(aH T a.i).kind=101
  ·rw [j,show eF 101=-1 from rfl] at E;have i:aG (d=.ok (a,n.map jW)):=aA (by rw [b.eq,gJ,aJ j]);have f:=aA b;clear b A q;go_wp2_with fail;go_ret;refine ⟨f.o.low,?_⟩;rw [i.o];exact ⟨_,_,_,rfl,f.o.t,rfl⟩
  ·have a6:(eF (aH T a.i).kind != -1)=true:=by
    simp only [bne_iff_ne];intro e;exact j (aCw _ (D.o a.i) 101 (by decide) (by rw [e];rfl))
   have m:=aA (aP1 D.o a1.o a8 a3 b.t (zl a2 a9) a7 a4);have o:=aA b.eq;have f:=aA b;clear b A q;obtain ⟨P,L⟩ : ∃P,eF (aH T a.i).kind=P:=⟨_,rfl⟩;rw [L] at E a6;clear L;cases hq:iV T a with
   |error p=>
    rw [hq] at m;have i:aG (d=.error p):=aA (by rw [o.o,gJ,aI j,hq]);clear hq o;go_wp2_with (first
     |(go_at_call 51;refine (aB m).mono ?_;rintro e w1 ⟨k,b5,S,V,b7,rfl,l,M⟩;have u:=aA k;have X:=aA l;have Z:=aA M;clear k l M)
     |go_in)
    go_ret;refine ⟨f.o.low.trans u.o,?_⟩;rw [i.o];exact ⟨_,_,_,_,rfl,X.o,Z.o⟩
   |ok y=>
    obtain ⟨Q,x⟩:=y;have b4:=W.o _ _ _ hq a5;rw [hq] at m;have i:aG (d=gJ T r Q (n.map jW++[((aH T a.i).pos,x)])):=aA (by rw [o.o,gJ,aI j,hq]);clear hq o;go_wp2_with (first
     |(go_at_call 51;refine (aB m).mono ?_;rintro e w1 ⟨k,S,V,b1,vl,rfl,N,H⟩;have u:=aA k;have a0:=aA N;have Y:=aA H;clear k N H)
     |go_in)
    go_roundg r;case measure=>omega
    case rel=>exact ⟨Q,S,V,_,a0.o,f.o.low.trans u.o,by rw [i.o,zq,zu,jW,Y.o],by omega,by omega,by simp;omega⟩
theorem aP4(d k:Bool)(c i:Option Addr)(j l g:Nat)(b f:List Nd)(w:World)(m:dO w c b)(n:dO w i f)(t:w.cell? ⟨g,0,none⟩=some (.bool k))(u:w.cell? ⟨g,1,none⟩=some (.slice i f.length l)):Calls zx 103 #[.agg #[.bool d,.slice c b.length j],.pointer (some ⟨g,0,none⟩)] w λe w'=>e=.returned (.bool (nS (d,b) (k,f)))/\aC w w':=by
 have a:aC w (w.alloc (.cells #[.bool d,.slice c b.length j] 55)):=(Below.refl _ _).alloc (zz _) _;have p:=aA (aDv d k c i j l b f _ (m.below a (zz _)) (n.below a (zz _)));have x:=aD a t;have y:=aD a u;have q:=aA a;clear a m n;go_enter Tryz.func103,Tryz.ntmps103;go_wp2_with (go_at_call 41;refine (aB p).mono ?_;rintro e w1 ⟨rfl,o⟩;have r:=aA (q.o.trans (o.mono (by simp)));clear o);go_ret;exact ⟨rfl,r.o⟩
theorem aP5(C q:Option Addr)(V D g:Nat)(b:List (Lt×Value))(f:Bool)(d:List Nd)(w:World)(a3:b.length<=4398046511104)
  (H:∀a (a2:a<b.length),∃m,C=some ⟨m,0,none⟩/\w.cell? ⟨m,a*2,none⟩=some (.bool b[a].1.1)/\w.cell? ⟨m,a*2+1,none⟩=some b[a].2)
  (F:∀N∈b,lJ w N.2 N.1.2) (E:dO w q d) (W:w.cell? ⟨g,0,none⟩=some (.bool f)) (X:w.cell? ⟨g,1,none⟩=some (.slice q d.length D)):Calls zx 134 #[.slice C b.length V,.func (Fn.func 103) #[] #[.pointer (some ⟨g,0,none⟩)]] w λe w'=>∃O:Int,e=.returned (.int .i64 O)/\decide (0<=O)=fI (b.map zy) (f,d)/\aC w w':=by
 have U:=aA H;have S:=aA F;have R:=aA E;clear H F E;go_enter Tryz.func134,Tryz.ntmps134;go_wp2;go_loopw [8] (λy wr=>∃a:Nat,a<=b.length/\y=.int .i64 a/\fI ((b.map zy).take a) (f,d)=false/\aC w wr) (λy _=>b.length-(intOf y).toNat);case atStart=>exact ⟨0,zs _,rfl,rfl,Below.refl _ _⟩
 case round=>
  obtain ⟨a,a4,rfl,L,c⟩:=hrel;have p:=aA L;clear L;by_cases J:a<b.length
  ·obtain ⟨m,rfl,r,l⟩:=U.o a J;obtain ⟨Y,Z,M,u⟩:=S.o b[a] (zi _);rw [M] at l;have n:=aJ2 b (f,d) a J;rw [p.o,Bool.false_or] at n;have t:=aJ3 b (f,d) (a+1);rw [n] at t;generalize b[a].1=x at *;obtain ⟨P,Q⟩:=x;simp only at r l u;have a0:=aD c r;have a1:=aD c l;have j:=aA (aP4 P f Y q Z D g Q d wr (u.below c (zz _)) (R.o.below c (zz _)) (aD c W) (aD c X));have z:=aA n;have A:=aA t;have k:=aA c;have G:=c.size;clear n t c M u r l;cases hl:nS (P,Q) (f,d)
   ·rw [hl] at j z;clear hl;go_wp2_with (go_at_call 103;refine (aB j).mono ?_;rintro e w1 ⟨rfl,i⟩;have o:=aA (k.o.trans (i.mono G));clear i);go_roundw;case rel=>exact ⟨a+1,by omega,by go_num,z.o,o.o⟩
    case measure=>simp [intOf];omega
   ·rw [hl] at j A;clear hl;go_wp2_with (go_at_call 103;refine (aB j).mono ?_;rintro e w1 ⟨rfl,i⟩;have o:=aA (k.o.trans (i.mono G));clear i);go_ret;exact ⟨_,rfl,by rw [A.o (by first|rfl|trivial)];simp,o.o⟩
  ·have I:(b.map zy).take a=b.map zy:=List.take_of_length_le (by simp;omega);rw [I] at p;have k:=aA c;clear I c;go_wp2;go_ret;exact ⟨_,rfl,by rw [p.o];rfl,k.o⟩
theorem aP6(c d:Option Addr)(l j g:Nat)(a:List (Lt×Value))(i:Bool)(b:List Nd)(w:World)(A:a.length<=4398046511104)
  (r:∀k (C:k<a.length),∃f,c=some ⟨f,0,none⟩/\w.cell? ⟨f,k*2,none⟩=some (.bool a[k].1.1)/\w.cell? ⟨f,k*2+1,none⟩=some a[k].2)
  (p:∀u∈a,lJ w u.2 u.1.2) (o:dO w d b) (m:w.cell? ⟨g,0,none⟩=some (.bool i)) (n:w.cell? ⟨g,1,none⟩=some (.slice d b.length j)):Calls zx 102 #[.slice c a.length l,.func (Fn.func 103) #[] #[.pointer (some ⟨g,0,none⟩)]] w λe w'=>e=.returned (.bool (fI (a.map zy) (i,b)))/\aC w w':=by
 have x:=aA (aP5 c d l j g a i b w A r p o m n);clear r p o m n;go_enter Tryz.func102,Tryz.ntmps102;go_wp2_with (go_at_call 134;refine (aB x).mono ?_;rintro e w1 ⟨D,rfl,t,q⟩;have z:=aA t;have y:=aA q;clear t q);go_ret;exact ⟨bM z.o,y.o⟩
def rU(a:List Lt)(c:Nat):Bool:=(List.range c).any λb=>fI (a.take b) (!(a.getD b default).1,(a.getD b default).2)
def qW(c:List Lt):Bool:=rU c c.length
theorem aP7(a:List Lt)(b:Nat)(c:b<a.length):rU a (b+1)=(rU a b || fI (a.take b) (!a[b].1,a[b].2)):=by unfold rU;rw [List.range_succ,List.any_append];simp [c]
theorem aP8(a:List Lt){k:Nat}(f:k<=a.length)(b:rU a k=true):qW a=true:=by unfold qW rU at *;rw [List.any_eq_true] at *;obtain ⟨i,d,c⟩:=b;exact ⟨i,List.mem_range.2 (zn (List.mem_range.1 d) f),c⟩
theorem aH1(J:Option Addr)(q:Nat)(b:List (Lt×Value))(w:World)(a6:b.length<=100000)(a5:b.length<=q)
  (M:∀a (a4:a<b.length),∃n,J=some ⟨n,0,none⟩/\w.cell? ⟨n,a*2,none⟩=some (.bool b[a].1.1)/\w.cell? ⟨n,a*2+1,none⟩=some b[a].2)
  (L:∀t∈b,lJ w t.2 t.1.2):Calls zx 61 #[.slice J b.length q] w λe w'=>e=.returned (.bool (qW (b.map zy)))/\aC w w':=by
 have G:=aA M;have F:=aA L;clear M L;go_enter Tryz.func61,Tryz.ntmps61;go_wp2;go_loopw [8] (λE wr=>∃a:Nat,a<=b.length/\E=.int .i64 a/\rU (b.map zy) a=false/\aC w wr) (λE _=>b.length-(intOf E).toNat);case atStart=>exact ⟨0,zs _,rfl,rfl,Below.refl _ _⟩
 case round=>
  obtain ⟨a,a8,rfl,p,j⟩:=hrel;have I:=aA p;clear p;by_cases N:a<b.length
  ·obtain ⟨n,rfl,y,r⟩:=G.o a N;obtain ⟨c,d,O,A⟩:=F.o b[a] (zi _);rw [O] at r;have C:=aP7 (b.map zy) a (by simpa using N);rw [I.o,Bool.false_or] at C;have D:rU (b.map zy) (a+1)=fI ((b.map zy).take a) (!b[a].1.1,b[a].1.2):=by simpa using C
   generalize b[a].1=x at *;obtain ⟨f,i⟩:=x;simp only at y r A D;have a2:=aD j y;have a3:=aD j r;have X:=j.size;have b0:(a:Int)<(b.length:Int):=by omega
   have a9:(a:Int)<=(q:Int):=by omega
   have l:aC w ((wr.alloc (.cells #[.bool f,.slice c i.length d] 55)).alloc (.cells #[.bool !f,.slice c i.length d] 55)):=(j.alloc X _).alloc (by simp;omega) _;have z:((wr.alloc (.cells #[.bool f,.slice c i.length d] 55)).alloc (.cells #[.bool !f,.slice c i.length d] 55)).heap[wr.heap.size+1]?=some (.cells #[.bool !f,.slice c i.length d] 55):=by have:=World.alloc_heap_new (wr.alloc (.cells #[.bool f,.slice c i.length d] 55)) (.cells #[.bool !f,.slice c i.length d] 55);rwa [World.size_alloc] at this
   have P:(b.take a).length=a:=by simp;omega
   have m:=aA (aP6 (some ⟨n,0,none⟩) c q d (wr.heap.size+1) (b.take a) (!f) i ((wr.alloc (.cells #[.bool f,.slice c i.length d] 55)).alloc (.cells #[.bool !f,.slice c i.length d] 55)) (by omega)
    (λa1 a7=>by
     obtain ⟨S,U,V,W⟩:=G.o a1 (by omega);rw [List.getElem_take];exact ⟨S,U,aD l V,aD l W⟩)
    (λt a0=>(F.o t (List.mem_of_mem_take a0)).below l (zz _)) (A.below l (zz _)) (aDp z).1 (aDp z).2)
   rw [P,List.map_take,<-D] at m;have k:=aA l;have H:=aA (aP8 (b.map zy) (k:=a+1) (by simp;omega));clear C D l z P y r A O j;cases hi:rU (b.map zy) (a+1)
   ·rw [hi] at m;have Q:=aA hi;clear hi;go_wp2_with (first
     |(go_at_call 102;refine (aB m).mono ?_;rintro e w1 ⟨rfl,o⟩;have u:=aA (k.o.trans (o.mono (by have:=k.o.size;simpa using this)));clear o)
     |go_in)
    go_roundw;case rel=>exact ⟨a+1,by omega,by go_num,Q.o,u.o⟩
    case measure=>simp [intOf];omega
   ·have R:=aA (H.o hi);rw [hi] at m;clear hi H;go_wp2_with (first
     |(go_at_call 102;refine (aB m).mono ?_;rintro e w1 ⟨rfl,o⟩;have u:=aA (k.o.trans (o.mono (by have:=k.o.size;simpa using this)));clear o)
     |go_in)
    go_ret;exact ⟨by rw [R.o];rfl,u.o⟩
  ·have Z:a=(b.map zy).length:=by simp;omega
   have k:=aA j;clear j;go_wp2;go_ret;have Y:qW (b.map zy)=false:=by have p:=I.o;rw [Z] at p;exact p
   exact ⟨by rw [Y];rfl,k.o⟩
theorem aP9{i a c b:Nat}{j:List Value}(d:w.ownsRow B e i (.slice (some ⟨g,0,none⟩) a b) c j):a=c/\a<=b:=by
 obtain ⟨_,⟨e,_⟩|⟨m,k,l,e,_,_,f,_⟩⟩:=d
 ·cases e
 ·cases e;exact ⟨rfl,f⟩
theorem aPa{a:Nat}(m:0<(cK s 0).length)(d:w1.ownsRow w.heap.size 149 2 (.slice (some ⟨g,0,none⟩) (cK s 0).length a) (cK s 0).length (nH (cK s 0)))(i:aC w w1):∃k f,bQ w.heap.size (w1.alloc (.cells #[.slice (some ⟨g,0,none⟩) (cK s 0).length a,.int .i32 0,.int .i64 0,.string ⟨#[]⟩,.slice none 0 0,.slice none 0 0,.map none] 70)) w1.heap.size s 0 g 0 k f 0 0 ⟨#[]⟩ (.slice none 0 0) (.slice none 0 0) (.map none):=by
 obtain ⟨_,l⟩:=aP9 d;have b:(cK s 0).length-1+1=(cK s 0).length:=by omega
 have c:a-1+1=a:=by omega
 have j:=i.size;refine ⟨(cK s 0).length-1,a-1,⟨?_,j,?_,by omega,rfl,zs _⟩⟩
 ·rw [b,c];unfold bV;show (w1.heap.push _)[w1.heap.size]?=_;simp
 ·rw [Nat.zero_add,Nat.zero_add,b,c];exact bB d ((Below.refl w1.heap.size w1).alloc (zz _) _) (zz _)
theorem aPb(s:ByteArray)(w:World)(m:s.size<=3000):Calls zx 24 #[.string s] w λe w'=>∃pb g,e=.returned (.pointer (some ⟨pb,0,none⟩))/\aC w w'/\tD w.heap.size w' pb s (eY s 0) ⟨0,[],[]⟩ g (.slice none 0 0) (.slice none 0 0) []:=by
 have q:=aA (aR2 s w m);have b:=aA (λ(y:World) (pb g p f:Nat) (A:bQ w.heap.size y pb s 0 g 0 p f 0 0 ⟨#[]⟩ (.slice none 0 0) (.slice none 0 0) (.map none))=>(aGp (s.size+1) A m (by omega)).mono λe w1 F=>aGr (T:=eY s 0) (i:=0) (zs _) (by omega) rfl F);have D:0<(cK s 0).length:=(aAc s s.size 0 (by omega)).1;generalize aH (eY s 0) 0=t at b;obtain ⟨M,N,tp⟩:=t;simp only at b;go_enter Tryz.func24,Tryz.ntmps24;go_wp2_with (first
  |(go_at_call 49;refine (aB q).mono ?_;rintro e w1 ⟨g,z,rfl,l,c⟩;obtain ⟨p,f,n⟩:=aPa D l c;have d:=aA c;have x:=aA n;clear l c n)
  |(go_at_call 50;refine (b.o _ _ _ _ _ x.o).mono ?_;rintro e O ⟨rfl,k,⟨left,a⟩,j⟩;have G:=a.c1;have H:=a.c2;have I:=a.c3;have J:=a.soft;have r:=aA k;have u:=aA j;clear k j a)
  |go_in)
 go_ret;refine ⟨_,g,rfl,?_,⟨_,u.o⟩,zw _ _ _ _,zw _ _ _ _,λL E=>by simp at E⟩;have o:=d.o.size;have C:=d.o.alloc o (.cells #[.slice (some ⟨g,0,none⟩) (cK s 0).length z,.int .i32 0,.int .i64 0,.string ⟨#[]⟩,.slice none 0 0,.slice none 0 0,.map none] 70);exact C.grown (rB (rB (rB r.o _) _) _) (by simp;omega) (by simpa using o)
