import Derived.Test.YtbpiopdphigodaaGreatDoorGMemP
open List renaming length_append→zy,map_singleton→zs
open Nat renaming le_refl→zz,le_trans→zv
namespace Go.Proofs.YtbpiopdphigodaaGreatDoor
open _root_.Go.Proofs.Tryz renaming prog→zx,underlying39→zw,ntmps110→zt,func110→zr,underlying29→zp
open World renaming cell?→zu,ownsRow_nil→zq
open Go.RowKit Go.WideMaps
set_option maxHeartbeats 4000000
set_option maxRecDepth 100000
variable{s:ByteArray}{T:List Tk}{B g mg pb:Nat}{vC vP vl:Value}{w:World}
def rL(B b pb:Nat)(w:World)(s:ByteArray)(T:List Tk)(g:Nat)(vC:Value)(mg:Nat)(j:Except Nat (bA×List Nd))(c:Ending)(a:World):Prop:=
 bQ B b mg w a/\
  match j with
  | .ok (s1,l1)=>∃vl vP,c=.returned (.tuple #[vl,.bool true])/\bS B a pb s T s1 g vC vP mg/\a.ownsRow b 43 2 vl l1.length (aV l1)
  | .error p=>∃e i f d vP k,c=.returned (.tuple #[.slice e i f,.bool false])/\dF B a pb s T d g vC vP k/\(aH T d).pos=p
def aFp(B pb:Nat)(s:ByteArray)(T:List Tk)(g:Nat)(vC:Value)(mg e:Nat):Prop:=
 ∀(b:Nat) (d:Bool) (a:bA) (vP vl:Value) (c:List Nd) (w:World),bS B w pb s T a g vC vP mg->w.ownsRow b 43 2 vl c.length (aV c)->B<=b->b<=w.heap.size->(d=true->(aH T a.i).kind≠118)->T.length<a.i+e->c.length<=a.i->a.pz.length<=a.i->a.vars.length<=a.i->
  Calls zx 110 #[.pointer (some ⟨pb,0,none⟩),vl] w λf i=>rL B b pb w s T g vC mg (cB T e d a c) f i
section
variable {B B' pb:Nat}{s:ByteArray}{T:List Tk}{g:Nat}{vC vP vl:Value}{mg:Nat}{st:bA}{l:List Nd}{w:World}
theorem aPm{w1 a b:World}{k:DataW Unit}{f:List ByteArray}{q:Value}{j:Int}{m:Obj}{i:bA}(d:bS B w1 pb s T i g vC vP mg)(o:w1.ownsRow B' 43 2 vl l.length (aV l))(t:B<=B')(v:bQ B B' mg w w1)
  (e:w1.grownBy a (some mg)) (x:a.ownsMap zx 9 mS mg f.length k) (u:oS k f) (y:b.ownsRow B' 43 2 q (l.length+1) (aV l++[.string ⟨#[]⟩,.int .i64 j])) (n:(a.alloc m).grownBy b vl.ownBlock):bS B b pb s T ⟨i.i,f,i.pz⟩ g vC vP mg/\b.ownsRow B' 43 2 q (l++[((⟨#[]⟩ : ByteArray),j)]).length (aV (l++[((⟨#[]⟩ : ByteArray),j)]))/\bQ B B' mg w b:=by
 obtain ⟨A,z,_⟩:=d.map;have r:=d.var e x u;have p:=o.kept e (Or.inr (rJ o z));have c:=(Below.refl a.heap.size a).alloc (zz _) m;refine ⟨(r.below c).far (bF p c (zz _)) (by decide) n,by rw [vD,zy];exact y,?_⟩;exact ((v.grownMap d.mhigh e).trans (.of_below c)).grownRow (bF p c (zz _)) t (Or.inr ⟨rfl,zz _⟩) n
theorem aPn(H:Bool)(L:Nat)(M:∀C,(aH T C).kind∈gJ)(Y:∀C,(aH T C).txt.size<=1000000)(b1:s.size<=3000)(c1:T.length<=1000000)(d:bS B w pb s T st g vC vP mg)(y:w.ownsRow B' 43 2 vl l.length (aV l))(a8:B<=B')(b6:B'<=w.heap.size)(n:(aH T st.i).kind=118)(b0:H=false)(c2:l.length<=st.i)(c4:st.vars.length<=st.i):Calls zx 110 #[.pointer (some ⟨pb,0,none⟩),vl] w λv b4=>rL B B' pb w s T g vC mg (cB T (L+1) H st l) v b4:=by
 subst b0;have c3:=d.pp.lt;obtain ⟨c6,b7,b8,b9,c0⟩:=info_parts rE;obtain ⟨left,b,_⟩:=d.pp.box;obtain ⟨c7,c8,rfl⟩:=aY y;rw [n,show dN 118=65 from rfl] at b;have a7:=b.c1;have I:=b.c2;have J:=b.c3;have i:=aA (λb3=>lR 118 (by decide) (by decide) (by decide) M b1 (d.pp.below ((Below.refl w.heap.size w).alloc (zz _) b3)));rw [n,show dN 118=65 from rfl] at i;simp only [if_true,decide_true] at i;have F:aI (cB T (L+1) false st l=.ok (⟨st.i+1,kN st.vars (aH T st.i).txt,st.pz⟩,l++[(⟨#[]⟩,jN st.vars (aH T st.i).txt)])):=aA (by rw [cB,aG ⟨n,rfl⟩]);obtain ⟨c,X⟩ : ∃c,(aH T st.i).txt=c:=⟨_,rfl⟩;obtain ⟨o,W⟩ : ∃o,(aH T st.i).pos=o:=⟨_,rfl⟩;have Z:=Y st.i;rw [X] at J F Z;rw [W] at I;have j:=aA d;have q:=aA y;clear d y b n Y M X W;go_enter zr,zt;go_upto_region 3 with (first
  |(go_at_call 58;refine (aC i _).mono ?_;rintro v a ⟨rfl,k,S⟩;have V:=(j.o.below ((Below.refl w.heap.size w).alloc (zz _) _)).take k S;have f:=k.block w.heap.size (by simp) (by obtain ⟨left,b,_⟩:=j.o.pp.box;have:=b.lt;simp;omega);have u:=aA V;have G:=aA f;have p:=aA k;clear k S V f)
  |go_in)
 have f:a.heap[w.heap.size]?=some (.cells #[.int .i32 65,.int .i64 o,.string c] 47):=G.o.trans (by show (w.heap.push _)[w.heap.size]?=_;simp);have d2:a.cell? ⟨w.heap.size,2,none⟩=some (.string c):=by unfold zu;rw [f];rfl
 obtain ⟨c9,N,_⟩:=u.o.pp.box;have d1:=N.c6;have e:=(Below.refl w.heap.size w).alloc (zz _) (.cells #[.int .i32 65,.int .i64 o,.string c] 47);obtain ⟨d0,x,a9⟩:=(j.o.below e).pp.box;have E:aI (bQ B B' mg w a):=aA ((bQ.of_below e).grownBox x a9 p.o);have r:=aA ((bF q.o e (zz _)).kept p.o (x.apart (bF q.o e (zz _)) (by decide)));obtain ⟨a1,z,Q⟩:=u.o.map;have a0:=aA (aUu mg a1 st.vars c a.drew z Q (by omega) Z);have c5:=E.o.size;have a5:=aA z;clear z Q f N x e j q G p i a7 I J;go_region_law (first
  |(refine aV5 (by rfl) 132 _ _ (by rfl) (enters_of Tryz.func132 (by kernel_rfl) rfl) _ (by rfl) (aC a0) ?_;rintro v D ⟨b5,rfl,P,R,m⟩;refine ⟨_,rfl,?_⟩;have a4:=aA P;have a6:=aA R;have a2:=aA m;have a3:=aA (World.ownsRow.kept (w:=a.drew) r.o m (Or.inr (rJ r.o a5.o)));have b2:=m.size;clear P R m)
  |(refine nN ?g1 (.tmp 13) (.tmp 22) 39 43 ?g2 (.agg #[.string ⟨#[]⟩,.int .i64 0]) 2 24 zw rE ?g3 ?g4 ?g5 B' _ l.length (aV l) ?g6 (a3.o.alloc _) ?g7 ?g8 D.heap.size 1 [.string ⟨#[]⟩,.int .i64 (jN st.vars c)] ?g9 ?g10 (kH D _ _ 43 D.heap.size rfl) (aAf _ _) ?_;(case g1=>rfl);(case g2=>rfl);(case g3=>rfl);(case g4=>decide);(case g5=>decide);(case g6=>rfl);(case g7=>omega);(case g8=>(simp at b2 ⊢;omega));(case g9=>rfl);(case g10=>rfl);intro d3 d6 A O;have U:=aPm (w1:=a.drew) (u.o.below (aQ (w1:=a.drew) ⟨1,rfl⟩)) r.o a8 (E.o.trans (.of_below (aQ (w1:=a.drew) ⟨1,rfl⟩))) a2.o a4.o a6.o A O;have t:=aA U;obtain ⟨d4,d5,rfl⟩:=aY A;clear A O U))
 all_goals
  go_wp2;go_ret2;refine ⟨t.o.2.2,?_⟩;rw [F.o];exact ⟨_,_,rfl,t.o.1,t.o.2.1⟩
theorem aPo(p:Bool)(q:Nat)(f:∀M,(aH T M).kind∈gJ)(z:s.size<=3000)(b:bS B w pb s T st g vC vP mg)(d:(aH T st.i).kind≠118)(e:(aH T st.i).kind≠110):Calls zx 110 #[.pointer (some ⟨pb,0,none⟩),vl] w λa O=>rL B B' pb w s T g vC mg (cB T (q+1) p st l) a O:=by
 obtain ⟨left,c,_⟩:=b.pp.box;have P:=c.c1;have H:=c.c2;have Q:=c.c3;have k:=aA (λN=>lR 118 (by decide) (by decide) (by decide) f z (b.pp.below ((Below.refl w.heap.size w).alloc (zz _) N)));rw [show dN 118=65 from rfl,aF d,gH d] at k;have m:=aA (λA (L:dF B A pb s T st.i g vC vP (.map (some mg)))=>lR 110 (by decide) (by decide) (by decide) f z L);rw [show dN 110=97 from rfl,aF e,gH e] at m;have n:aI (cB T (q+1) p st l=.error (aH T st.i).pos):=aA (by rw [cB,aF (λa=>d a.1),aG e]);have F:=aA b;clear b c f d e;generalize dN (aH T st.i).kind=K at *;generalize (aH T st.i).txt=tx at *;obtain ⟨j,i⟩ : ∃j,(aH T st.i).pos=j:=⟨_,rfl⟩;rw [i] at H n;have G:=aA i;clear i;go_enter zr,zt;go_wp2_with (first
  |(go_at_call 58;refine (m.o _ o.o).mono ?_;rintro a U ⟨rfl,v,y⟩;have D:=aA v;have E:=aA y;clear v y)
  |(go_at_call 58;refine (aC k _).mono ?_;rintro a A ⟨rfl,u,x⟩;have C:=aA u;have o:=aA x;clear u x)
  |go_in)
 go_ret2;have r:=(Below.refl w.heap.size w).alloc (zz _) (.cells #[.int .i32 K,.int .i64 j,.string tx] 47);obtain ⟨S,J,t⟩:=(F.o.below r).pp.box;obtain ⟨R,I,_⟩:=o.o.box;refine ⟨((bQ.of_below r).grownBox J t C.o).grownBox I t D.o,?_⟩;rw [n.o];exact ⟨_,_,_,_,_,_,rfl,E.o,G.o⟩
end
def aFq(B c pb:Nat)(w:World)(s:ByteArray)(T:List Tk)(g:Nat)(vC:Value)(mg f:Nat)(k:Except Nat (bA×List Nd×Nat))(d:Ending)(b:World):Prop:=
 bQ B c mg w b/\
  match k with
  | .ok (s1,l1,a)=>∃vl vP,d=.returned (.tuple #[vl,.bool true])/\bS B b pb s T s1 g vC vP mg/\b.ownsRow c 43 2 vl (eB l1 f a).length (aV (eB l1 f a))
  | .error p=>∃i a j e vP l,d=.returned (.tuple #[.slice i a j,.bool false])/\dF B b pb s T e g vC vP l/\(aH T e).pos=p
def aFr(B pb:Nat)(s:ByteArray)(T:List Tk)(g:Nat)(vC:Value)(mg d:Nat):Prop:=
 ∀(c:Nat) (a:bA) (vP vl:Value) (b:List Nd) (e:ByteArray) (w:World),bS B w pb s T ⟨a.i+1,a.vars,a.pz⟩ g vC vP mg->w.ownsRow c 43 2 vl (b.length+1) (aV (b++[(e,0)]))->B<=c->c<=w.heap.size->T.length<a.i+d->b.length+1<=a.i->a.pz.length<=a.i->a.vars.length<=a.i->
  Calls zx 133 #[.pointer (some ⟨pb,0,none⟩),vl] w λf i=>aFq B c pb w s T g vC mg b.length (dW T d a (b++[(e,0)]) 0) f i
theorem bS.parts{b:bA}(a:bS B w pb s T b g vC vP mg)(c d:Nat):bS B w pb s T ⟨b.i,b.vars,oR b.pz c d⟩ g vC vP mg:=
 ⟨a.pp,by rw [aVh,aVi];exact a.pz,a.map,a.mhigh⟩
theorem bQ.boxSet{a:Nat}{b:World}{left:Value}{i m:Int}{l:ByteArray}{k:Value}(c:bQ B a mg b w)(d:bM w pb left i m l vC vP k)(e:B<=pb)(f:Nat)(j:Value):bQ B a mg b (w.setCell ⟨pb,f,none⟩ j):=c.grownBox d e (cJ _ _ _)
section
variable {B B' pb:Nat}{s:ByteArray}{T:List Tk}{g:Nat}{vC vP vl:Value}{mg:Nat}{st:bA}{l:List Nd}{w:World}
theorem aPp{b c:World}{d:bA}{e:Value}{p:Pl}{tb:Nat}{q:Obj}{j:Obj}(C:bS B b pb s T d g vC vP mg)(H:b.ownsRow B' 43 2 vl l.length (aV l))(F:bQ B B' mg w b)(v:b.heap[tb]?=some q)(N:∃k,q=.cells k 47)(M:c.ownsRow B 3 1 e (d.pz.length+1) (mT d.pz++[.int .i64 p.2.2.2]))(i:(b.alloc j).grownBy c vP.ownBlock):c.cell? ⟨pb,5,none⟩=some vP/\c.frozen? ⟨pb,5,none⟩=false/\bS B (c.setCell ⟨pb,5,none⟩ e) pb s T ⟨d.i,d.vars,d.pz++[p]⟩ g vC e mg/\(c.setCell ⟨pb,5,none⟩ e).ownsRow B' 43 2 vl l.length (aV l)/\bQ B B' mg w (c.setCell ⟨pb,5,none⟩ e)/\(c.setCell ⟨pb,5,none⟩ e).heap[tb]?=some q:=by
 have f:=(Below.refl b.heap.size b).alloc (zz _) j;have a:=C.below f;obtain ⟨z,A,E⟩:=a.place (p:=p) M i;obtain ⟨x,y⟩:=a.pp.row_apart a.pz (by decide);obtain ⟨R,r,D⟩:=(a.pp.far i x y).box;have u:=bF H f (zz _);have I:=u.kept i (fQ u a.pz (by decide));have G:=(F.trans (.of_below f)).grownRow a.pz (zz _) (Or.inl rfl) i;have J:=(Array.getElem?_eq_some_iff.1 v).1;obtain ⟨k,rfl⟩:=N;have o:(b.alloc j).heap[tb]?=some (.cells k 47):=(f.block tb J).trans v;refine ⟨z,A,E,r.row I (by decide) _ _,G.boxSet r D _ _,?_⟩;have L:tb≠pb:=by rintro rfl;obtain ⟨S,n,_⟩:=a.pp.box;unfold bM at n;rw [o] at n;simp at n
 rw [Below.heap_setCell _ _ _ _ L,i.block tb (by have:=f.size;omega) ?_]
 ·exact o
 ·intro m;obtain ⟨_,⟨rfl,_⟩|⟨Q,O,P,rfl,_,t,_⟩⟩:=a.pz
  ·simp [Value.ownBlock] at m
  ·simp [Value.ownBlock] at m;subst m;rw [o] at t;simp at t
def aFs(a b:Nat):Except Nat (bA×List Nd×Nat)->Except Nat (bA×List Nd)
 | .error p=>.error p
 | .ok (st',l',n)=>.ok (⟨st'.i,st'.vars,oR st'.pz a n⟩,eB l' b n)
theorem aPq{o q:World}{d:Except Nat (bA×List Nd×Nat)}{f:Ending}{k:Nat}(n:bQ B B' mg w o)(t:aFq B B' pb o s T g vC mg l.length d f q):(∃a c b r,f=.returned (.tuple #[.slice a c b,.bool r]))/\rL B B' pb w s T g vC mg (aFs k l.length d) f q:=by
 obtain ⟨j,m⟩:=t;cases d with
 |error p=>
  obtain ⟨a,c,b,v,vP,x,rfl,i,e⟩:=m;exact ⟨⟨a,c,b,false,rfl⟩,n.trans j,a,c,b,v,vP,x,rfl,i,e⟩
 |ok d=>
  obtain ⟨z,y,c⟩:=d;obtain ⟨vl,vP,rfl,i,e⟩:=m;obtain ⟨a,b,u⟩:=aY e;exact ⟨⟨a,_,b,true,by rw [u]⟩,n.trans j,vl,vP,rfl,i.parts _ _,e⟩
theorem aPr(e:Bool)(n:Nat)(L:∀h7,(aH T h7).kind∈gJ)(M:s.size<=3000)(j2:T.length<=1000000)(d6:aFr B pb s T g vC mg n)(d:bS B w pb s T st g vC vP mg)(a6:w.ownsRow B' 43 2 vl l.length (aV l))(W:B<=B')(h3:B'<=w.heap.size)(t:(aH T st.i).kind=110)(j3:T.length<st.i+(n+1))(j4:l.length<=st.i)(j6:st.pz.length<=st.i)(j8:st.vars.length<=st.i):Calls zx 110 #[.pointer (some ⟨pb,0,none⟩),vl] w λy i6=>rL B B' pb w s T g vC mg (cB T (n+1) e st l) y i6:=by
 have j5:=d.pp.lt;obtain ⟨f2,d2,d3,d4,d5⟩:=info_parts rE;obtain ⟨left,z,_⟩:=d.pp.box;obtain ⟨h8,h9,rfl⟩:=aY a6;obtain ⟨b3,b4,rfl⟩:=aY d.pz;have c8:=z.c1;have c9:=z.c2;have d0:=z.c3;rw [t,show dN 110=97 from rfl] at c8;have P:=aA (λj=>lR 118 (by decide) (by decide) (by decide) L M (d.pp.below ((Below.refl w.heap.size w).alloc (zz _) j)));rw [show dN 118=65 from rfl,aF (by rw [t];decide),gH (by rw [t];decide)] at P;have Q:=aA (λA (F:dF B A pb s T st.i g vC (.slice b3 st.pz.length b4) (.map (some mg)))=>lR 110 (by decide) (by decide) (by decide) L M F);rw [show dN 110=97 from rfl,aG t,fH t] at Q;have V:=aA d;have b8:=aA a6;have I:=aA t;have c4:=aA L;have g0:=aA d6;clear d a6 z t L d6;obtain ⟨a,b1⟩ : ∃a,(aH T st.i).txt=a:=⟨_,rfl⟩;obtain ⟨c,b0⟩ : ∃c,(aH T st.i).pos=c:=⟨_,rfl⟩;rw [b0] at c9;rw [b1] at d0;have c6:=aA b1;have c5:=aA b0;clear b1 b0;go_enter zr,zt;go_upto_region 6 with (first
  |(go_at_call 58;refine (Q.o _ U.o).mono ?_;rintro y b ⟨rfl,e2,e8⟩;have D:=aA e2;have c1:=aA e8;clear e2 e8)
  |(go_at_call 58;refine (aC P _).mono ?_;rintro y A ⟨rfl,e1,e7⟩;have v:=aA e1;have U:=aA e7;clear e1 e7)
  |go_in)
 have J:=(Below.refl w.heap.size w).alloc (zz _) (.cells #[.int .i32 97,.int .i64 c,.string a] 47);have a0:=V.o.below J;have Y:=a0.take v.o U.o;have Z:=Y.take D.o c1.o;obtain ⟨k3,a2,d1⟩:=a0.pp.box;obtain ⟨k1,a1,_⟩:=Y.pp.box;have a8:=bF b8.o J (zz _);have a7:=a8.kept v.o (a2.apart a8 (by decide));have e4:=a7.kept D.o (a1.apart a7 (by decide));have a3:bQ B B' mg w b:=((bQ.of_below J).grownBox a2 d1 v.o).grownBox a1 d1 D.o;have j7:pb<w.heap.size:=by obtain ⟨left,z,_⟩:=V.o.pp.box;exact z.lt
 have N:b.heap[w.heap.size]?=some (.cells #[.int .i32 97,.int .i64 c,.string a] 47):=by rw [D.o.block w.heap.size (by have:=v.o.size;simp at this;omega) (by simp;omega),v.o.block w.heap.size (by simp) (by simp;omega)];show (w.heap.push _)[w.heap.size]?=_;simp
 have j9:=a3.size;obtain ⟨k2,e0,_⟩:=Z.pp.box;have f3:=e0.c5;have f4:b.cell? ⟨w.heap.size,1,none⟩=some (.int .i64 c):=by unfold zu;rw [N];rfl
 have i3:b.cell? ⟨w.heap.size,2,none⟩=some (.string a):=by unfold zu;rw [N];rfl
 have i1:∀j,(b.alloc j).cell? ⟨pb,5,none⟩=some (.slice b3 st.pz.length b4):=λj=>aD ((Below.refl b.heap.size b).alloc (zz _) j) f3
 have i2:∀j,(b.alloc j).cell? ⟨w.heap.size,1,none⟩=some (.int .i64 c):=λj=>aD ((Below.refl b.heap.size b).alloc (zz _) j) f4
 have c2:=aA Z;have b9:=aA e4;have b6:=aA a3;have c7:=aA N;clear J a0 Y Z a2 a1 e0 a8 a7 e4 a3 N V b8 U c1 v D P Q c8 c9 d0;go_cut [] (λO=>∃H,bS B O pb s T ⟨st.i+1,st.vars,st.pz++[(a,e,0,(c:Int))]⟩ g vC H mg/\O.ownsRow B' 43 2 (.slice h8 l.length h9) l.length (aV l)/\bQ B B' mg w O/\O.heap[w.heap.size]?=some (.cells #[.int .i32 97,.int .i64 c,.string a] 47));case first=>
  refine rV ?_;have f0:aI (bS B b.drew pb s T ⟨st.i+1,st.vars,st.pz⟩ g vC (.slice b3 st.pz.length b4) mg):=aA (c2.o.below (aQ (w1:=b.drew) ⟨1,rfl⟩));have h6:aI (bQ B B' mg w b.drew):=aA (b6.o.trans (.of_below (aQ (w1:=b.drew) ⟨1,rfl⟩)));go_region_law (refine nN ?g1 (.tmp 31) (.tmp 34) 33 3 ?g2 (.int .i64 0) 1 8 Tryz.underlying33 sI ?g3 ?g4 ?g5 B _ st.pz.length (mT st.pz) ?g6 (f0.out.pz.alloc _) ?g7 ?g8 b.heap.size 1 [.int .i64 c] ?g9 ?g10 (tS b.drew (.int .i64 c) 3 b.heap.size rfl) (aEa c) ?_;(case g1=>rfl);(case g2=>rfl);(case g3=>rfl);(case g4=>decide);(case g5=>decide);(case g6=>rfl);(case g7=>omega);(case g8=>(simp;omega));(case g9=>rfl);(case g10=>rfl);intro k5 k8 a9 e3;obtain ⟨i9,j1,e9⟩:=aPp (p:=(a,e,0,(c:Int))) (tb:=w.heap.size) f0.out b9.o h6.out c7.o ⟨_,rfl⟩ a9 e3;have f9:=aA e9;obtain ⟨k6,k7,rfl⟩:=aY a9;clear a9 e3 e9);all_goals
   refine pP ?_;go_wp2_with fail;go_meet;case rel=>exact ⟨_,f9.o⟩
 case rest=>
  obtain ⟨H,d7,e5,a4,f1⟩:=hcut;have i3:wc.cell? ⟨w.heap.size,2,none⟩=some (.string a):=by unfold zu;rw [f1];rfl
  have c3:=aA d7;have x:=aA e5;have b7:=aA a4;have k0:=a4.size;clear d7 e5 a4 f1 c2 b9 b6 c7 f3 i1 f4 i2;have c0:aI (∀(f:(aH T (st.i+1)).kind≠40),cB T (n+1) e st l=.ok (⟨st.i+1,st.vars,st.pz++[(a,e,0,(c:Int))]⟩,l++[(a,0)])):=aA λf=>by
   rw [cB,aF (by rw [I.o];exact λd=>absurd d.1 (by decide)),aF (by rw [I.o];decide),aF f,c6.o,c5.o]
  by_cases f:(aH T (st.i+1)).kind=40
  ·have C:=aA (λA (F:dF B A pb s T (st.i+1) g vC H (.map (some mg)))=>lR 40 (by decide) (by decide) (by decide) c4.o M F);rw [show dN 40=40 from rfl,aG f,fH f] at C;have h0:aI (cB T (n+1) e st l=aFs st.pz.length l.length (dW T n ⟨st.i+1,st.vars,st.pz++[(a,e,0,(c:Int))]⟩ (l++[(a,0)]) 0)):=aA (by
    rw [cB,aF (by rw [I.o];exact λd=>absurd d.1 (by decide)),aF (by rw [I.o];decide),aG f,c6.o,c5.o];cases dW T n ⟨st.i+1,st.vars,st.pz++[(a,e,0,(c:Int))]⟩ (l++[(a,0)]) 0 with
    |error p=>rfl
    |ok r=>rfl)
   go_wp2_with (first
    |(at_builtin;refine wpList_append_own _ rfl (.tmp 38) (.tmp 42) 39 rfl B' 43 f2 (.agg #[.string ⟨#[]⟩,.int .i64 0]) 2 24 zw d2 d3 d4 d5 rfl (by decide) _ _ _ rfl (x.o.alloc _) ⟨_,0,none⟩ 1 1 [.string a,.int .i64 0] rfl rfl (kH wc _ _ _ _ rfl) (aAf _ _) (by unfold maxLen;omega) (by omega) (by simp;omega) ?_;intro b2 b5 u q _;have m:=aA ((c3.o.below ((Below.refl wc.heap.size wc).alloc (zz _) _)).far (x.o.alloc _) (by decide) q);have R:=aA ((b7.o.trans (.of_below ((Below.refl wc.heap.size wc).alloc (zz _) _))).grownRow (x.o.alloc _) W (Or.inr ⟨rfl,zz _⟩) q);have E:aI (b5.ownsRow B' 43 2 b2 (l.length+1) (aV (l++[(a,0)]))):=aA (by rw [vD];exact u);obtain ⟨i4,i5,rfl⟩:=aY u;clear u q)
    |(go_at_call 58;refine (C.o _ m.o.pp).mono ?_;rintro y f5 ⟨rfl,i,G⟩;obtain ⟨i0,o,X⟩:=m.o.pp.box;have d8:=m.o.take i G;have e6:=E.o.kept i (o.apart E.o (by decide));have a5:=R.o.grownBox o X i;have f6:=aA (g0.o B' ⟨st.i+1,st.vars,st.pz++[(a,e,0,(c:Int))]⟩ H _ l a f5 d8 e6 W (zv h3 a5.size) (by simp;omega) (by simp;omega) (by simp;omega) (by simp;omega));have S:=aA a5;clear i G d8 e6 a5 o)
    |(go_at_call 133;refine (aC f6).mono ?_;intro y k9 h4;obtain ⟨⟨i7,k4,j0,i8,h5⟩,d9⟩:=aPq (k:=st.pz.length) S.o h4;subst h5;have h2:=aA d9;clear d9)
    |go_in)
   go_ret2;rw [h0.o];exact h2.o
  ·have C:=aA (λA (F:dF B A pb s T (st.i+1) g vC H (.map (some mg)))=>lR 40 (by decide) (by decide) (by decide) c4.o M F);rw [show dN 40=40 from rfl,aF f,gH f] at C;have f8:=aA (c0.o f);clear c0;go_wp2_with (first
    |(at_builtin;refine wpList_append_own _ rfl (.tmp 38) (.tmp 42) 39 rfl B' 43 f2 (.agg #[.string ⟨#[]⟩,.int .i64 0]) 2 24 zw d2 d3 d4 d5 rfl (by decide) _ _ _ rfl (x.o.alloc _) ⟨_,0,none⟩ 1 1 [.string a,.int .i64 0] rfl rfl (kH wc _ _ _ _ rfl) (aAf _ _) (by unfold maxLen;omega) (by omega) (by simp;omega) ?_;intro b2 b5 u q _;have m:=aA ((c3.o.below ((Below.refl wc.heap.size wc).alloc (zz _) _)).far (x.o.alloc _) (by decide) q);have R:=aA ((b7.o.trans (.of_below ((Below.refl wc.heap.size wc).alloc (zz _) _))).grownRow (x.o.alloc _) W (Or.inr ⟨rfl,zz _⟩) q);have E:aI (b5.ownsRow B' 43 2 b2 (l++[(a,0)]).length (aV (l++[(a,0)]))):=aA (by rw [vD,zy];exact u);obtain ⟨i4,i5,rfl⟩:=aY u;clear u q)
    |(go_at_call 58;refine (C.o _ m.o.pp).mono ?_;rintro y f5 ⟨rfl,i,G⟩;obtain ⟨i0,o,X⟩:=m.o.pp.box;have h1:=aA (m.o.take i G);have f7:=aA (E.o.kept i (o.apart E.o (by decide)));have S:=aA (R.o.grownBox o X i);clear i G o)
    |go_in)
   go_ret2;refine ⟨S.o,?_⟩;rw [f8.o];exact ⟨_,_,rfl,h1.o,f7.o⟩
end
theorem rL.shape{f:Nat}{e:Except Nat (bA×List Nd)}{d:Ending}{l:World}(c:rL B f pb w s T g vC mg e d l):∃a n b i,d=.returned (.tuple #[.slice a n b,.bool i]):=by
 obtain ⟨_,c⟩:=c;cases e with
 |error p=>obtain ⟨a,n,b,m,vP,r,rfl,_⟩:=c;exact ⟨a,n,b,false,rfl⟩
 |ok y=>
  obtain ⟨q,o⟩:=y;obtain ⟨vl,vP,rfl,_,j⟩:=c;obtain ⟨a,b,k⟩:=aY j;exact ⟨a,_,b,true,by rw [k]⟩
theorem aPs(b:List Nd)(a c:Nat)(d:a<b.length):∃e:ByteArray,(eB b a c)[a]'(by rw [uQ];exact d)=(e,(c:Int)):=by unfold eB;exact ⟨b[a].1,by rw [List.getElem_modify_eq]⟩
structure yG(B B' pb:Nat)(w:World)(s:ByteArray)(T:List Tk)(g:Nat)(vC:Value)(mg nm:Nat)(r:Except Nat (bA×List Nd×Nat))(k:Nat)(vl:Value)(wr:World)(st:bA)(L:List Nd)(n:Nat)(vP:Value):Prop where
 q:bS B wr pb s T ⟨st.i+1,st.vars,st.pz⟩ g vC vP mg
 row:wr.ownsRow B' 43 2 vl L.length (aV (eB L nm n))
 kept:bQ B B' mg w wr
 eq:r=dW T k st L n
 fuel:T.length<st.i+k
 nm:nm<L.length
 len:L.length<=st.i
 pl:st.pz.length<=st.i
 vs:st.vars.length<=st.i
 few:n<=st.i
theorem yG.step{B j pb:Nat}{w:World}{s:ByteArray}{T:List Tk}{g:Nat}{vC:Value}{mg m:Nat}{i:Except Nat (bA×List Nd×Nat)}{b:Nat}{vl:Value}{wr:World}{c:bA}{a:List Nd}{e:Nat}{vP:Value}(k:yG B j pb w s T g vC mg m i (b+1) vl wr c a e vP){f:Except Nat (bA×List Nd)}(l:cB T b false ⟨c.i+1,c.vars,c.pz⟩ []=f):match f with
  | .error p=>i=.error p
  | .ok (s1,x)=>i=if (aH T s1.i).kind=44 then dW T b s1 (a++x) (e+1) else if (aH T s1.i).kind=41 then .ok (⟨s1.i+1,s1.vars,s1.pz⟩,a++x,e+1) else .error (aH T s1.i).pos:=by
 have d:=k.eq;rw [dW,(aIr T b).1 false _ a,l] at d;cases f with
 |error p=>exact d
 |ok y=>exact d
theorem aPt{j:Nat}{d:World}{a:Nat}{n:bA}{e f:List Nd}{b:Nat}(r:bS B d pb s T n g vC vP mg)(i:d.ownsRow j 43 2 vl (eB e a b++f).length (aV (eB e a b++f)))(q:a<e.length)(o:B<=j)(p:bQ B j mg w d):∃c k,vl=.slice (some ⟨c,0,none⟩) (e++f).length k/\d.cell? ⟨c,a*2+1,none⟩=some (.int .i64 b)/\d.frozen? ⟨c,a*2+1,none⟩=false/\
   bS B (d.setCell ⟨c,a*2+1,none⟩ (.int .i64 ((b:Int)+1))) pb s T n g vC vP mg/\(d.setCell ⟨c,a*2+1,none⟩ (.int .i64 ((b:Int)+1))).ownsRow j 43 2 vl (e++f).length (aV (eB (e++f) a (b+1)))/\bQ B j mg w (d.setCell ⟨c,a*2+1,none⟩ (.int .i64 ((b:Int)+1))):=by
 rw [<-aVd e f a b q,uQ] at i;have m:a<(e++f).length:=by simp;omega
 obtain ⟨c,k,rfl⟩:=uO i (by omega);have l:d.grownBy (d.setCell ⟨c,a*2+1,none⟩ (.int .i64 ((b:Int)+1))) (some c):=cJ _ _ _;obtain ⟨u,t⟩:=aPs (e++f) a b m;refine ⟨c,k,rfl,?_,i.frozenAt _,r.far i (by decide) l,?_,p.grownRow i o (Or.inr ⟨rfl,zz _⟩) l⟩
 ·rw [i.cellAt _ (by omega),(vE _ a (by rw [uQ];exact m)).2,t]
 ·have:=(i.stored (a*2+1) (.int .i64 ((b+1:Nat):Int))).1;rw [aUw,aVf] at this;exact this
section
variable {B pb:Nat}{s:ByteArray}{T:List Tk}{g:Nat}{vC:Value}{mg:Nat}
theorem aPu(E:Nat)(c3:∀e5,(aH T e5).kind∈gJ)(c7:s.size<=3000)(f2:T.length<=1000000)(b7:∀Z,Z<E->aFp B pb s T g vC mg Z):aFr B pb s T g vC mg E:=by
 intro S a3 vP vl I b4 w a7 b1 c2 d8 d9 f6 a2 e4;have e0:=a7.pp.lt;simp only at e0;obtain ⟨e6,e7,rfl⟩:=aY b1;have d0:=aA b7;have b6:=aA c3;have a5:aI (yG B S pb w s T g vC mg I.length (dW T E a3 (I++[(b4,0)]) 0) E (.slice e6 (I.length+1) e7) w a3 (I++[(b4,0)]) 0 vP):=aA ⟨a7,by rw [aUx,zy];exact b1,bQ.refl _ _ _ _,rfl,d9,by simp,by simp;omega,a2,e4,Nat.zero_le _⟩;obtain ⟨D,b0⟩ : ∃D,dW T E a3 (I++[(b4,0)]) 0=D:=⟨_,rfl⟩;rw [b0] at a5;simp only [b0];have f7:I.length<=1000000:=by omega
 clear a7 b1 b7 c3 b0;generalize I.length=nm at *;go_enter Tryz.func133,Tryz.ntmps133;go_wp2;go_loopg [1] E (λZ vl wr=>Z<=E/\∃j q n b3,yG B S pb w s T g vC mg nm D Z vl wr j q n b3);case atStart=>exact ⟨zz _,a3,_,0,vP,a5.o⟩
 case round=>
  clear a5;obtain ⟨f5,j,q,n,b3,a⟩:=hrel;have e1:=a.q.pp.lt;simp only at e1;have f4:=a.fuel;have e2:=a.nm;have f8:=a.len;have g2:=a.pl;have g3:=a.vs;have f3:=a.few;obtain ⟨z,rfl⟩ : ∃z,gk=z+1:=⟨gk-1,by omega⟩;obtain ⟨g7,g8,rfl⟩:=aY a.row;have A:=aA (d0.o z (by omega) S false ⟨j.i+1,j.vars,j.pz⟩ b3 _ (eB q nm n) wr a.q (by rw [uQ];exact a.row) c2 (zv d8 a.kept.size) (by simp) (by simp;omega) (by rw [uQ];simp;omega) (by simp;omega) (by simp;omega));have N:=aA a;have c6:=(aIr T z).1 false ⟨j.i+1,j.vars,j.pz⟩ (eB q nm n);rw [c6] at A;clear c6;cases hq:cB T z false ⟨j.i+1,j.vars,j.pz⟩ [] with
  |error p=>
   have H:=N.o.step hq;rw [hq] at A;have d6:aI (D=.error p):=aA H;clear hq H a;go_wp2_with (first
    |(go_at_call 110;refine (aC A).mono ?_;rintro r b ⟨d,f0,g5,f1,g4,e,g6,rfl,a2,c5⟩;have d1:=aA d;have d2:=aA a2;have d4:=aA c5;clear d a2 c5)
    |go_in)
   go_ret2;refine ⟨N.o.kept.trans d1.o,?_⟩;rw [d6.o];exact ⟨_,_,_,_,_,_,rfl,d2.o,d4.o⟩
  |ok y=>
   obtain ⟨i,a4⟩:=y;have H:=N.o.step hq;simp only at H;have e3:=(uN T z).1 _ _ _ _ _ hq;simp only [List.length_nil] at e3;rw [hq] at A;obtain ⟨C,a9⟩ : ∃C,q++a4=C:=⟨_,rfl⟩;have c4:C.length=q.length+a4.length:=by rw [<-a9];simp
   have a0:=aA (λ(b:World) (e J:Value) (l:bS B b pb s T i g vC e mg) (m:b.ownsRow S 43 2 J (eB q nm n++a4).length (aV (eB q nm n++a4))) (d:bQ B S mg w b)=>aPt l m e2 c2 d);rw [a9] at H a0;have P:=aA H;have g0:(nm:Int)<(C.length:Int):=by omega
   have f9:(0:Int)<=(nm:Int):=by omega
   have g1:n<=1000000:=by omega
   have b5:=aA c4;clear hq H a a9 c4;have M:=aA (λb e (b2:dF B b pb s T i.i g vC e (.map (some mg)))=>lR 44 (by decide) (by decide) (by decide) b6.o c7 b2);rw [show dN 44=44 from rfl] at M;have L:=aA (λb e (b2:dF B b pb s T i.i g vC e (.map (some mg)))=>lR 41 (by decide) (by decide) (by decide) b6.o c7 b2);rw [show dN 41=41 from rfl] at L;by_cases F:(aH T i.i).kind=44
   ·rw [aG F,fH F] at M;have W:aI (D=dW T z i C (n+1)):=aA (by have:=P.o;rw [aG F] at this;exact this);clear P L;go_wp2_with (first
     |(go_at_call 58;refine (M.o _ _ f.o.pp).mono ?_;rintro r c9 ⟨rfl,c,u⟩;obtain ⟨c8,k,X⟩:=f.o.pp.box;have o:=aA (f.o.take c u);have a1:=aA (O.o.kept c (k.apart O.o (by decide)));have V:=aA (U.o.grownBox k X c);clear c u k)
     |(go_at_call 110;refine (aC A).mono ?_;rintro r b ⟨d,J,e,rfl,l,m⟩;obtain ⟨c1,c0,rfl,b8,b9,v,x,t⟩:=a0.o b e J l m (N.o.kept.trans d);have f:=aA v;have O:=aA x;have U:=aA t;clear d l m v x t)
     |go_in)
    go_roundg z;case measure=>omega
    case rel=>exact ⟨by omega,i,C,n+1,_,o.o,a1.o,V.o,W.o,by omega,by have:=b5.o;omega,by have:=b5.o;omega,by omega,by omega,by omega⟩
   ·rw [aF F,gH F] at M;by_cases Q:(aH T i.i).kind=41
    ·rw [aG Q,fH Q] at L;have W:aI (D=.ok (⟨i.i+1,i.vars,i.pz⟩,C,n+1)):=aA (by have:=P.o;rw [aF F,aG Q] at this;exact this);clear P;go_wp2_with (first
      |(go_at_call 58;refine (L.o _ _ o.o.pp).mono ?_;rintro r e9 ⟨rfl,G,Y⟩;obtain ⟨e8,R,a8⟩:=o.o.pp.box;have d5:=aA (o.o.take G Y);have d7:=aA (a1.o.kept G (R.apart a1.o (by decide)));have a6:=aA (V.o.grownBox R a8 G);clear G Y R)
      |(go_at_call 58;refine (M.o _ _ f.o.pp).mono ?_;rintro r c9 ⟨rfl,c,u⟩;obtain ⟨c8,k,X⟩:=f.o.pp.box;have o:=aA (f.o.take c u);have a1:=aA (O.o.kept c (k.apart O.o (by decide)));have V:=aA (U.o.grownBox k X c);clear c u k)
      |(go_at_call 110;refine (aC A).mono ?_;rintro r b ⟨d,J,e,rfl,l,m⟩;obtain ⟨c1,c0,rfl,b8,b9,v,x,t⟩:=a0.o b e J l m (N.o.kept.trans d);have f:=aA v;have O:=aA x;have U:=aA t;clear d l m v x t)
      |go_in)
     go_ret2;refine ⟨a6.o,?_⟩;rw [W.o];exact ⟨_,_,rfl,d5.o,by rw [uQ];exact d7.o⟩
    ·rw [aF Q,gH Q] at L;have W:aI (D=.error (aH T i.i).pos):=aA (by have:=P.o;rw [aF F,aF Q] at this;exact this);clear P;go_wp2_with (first
      |(go_at_call 58;refine (L.o _ _ o.o.pp).mono ?_;rintro r e9 ⟨rfl,G,Y⟩;obtain ⟨e8,R,a8⟩:=o.o.pp.box;have d3:=aA Y;have a6:=aA (V.o.grownBox R a8 G);clear G Y R)
      |(go_at_call 58;refine (M.o _ _ f.o.pp).mono ?_;rintro r c9 ⟨rfl,c,u⟩;obtain ⟨c8,k,X⟩:=f.o.pp.box;have o:=aA (f.o.take c u);have V:=aA (U.o.grownBox k X c);clear c u k)
      |(go_at_call 110;refine (aC A).mono ?_;rintro r b ⟨d,J,e,rfl,l,m⟩;obtain ⟨c1,c0,rfl,b8,b9,v,x,t⟩:=a0.o b e J l m (N.o.kept.trans d);have f:=aA v;have O:=aA x;have U:=aA t;clear d l m v x t)
      |go_in)
     go_ret2;refine ⟨a6.o,?_⟩;rw [W.o];exact ⟨_,_,_,_,_,_,rfl,d3.o,rfl⟩
theorem aPv(e:∀l,(aH T l).kind∈gJ)(y:∀l,(aH T l).txt.size<=1000000)(f:s.size<=3000)(i:T.length<=1000000):∀a,aFp B pb s T g vC mg a:=by
 intro a;induction a using Nat.strongRecOn with
 |_ a ih=>
  intro A c r vP vl D w d o m n u v p x q;have C:=d.pp.lt;obtain ⟨b,rfl⟩ : ∃b,a=b+1:=⟨a-1,by omega⟩;by_cases j:(aH T r.i).kind=110
  ·exact aPr c b e f i (aPu b e f i λz j=>ih z (by omega)) d o m n j v p x q
  ·by_cases k:(aH T r.i).kind=118
   ·have t:c=false:=by
     cases c
     ·rfl
     ·exact absurd k (u rfl)
    exact aPn c b e y f i d o m n k t p q
   ·exact aPo c b e f d k j
end
theorem aPw{a:bA}(f:∀j,(aH T j).kind∈gJ)(k:∀j,(aH T j).txt.size<=1000000)(v:s.size<=3000)(r:T.length<=1000000)(b:bS B w pb s T a g vC vP mg)(q:B<=w.heap.size)(u:a.pz.length<=a.i)(x:a.vars.length<=a.i):Calls zx 87 #[.pointer (some ⟨pb,0,none⟩)] w λd y=>rL B w.heap.size pb w s T g vC mg (cB T (T.length+1) true a []) d y:=by
 have D:=b.pp.lt;obtain ⟨left,i,_⟩:=b.pp.box;have p:=i.c1;by_cases c:(aH T a.i).kind=118
 ·have m:aI (cB T (T.length+1) true a []=.error (aH T a.i).pos):=aA (by rw [cB,aF (by simp),aG (by rw [c];decide)]);rw [c,show dN 118=65 from rfl] at p;have n:=aA b;clear b i;go_enter Tryz.func87,Tryz.ntmps87;go_wp2;go_ret2;refine ⟨bQ.refl _ _ _ _,?_⟩;rw [m.o];exact ⟨_,_,_,_,_,_,rfl,n.o.pp,rfl⟩
 ·have E:(dN (aH T a.i).kind==65)=false:=by
   rw [beq_eq_false_iff_ne];exact λd=>c (aAr _ (f a.i) 118 (by decide) (by rw [d];rfl))
  have l:=aA (aPv (B:=B) (pb:=pb) (g:=g) (vC:=vC) (mg:=mg) f k v r (T.length+1) w.heap.size true a vP (.slice none 0 0) [] w b (zq _ _ _ _) q (zz _) (λ_=>c) (by omega) (Nat.zero_le _) u x);generalize dN (aH T a.i).kind=K at *;clear b i c f k;go_enter Tryz.func87,Tryz.ntmps87;go_wp2_with (first
   |(go_at_call 110;refine (aC l).mono ?_;intro d G e;obtain ⟨z,F,C,A,t⟩:=e.shape;subst t;have o:=aA e;clear e)
   |go_in)
  go_ret2;exact o.o
def aPx(B pb:Nat)(w:World)(s:ByteArray)(T:List Tk)(g:Nat)(vC:Value)(mg:Nat)(l:Except Nat (bA×List Lt))(e:Ending)(a:World):Prop:=
 bQ B w.heap.size mg w a/\
  match l with
  | .ok (s1,c)=>∃b i vP,e=.returned (.tuple #[i,.bool true])/\bS B a pb s T s1 g vC vP mg/\a.ownsRow w.heap.size 41 2 i b.length (bC b)/\(∀d∈b,a.ownsRow w.heap.size 43 2 d.2 d.1.2.length (aV d.1.2))/\b.map Prod.fst=c
  | .error p=>∃j k c f vP m,e=.returned (.tuple #[.slice j k c,.bool false])/\dF B a pb s T f g vC vP m/\(aH T f).pos=p
structure LLq(B pb:Nat)(w:World)(s:ByteArray)(T:List Tk)(g:Nat)(vC:Value)(mg:Nat)(r:Except Nat (bA×List Lt))(k:Nat)(vc:Value)(wr:World)(st:bA)(P:List (Lt×Value))(vP:Value):Prop where
 q:bS B wr pb s T st g vC vP mg
 kept:bQ B w.heap.size mg w wr
 row:wr.ownsRow w.heap.size 41 2 vc P.length (bC P)
 atoms:∀q∈P,wr.ownsRow w.heap.size 43 2 q.2 q.1.2.length (aV q.1.2)
 eq:r=fN T k st (P.map Prod.fst)
 fuel:T.length<st.i+k
 pl:st.pz.length<=st.i
 vs:st.vars.length<=st.i
 few:P.length<=st.i
section
variable {B pb:Nat}{w w1 w2 w3:World}{s:ByteArray}{T:List Tk}{g:Nat}{vC vP vc:Value}{mg:Nat}{st:bA}{P:List (Lt×Value)}
theorem vN{d:bA}(f:bS B w1 pb s T d g vC vP mg)(m:bQ B w.heap.size mg w w1)(j:w1.ownsRow w.heap.size 41 2 vc P.length (bC P))(e:∀a∈P,w1.ownsRow w.heap.size 43 2 a.2 a.1.2.length (aV a.1.2)){k:Nat}(b:w1.grownBy w2 (some pb))(n:dF B w2 pb s T k g vC vP (.map (some mg))):bS B w2 pb s T ⟨k,d.vars,d.pz⟩ g vC vP mg/\bQ B w.heap.size mg w w2/\w2.ownsRow w.heap.size 41 2 vc P.length (bC P)/\(∀a∈P,w2.ownsRow w.heap.size 43 2 a.2 a.1.2.length (aV a.1.2)):=by
 obtain ⟨left,c,l⟩:=f.pp.box;exact ⟨f.take b n,m.grownBox c l b,j.kept b (c.apart j (by decide)),λa i=>(e a i).kept b (c.apart (e a i) (by decide))⟩
theorem aFu{n:bA}{b:List Nd}(m:bS B w1 pb s T n g vC vP mg)(c:bQ B w.heap.size mg w w1)(j:w1.ownsRow w.heap.size 41 2 vc P.length (bC P))(e:∀a∈P,w1.ownsRow w.heap.size 43 2 a.2 a.1.2.length (aV a.1.2))(d:bQ B w1.heap.size mg w1 w2)(l:w2.ownsRow w1.heap.size 43 2 vl b.length (aV b)):bQ B w.heap.size mg w w2/\w2.ownsRow w.heap.size 41 2 vc P.length (bC P)/\(∀a∈P,w2.ownsRow w.heap.size 43 2 a.2 a.1.2.length (aV a.1.2))/\w2.ownsRow w.heap.size 43 2 vl b.length (aV b):=by
 obtain ⟨o,f,_⟩:=m.map;exact ⟨c.trans (d.mono c.size),d.own j (by decide) (by intro k;exact absurd k (by decide)) (rJ j f),λa i=>d.own (e a i) (by decide) (λ_=>zz _) (rJ (e a i) f),gS l c.size⟩
theorem aFv{m:bA}{n:Value}{x:Lt}{i:Obj}(v:bS B w2 pb s T m g vC vP mg)(r:bQ B w.heap.size mg w w2)(y:w2.ownsRow w.heap.size 41 2 vc P.length (bC P))(p:∀a∈P,w2.ownsRow w.heap.size 43 2 a.2 a.1.2.length (aV a.1.2))(t:w2.ownsRow w.heap.size 43 2 vl x.2.length (aV x.2))
  (u:w3.ownsRow w.heap.size 41 2 n (P.length+1) (bC P++[.bool x.1,vl])) (b:(w2.alloc i).grownBy w3 vc.ownBlock):bS B w3 pb s T m g vC vP mg/\bQ B w.heap.size mg w w3/\w3.ownsRow w.heap.size 41 2 n (P++[(x,vl)]).length (bC (P++[(x,vl)]))/\(∀a∈P++[(x,vl)],w3.ownsRow w.heap.size 43 2 a.2 a.1.2.length (aV a.1.2)):=by
 have d:=(Below.refl w2.heap.size w2).alloc (zz _) i;have e:=bF y d (zz _);have j:=λa hq'=>bF (p a hq') d (zz _)
 have l:=bF t d (zz _);refine ⟨(v.below d).far e (by decide) b,?_,by rw [xR,zy];exact u,λa hq'=>?_⟩
 ·have c:=r.trans (bQ.of_below (B:=B) (B':=w.heap.size) (mg:=mg) d);exact ⟨b.os.trans c.os,b.tape.trans c.tape,b.output.trans c.output,zv c.size b.size,λf k q=>by
   rw [b.block f (Nat.lt_of_lt_of_le k c.size) (λo=>by have:=(cL e f o.symm).1;omega),c.block f k q]⟩
 ·rcases List.mem_append.1 hq' with hq'|hq'
  ·exact (j a hq').kept b (fQ (j a hq') e (by decide))
  ·simp at hq';subst hq';exact l.kept b (fQ l e (by decide))
theorem aPy(a3:∀R,(aH T R).kind∈gJ)(a8:∀R,(aH T R).txt.size<=1000000)(Q:s.size<=3000)(b8:T.length<=1000000)(Y:bS B w pb s T st g vC vP mg)(b7:B<=w.heap.size)(e:st.pz.length<=st.i)(a7:st.vars.length<=st.i):Calls zx 59 #[.pointer (some ⟨pb,0,none⟩)] w λi c7=>aPx B pb w s T g vC mg (fN T (T.length+1) st []) i c7:=by
 obtain ⟨a9,Z,a0,a1,a2⟩:=info_parts sK;have J:aI (LLq B pb w s T g vC mg (fN T (T.length+1) st []) (T.length+1) (.slice none 0 0) w st [] vP):=aA ⟨Y,bQ.refl _ _ _ _,zq _ _ _ _,λd8 k=>by simp at k,rfl,by omega,e,a7,by simp⟩;obtain ⟨u,N⟩ : ∃u,fN T (T.length+1) st []=u:=⟨_,rfl⟩;rw [N] at J;simp only [N];have M:=aA a3;have b6:=aA a8;clear Y N a3 a8 e a7;go_enter Tryz.func59,Tryz.ntmps59;go_wp2;go_loopg [4] (T.length+1) (λc3 vc wr=>∃x P V,LLq B pb w s T g vC mg u c3 vc wr x P V);case atStart=>exact ⟨st,[],vP,J.o⟩
 case round=>
  clear J;obtain ⟨x,P,V,j⟩:=hrel;have d3:=j.q.pp.lt;have d2:=j.fuel;have d4:=j.pl;have d5:=j.vs;have d1:=j.few;obtain ⟨I,rfl⟩ : ∃I,gk=I+1:=⟨gk-1,by omega⟩;obtain ⟨e2,e3,rfl⟩:=aY j.row;obtain ⟨d9,e0,b0,b1⟩:=aCq T x;have A:=aA (lR 126 (by decide) (by decide) (by decide) M.o Q j.q.pp);rw [show dN 126=126 from rfl] at A;have C:=aA (λw1 (b9:w.heap.size<=w1.heap.size) (c1:bS B w1 pb s T (iJ T x) g vC V mg)=>aPw M.o b6.o Q b8 c1 (zv b7 b9) (by rw [b1];omega) (by rw [b0];omega));have b:=aA j;obtain ⟨l,O⟩ : ∃l,decide ((aH T x.i).kind=126)=l:=⟨_,rfl⟩;rw [O] at A;have W:=aA O;clear j O;cases k:cB T (T.length+1) true (iJ T x) [] with
  |error p=>
   rw [k] at C;have D:aI (u=.error p):=aA (by rw [b.o.eq,zC k]);clear k;go_wp2_with (first
    |(go_at_call 87;refine (C.o _ a.o.2.1.size a.o.1).mono ?_;rintro i w2 ⟨o,c9,d7,d0,d6,b2,e1,rfl,a5,a6⟩;have b3:=aA (a.o.2.1.trans (o.mono a.o.2.1.size));have b4:=aA a5;have b5:=aA a6;clear o a5 a6)
    |(go_at_call 58;refine (aC A).mono ?_;rintro i w1 ⟨rfl,n,e⟩;have a:=aA (vN b.o.q b.o.kept b.o.row b.o.atoms n e);clear n e)
    |go_in)
   go_ret2;refine ⟨b3.o,?_⟩;rw [D.o];exact ⟨_,_,_,_,_,_,rfl,b4.o,b5.o⟩
  |ok y=>
   obtain ⟨m,t⟩:=y;have a4:=(uN T (T.length+1)).1 _ _ _ _ _ k;simp only [List.length_nil] at a4;rw [b0,b1] at a4;rw [k] at C;have X:=aA k;clear k;have z:=aA (λw3 vP3 (c0:dF B w3 pb s T m.i g vC vP3 (.map (some mg)))=>lR 124 (by decide) (by decide) (by decide) M.o Q c0);rw [show dN 124=124 from rfl] at z;by_cases v:(aH T m.i).kind=124
   ·rw [aG v,fH v] at z;have D:aI (∀vl,u=fN T I ⟨m.i+1,m.vars,m.pz⟩ ((P++[((l,t),vl)]).map Prod.fst)):=aA (λvl=>by rw [b.o.eq,aCo X.o v,W.o,List.map_append,zs]);go_wp2_with (first
     |(go_at_call 58;refine (z.o _ _ d.o.1.pp).mono ?_;rintro i c8 ⟨rfl,F,G⟩;have f:=aA (vN d.o.1 d.o.2.1 d.o.2.2.1 d.o.2.2.2 F G);clear F G)
     |(at_builtin;refine wpList_append_own _ rfl (.tmp 17) (.tmp 21) 29 rfl w.heap.size 41 a9 (.agg #[.bool false,.slice none 0 0]) 2 32 zp Z a0 a1 a2 rfl (by decide) _ _ _ rfl (c.o.2.1.alloc _) ⟨_,0,none⟩ 1 1 [.bool l,.slice S t.length U] rfl rfl (kH w2 _ _ _ _ rfl) (sL _ _ _ _) (by unfold maxLen;omega) (by omega) (by simp;omega) ?_;intro c4 w3 r E _;have d:=aA (aFv (x:=(l,t)) L.o c.o.1 c.o.2.1 c.o.2.2.1 c.o.2.2.2 r E);obtain ⟨c5,c6,rfl⟩:=aY r;clear r E)
     |(go_at_call 87;refine (C.o _ a.o.2.1.size a.o.1).mono ?_;rintro i w2 ⟨o,vl,b2,rfl,H,q⟩;obtain ⟨S,U,rfl⟩:=aY q;have c:=aA (aFu a.o.1 a.o.2.1 a.o.2.2.1 a.o.2.2.2 o q);have L:=aA H;have c2:=c.o.1.size;clear o H q)
     |(go_at_call 58;refine (aC A).mono ?_;rintro i w1 ⟨rfl,n,e⟩;have a:=aA (vN b.o.q b.o.kept b.o.row b.o.atoms n e);clear n e)
     |go_in)
    go_roundg I;case measure=>omega
    case rel=>exact ⟨⟨m.i+1,m.vars,m.pz⟩,P++[((l,t),_)],_,f.o.1,f.o.2.1,f.o.2.2.1,f.o.2.2.2,D.o _,by simp;omega,by simp;omega,by simp;omega,by simp;omega⟩
   ·rw [aF v,gH v] at z;have D:aI (∀vl,u=.ok (m,(P++[((l,t),vl)]).map Prod.fst)):=aA (λvl=>by rw [b.o.eq,aCp X.o v,W.o,List.map_append,zs]);go_wp2_with (first
     |(go_at_call 58;refine (z.o _ _ d.o.1.pp).mono ?_;rintro i c8 ⟨rfl,F,G⟩;have f:=aA (vN d.o.1 d.o.2.1 d.o.2.2.1 d.o.2.2.2 F G);clear F G)
     |(at_builtin;refine wpList_append_own _ rfl (.tmp 17) (.tmp 21) 29 rfl w.heap.size 41 a9 (.agg #[.bool false,.slice none 0 0]) 2 32 zp Z a0 a1 a2 rfl (by decide) _ _ _ rfl (c.o.2.1.alloc _) ⟨_,0,none⟩ 1 1 [.bool l,.slice S t.length U] rfl rfl (kH w2 _ _ _ _ rfl) (sL _ _ _ _) (by unfold maxLen;omega) (by omega) (by simp;omega) ?_;intro c4 w3 r E _;have d:=aA (aFv (x:=(l,t)) L.o c.o.1 c.o.2.1 c.o.2.2.1 c.o.2.2.2 r E);obtain ⟨c5,c6,rfl⟩:=aY r;clear r E)
     |(go_at_call 87;refine (C.o _ a.o.2.1.size a.o.1).mono ?_;rintro i w2 ⟨o,vl,b2,rfl,H,q⟩;obtain ⟨S,U,rfl⟩:=aY q;have c:=aA (aFu a.o.1 a.o.2.1 a.o.2.2.1 a.o.2.2.2 o q);have L:=aA H;have c2:=c.o.1.size;clear o H q)
     |(go_at_call 58;refine (aC A).mono ?_;rintro i w1 ⟨rfl,n,e⟩;have a:=aA (vN b.o.q b.o.kept b.o.row b.o.atoms n e);clear n e)
     |go_in)
    go_ret2;refine ⟨f.o.2.1,?_⟩;rw [D.o];exact ⟨_,_,_,rfl,f.o.1,f.o.2.2.1,f.o.2.2.2,rfl⟩
end
