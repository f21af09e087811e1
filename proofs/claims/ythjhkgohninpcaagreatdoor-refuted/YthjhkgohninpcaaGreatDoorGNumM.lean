import Derived.Test.YthjhkgohninpcaaGreatDoorONum0M
import Derived.StringKeys
import Derived.Test.YthjhkgohninpcaaGreatDoorGEmpM
open List renaming length_append→zw
open Nat renaming le_refl→zz,lt_of_lt_of_le→zn,le_trans→zl
open Or renaming inr→zr
namespace Go.Proofs.YthjhkgohninpcaaGreatDoor
open _root_.Go.Proofs.Tryz renaming prog→zx,underlying68→zu,underlying53→zt,underlying9→zs,ntmps147→zo,func163→zm,func147→zk
open Value renaming ownBlock→zy
open World renaming cell?→zq
open Go.RowKit Go.WideMaps
set_option maxHeartbeats 4000000
set_option maxRecDepth 100000
variable{s wd:ByteArray}{k:Int}{T:List Tk}{xs:List Value}{B B' g pb:Nat}{e:TypeId}{left v vC vM vP:Value}{a w w':World}
def nE(v:Value):Option (DataW Unit×List MemPlace):=
 match v with
 | .int .i64 x=>some (.lit (.int .i64 x),[])
 |_=>none
theorem aH2{c:Int}{d:List MemPlace}(b:nE v=some (.lit (.int .i64 c),d)):v=.int .i64 c:=by
 unfold nE at b;split at b
 ·simp at b;rw [b.1]
 ·simp at b
theorem aH3{b:ByteArray}(c:s.data.toList=b.data.toList):s=b:=by obtain ⟨⟨d⟩⟩:=s;obtain ⟨⟨f⟩⟩:=b;simp at c;rw [c]
structure pX(D:DataW Unit)(sn:List ByteArray):Prop where
 tidy:Maps.Tidy D
 size:Maps.size D=sn.length
 old:∀x,0<=jL sn x->Maps.has D (.string x.data.toList)=true/\∀z,D.atKey (.string x.data.toList) z=.lit (.int .i64 (jL sn x))
 new:∀x,jL sn x<0->Maps.has D (.string x.data.toList)=false
theorem pX.start:pX (.map []) []:=⟨⟨[],rfl,by simp⟩,rfl,λc b=>by rw [aV9] at b;omega,λc _=>rfl⟩
theorem pX.put{l:DataW Unit}{i:List ByteArray}{x:ByteArray}(b:pX l i)(o:jL i x<0):pX (l.put (.string x.data.toList) (.lit (.int .i64 i.length))) (i++[x]):=by
 have j:WideAt.IsKeyLit (.string x.data.toList):=trivial;refine ⟨b.tidy.put j _,?_,λy c=>?_,λy c=>?_⟩
 ·rw [Maps.size_put b.tidy,b.new x o,b.size];simp
 ·rw [aB5] at c ⊢;by_cases d:x=y
  ·subst d;rw [aJ rfl];exact ⟨Maps.has_put_same b.tidy.isMap j _,λn=>Maps.atKey_put_same b.tidy.isMap j _ _⟩
  ·rw [aI d] at c ⊢;have f:(Lit.string y.data.toList)≠.string x.data.toList:=λe=>d (aH3 (by simpa using e.symm))
   have m:=b.old y c;exact ⟨by rw [Maps.has_put_other f];exact m.1,λn=>by rw [Maps.atKey_put_other f];exact m.2 n⟩
 ·rw [aB5] at c;by_cases d:x=y
  ·rw [aJ d] at c;omega
  ·rw [aI d] at c;have f:(Lit.string y.data.toList)≠.string x.data.toList:=λe=>d (aH3 (by simpa using e.symm))
   rw [Maps.has_put_other f];exact b.new y c
theorem aPc(g:Nat)(j:DataW Unit)(b:List ByteArray)(c:ByteArray)(w:World)(m:w.ownsMap zx 9 nE g b.length j)(d:pX j b)(E:b.length<=1000000)(G:c.size<=1000000):Calls zx 163 #[.map (some g),.string c] w λe w'=>∃t:DataW Unit,e=.returned (.int .i64 (lB b c))/\w'.ownsMap zx 9 nE g (lA b c).length t/\pX t (lA b c)/\w.grownBy w' (some g):=by
 have n:keyOf zx 9 (.string c)=some (.string c.data.toList):=keyOf_string_mk zs (by unfold maxLen;omega);obtain ⟨v,H,y,i⟩:=m.look_ok (Maps.string_keyed zs) zu (Tryz.zeroValue3 _) (zd:=.lit (.int .i64 0)) (zp:=[]) rfl n;by_cases f:jL b c<0
 ·have l:aG (lA b c=b++[c]/\lB b c=(b.length:Int)):=aA (by unfold lA lB;rw [aJ f,aJ f];exact ⟨rfl,rfl⟩);have p:=d.new c f;rw [p] at y;rw [aAj d.tidy.isMap p] at i;have r:=aH2 i;subst r;have o:=aA (d.put f);have A:=aA n;have F:=d.size;clear i p d n f;go_enter zm,Tryz.ntmps163;go_wp2_with (first
   |(at_len;refine wpList_len_own _ rfl _ 68 rfl 9 3 zu _ g b.length j rfl m ?_)
   |(at_mapUpdate;refine wpList_mapUpdate_own _ rfl _ _ _ 68 rfl 9 3 (Maps.string_keyed zs) zu nE g b.length j rfl m (by unfold maxLen;omega) _ _ (.string c.data.toList) rfl rfl (aB A) (.lit (.int .i64 b.length)) [] ?_ ?_)
   |go_in)
  case refine_1=>rfl
  intro I x u;have C:=aA x;have z:=aA u;clear x u;go_wp2;go_ret;rw [l.o.1,l.o.2];exact ⟨_,rfl,by rw [zw];exact C.o,o.o,z.o⟩
 ·have l:aG (lA b c=b/\lB b c=jL b c):=aA (by unfold lA lB;rw [aI f,aI f];exact ⟨rfl,rfl⟩);have q:=d.old c (by omega);rw [q.1] at y;rw [q.2] at i;have r:=aH2 i;subst r;have o:=aA d;have D:=aA m;clear i q d n f m;go_enter zm,Tryz.ntmps163;go_wp2;go_ret;rw [l.o.1,l.o.2];exact ⟨j,rfl,D.o,o.o,⟨rfl,rfl,rfl,zz _,λ_ _ _=>rfl⟩⟩
theorem aPd(b f:List Nd)(k d:Nat)(c:k<b.length):dR (b++f) k d=dR b k d++f:=by
 induction b generalizing k with
 |nil=>simp at c
 |cons x t ih=>
  cases k with
  |zero=>rfl
  |succ k=>
   have:=ih k (by simpa using c);unfold dR at this ⊢;simpa using this
theorem aPe(b d:List Nd)(k c:Nat):dR (b++d) (b.length+k) c=b++dR d k c:=by
 induction b with
 |nil=>simp
 |cons x t ih=>
  unfold dR at ih ⊢;simp only [List.length_cons,List.cons_append];rw [show t.length+1+k=t.length+k+1 by omega];simpa using ih
theorem wI(b:List Nd)(k c:Nat):(dR b k c).length=b.length:=by simp [dR]
theorem aPf(b:List Nd)(k d c:Nat):dR (dR b k d) k c=dR b k c:=by
 induction b generalizing k with
 |nil=>simp [dR]
 |cons x t ih=>
  cases k with
  |zero=>rfl
  |succ k=>
   have:=ih k;unfold dR at this ⊢;simpa using this
theorem aH4(T:List Tk):∀d,(∀i b c,cJ T d i b c=match cJ T d i b [] with | .error p=>.error p | .ok (s,r)=>.ok (s,c++r))/\(∀b c f,eA T d b c f=match eA T d b [] f with | .error p=>.error p | .ok (s,r,k)=>.ok (s,c++r,k)):=by
 intro d;induction d with
 |zero=>exact ⟨λi b c=>by simp [cJ],λb c f=>by simp [eA]⟩
 |succ d ih=>
  obtain ⟨n,j⟩:=ih;constructor
  ·intro i b c;rw [cJ,cJ];split
   ·simp
   ·split
    ·simp
    ·split
     ·rw [j _ (c++[((aH T b.i).txt,0)]) 0,j _ ([]++[((aH T b.i).txt,0)]) 0];cases eA T d ⟨b.i+1,b.vars,b.pz++[((aH T b.i).txt,i,0,((aH T b.i).pos:Int))]⟩ [] 0 with
      |error p=>rfl
      |ok r=>
       obtain ⟨m,l,o⟩:=r;simp only [List.nil_append,List.length_nil];have:=aPe c ([((aH T b.i).txt,0)]++l) 0 o;rw [List.append_assoc,show c.length=c.length+0 from rfl,this]
     ·simp
  ·intro b c f;rw [eA,eA,n false _ c];cases hq:cJ T d false ⟨b.i+1,b.vars,b.pz⟩ [] with
   |error p=>rfl
   |ok r=>
    obtain ⟨m,l⟩:=r;simp only;split
    ·rw [j m (c++l) (f+1),j m l (f+1)];cases eA T d m [] (f+1) with
     |error p=>rfl
     |ok r=>simp
    ·split
     ·rfl
     ·rfl
def nF(b:List Pl):List Value:=b.map λp=>.int .i64 p.2.2.2
theorem aPg(b:List Pl)(c:Pl):nF (b++[c])=nF b++[.int .i64 c.2.2.2]:=by simp [nF]
theorem aPh(b:List Pl)(k c:Nat):nF (jM b k c)=nF b:=by
 induction b generalizing k with
 |nil=>simp [jM]
 |cons x t ih=>
  cases k with
  |zero=>rfl
  |succ k=>
   have:=ih k;unfold jM nF at this ⊢;simpa using this
theorem aPi(b:List Pl)(k c:Nat):(jM b k c).length=b.length:=by simp [jM]
structure cB(B B' mg:Nat)(w w':World):Prop where
 os:w'.os=w.os
 tape:w'.tape=w.tape
 output:w'.output=w.output
 size:w.heap.size<=w'.heap.size
 block:∀k,k<w.heap.size->(k<B\/(k≠mg/\∀cs T fr,w.heap[k]?=some (.cells cs T fr)->T≠3/\T≠70/\(T=106->k<B')))->w'.heap[k]?=w.heap[k]?
theorem cB.refl(B B' mg:Nat)(w:World):cB B B' mg w w:=⟨rfl,rfl,rfl,zz _,λ_ _ _=>rfl⟩
theorem cB.trans{B B' mg:Nat}{a b d:World}(c:cB B B' mg a b)(k:cB B B' mg b d):cB B B' mg a d:=
 ⟨k.os.trans c.os,k.tape.trans c.tape,k.output.trans c.output,zl c.size k.size,λj i f=>by
  have e:=c.block j i f;rw [k.block j (zn i c.size) (by rw [e];exact f),e]⟩
theorem cB.of_below{mg:Nat}(b:aC w w'):cB B B' mg w w':=⟨b.os,b.tape,b.output,b.size,λk c _=>b.block k c⟩
theorem cB.below{mg:Nat}(b:cB B B' mg w w')(d:B<=w.heap.size):Below B w w':=⟨b.os,b.tape,b.output,b.size,λk c=>b.block k (by omega) (Or.inl c)⟩
theorem cB.mono{d f i:Nat}(b:cB B f i w w')(q:d<=f):cB B d i w w':=
 ⟨b.os,b.tape,b.output,b.size,λk t c=>b.block k t (c.imp id λ⟨m,c⟩=>⟨m,λj T l r=>by
  obtain ⟨n,o,p⟩:=c j T l r;exact ⟨n,o,λe=>zn (p e) q⟩⟩)⟩
theorem cB.grownBox{d:Nat}{l:Int}(f:cB B B' d a w)(i:bV w pb left k l wd vC vP vM)(m:B<=pb)(b:w.grownBy w' (some pb)):cB B B' d a w':=by
 refine f.trans ⟨b.os,b.tape,b.output,b.size,λk j c=>b.block k j ?_⟩;intro e;simp at e;subst e;rcases c with c|⟨_,c⟩
 ·omega
 ·exact (c _ _ _ i).2.1 rfl
theorem cB.grownMap{d:Nat}(f:cB B B' d a w)(j:B<=d)(b:w.grownBy w' (some d)):cB B B' d a w':=by
 refine f.trans ⟨b.os,b.tape,b.output,b.size,λk i c=>b.block k i ?_⟩;intro e;simp at e;subst e;rcases c with c|⟨c,_⟩
 ·omega
 ·exact c rfl
theorem cB.grownRow{i d:Nat}{t:Nat}{r:Nat}(j:cB B B' i a w)(q:w.ownsRow d e t v r xs)(y:B<=d)(n:e=3\/e=106/\B'<=d)(b:w.grownBy w' v.ownBlock):cB B B' i a w':=by
 refine j.trans ⟨b.os,b.tape,b.output,b.size,λk p c=>b.block k p ?_⟩;intro f;obtain ⟨_,⟨rfl,_⟩|⟨g,u,x,rfl,z,o,_⟩⟩:=q
 ·simp [zy] at f
 ·simp [zy] at f;subst f;rcases c with c|⟨_,c⟩
  ·omega
  ·obtain ⟨l,_,m⟩:=c _ _ _ o;rcases n with rfl|⟨rfl,A⟩
   ·exact l rfl
   ·have:=m rfl;omega
theorem cB.own{l f:Nat}{m:Nat}{n:Nat}(q:cB B B' l w w')(C:w.ownsRow f e m v n xs)(j:e≠3/\e≠70)(A:e=106->w.heap.size<=B')(z:v.ownBlock≠some l):w'.ownsRow f e m v n xs:=by
 obtain ⟨i,⟨rfl,r⟩|⟨g,o,p,rfl,t,c,u,y,E,D⟩⟩:=C
 ·exact ⟨i,Or.inl ⟨rfl,r⟩⟩
 ·have x:=(Array.getElem?_eq_some_iff.1 c).1;refine ⟨i,zr ⟨g,o,p,rfl,t,?_,u,y,E,D⟩⟩;rw [q.block g x (zr ⟨λb=>z (by rw [b];rfl),λF T G d=>?_⟩)]
  ·exact c
  ·rw [c] at d;simp at d;obtain ⟨_,rfl,_⟩:=d;exact ⟨j.1,j.2,λb=>by have:=A b;omega⟩
theorem bV.apart{a:Int}(b:bV w pb left k a wd vC vP vM){B:Nat}{e:TypeId}{l:Nat}{v:Value}{j:Nat}{xs:List Value}(i:w.ownsRow B e l v j xs)(d:e≠70):v.ownBlock=none\/v.ownBlock≠some pb:=by
 obtain ⟨_,⟨rfl,_⟩|⟨g,m,n,rfl,_,f,_⟩⟩:=i
 ·exact Or.inl rfl
 ·right;intro c;simp [zy] at c;subst c;unfold bV at b;rw [f] at b;simp at b;exact d b.2
theorem tF{n:Nat}{m d k:Nat}{f:DataW Unit}(i:w.ownsRow B e n v m xs)(l:w.ownsMap zx 9 nE d k f):v.ownBlock≠some d:=by
 obtain ⟨r,p,j,_⟩:=l;intro b;obtain ⟨_,⟨rfl,_⟩|⟨g,o,q,rfl,_,c,_⟩⟩:=i
 ·simp [zy] at b
 ·simp [zy] at b;subst b;rw [j] at c;cases c
theorem aA9{a:Int}{c j:Nat}{d:DataW Unit}(b:bV w pb left k a wd vC vP vM)(i:w.ownsMap zx 9 nE c j d):pb≠c:=by obtain ⟨m,l,f,_⟩:=i;rintro rfl;unfold bV at b;rw [f] at b;cases b
structure cE(B:Nat)(w:World)(pb:Nat)(s:ByteArray)(T:List Tk)(st:aY)(g:Nat)(vC vP:Value)(mg:Nat):Prop where
 pp:eD B w pb s T st.i g vC vP (.map (some mg))
 pz:w.ownsRow B 3 1 vP st.pz.length (nF st.pz)
 map:∃D,w.ownsMap zx 9 nE mg st.vars.length D/\pX D st.vars
 mhigh:B<=mg
section
variable {B:Nat}{w w':World}{pb:Nat}{s:ByteArray}{T:List Tk}{i g:Nat}{vC vP vM:Value}
theorem eD.below(d:eD B w pb s T i g vC vP vM)(k:aC w w'):eD B w' pb s T i g vC vP vM:=by obtain ⟨f,j,m,c,b⟩:=d;exact ⟨f,j,m,c,b.sc.below k,b.lt,b.on⟩
theorem eD.box(c:eD B w pb s T i g vC vP vM):∃left,bV w pb left (eF (aH T i).kind) (aH T i).pos (aH T i).txt vC vP vM/\B<=pb:=by obtain ⟨l,j,f,d,b⟩:=c;exact ⟨_,b.sc.box,b.sc.high⟩
theorem eD.lt(b:eD B w pb s T i g vC vP vM):i<T.length:=by obtain ⟨l,j,f,d,c⟩:=b;exact c.lt
theorem eD.far(m:eD B w pb s T i g vC vP vM){d:Option Nat}(f:w.grownBy w' d)(n:d≠some pb)(o:d≠some g):eD B w' pb s T i g vC vP vM:=by obtain ⟨r,j,q,l,b⟩:=m;refine ⟨r,j,q,l,⟨?_,b.sc.high,b.sc.row.kept f (zr λe=>o (by rw [<-e];rfl)),b.sc.len,b.sc.drop,b.sc.le⟩,b.lt,b.on⟩;have c:=b.sc.box;have p:=c.lt;unfold bV at c ⊢;rw [f.block pb p (λe=>n e.symm)];exact c
theorem eD.glyph(d:eD B w pb s T i g vC vP vM):∃b c,w.heap[g]?=some (.cells b 149 c):=by
 obtain ⟨r,p,q,l,f⟩:=d;obtain ⟨_,⟨e,_⟩|⟨o,m,n,e,_,j,_⟩⟩:=f.sc.row
 ·simp at e
 ·simp at e;obtain ⟨rfl,_⟩:=e;exact ⟨_,_,j⟩
end
section
variable {B:Nat}{w w' w2:World}{pb:Nat}{s:ByteArray}{T:List Tk}{st:aY}{g mg:Nat}{vC vP:Value}
theorem cE.below(b:cE B w pb s T st g vC vP mg)(k:aC w w'):cE B w' pb s T st g vC vP mg:=by obtain ⟨c,d,f⟩:=b.map;exact ⟨b.pp.below k,bB b.pz k (zz _),⟨c,d.kept (nI k none) (by simp),f⟩,b.mhigh⟩
theorem cE.take(b:cE B w pb s T st g vC vP mg){i:Nat}(f:w.grownBy w' (some pb))(m:eD B w' pb s T i g vC vP (.map (some mg))):cE B w' pb s T ⟨i,st.vars,st.pz⟩ g vC vP mg:=by obtain ⟨j,c,l⟩:=b.map;obtain ⟨left,d,_⟩:=b.pp.box;exact ⟨m,b.pz.kept f (d.apart b.pz (by decide)),⟨j,c.kept f (by simpa using λe=>aA9 d c e.symm),l⟩,b.mhigh⟩
theorem eD.row_apart{n:Nat}(d:eD B w pb s T n g vC vP vM){j:Nat}{e:TypeId}{p:Nat}{v:Value}{o:Nat}{xs:List Value}(i:w.ownsRow j e p v o xs)(f:e≠70/\e≠149):v.ownBlock≠some pb/\v.ownBlock≠some g:=by
 obtain ⟨left,l,_⟩:=d.box;obtain ⟨r,u,c⟩:=d.glyph;constructor
 ·rcases l.apart i f.1 with e|e
  ·rw [e];simp
  ·exact e
 ·intro b;obtain ⟨_,⟨rfl,_⟩|⟨x,q,t,rfl,_,m,_⟩⟩:=i
  ·simp [zy] at b
  ·simp [zy] at b;subst b;rw [m] at c;simp at c;exact f.2 c.2.1
theorem cE.far(b:cE B w pb s T st g vC vP mg){j:Nat}{e:TypeId}{q:Nat}{v:Value}{n:Nat}{xs:List Value}(f:w.ownsRow j e q v n xs)(c:e≠70/\e≠149/\e≠3)(d:w.grownBy w' v.ownBlock):cE B w' pb s T st g vC vP mg:=by obtain ⟨l,i,p⟩:=b.map;obtain ⟨m,o⟩:=b.pp.row_apart f ⟨c.1,c.2.1⟩;exact ⟨b.pp.far d m o,b.pz.kept d (bW b.pz f c.2.2.symm),⟨l,i.kept d (λe=>tF f i e.symm),p⟩,b.mhigh⟩
theorem cE.var(b:cE B w pb s T st g vC vP mg){f:List ByteArray}{c:DataW Unit}(i:w.grownBy w' (some mg))(o:w'.ownsMap zx 9 nE mg f.length c)(l:pX c f):cE B w' pb s T ⟨st.i,f,st.pz⟩ g vC vP mg:=by obtain ⟨p,d,x⟩:=b.map;obtain ⟨left,m,_⟩:=b.pp.box;obtain ⟨r,u,n⟩:=b.pp.glyph;refine ⟨b.pp.far i (by simpa using λe=>aA9 m d e.symm) ?_,b.pz.kept i (zr (tF b.pz d)),⟨c,o,l⟩,b.mhigh⟩;intro e;simp at e;subst e;obtain ⟨t,q,j,_⟩:=d;rw [n] at j;cases j
theorem cE.place(c:cE B w pb s T st g vC vP mg){v:Value}{p:Pl}(r:w2.ownsRow B 3 1 v (st.pz.length+1) (nF st.pz++[.int .i64 p.2.2.2]))(j:w.grownBy w2 vP.ownBlock):w2.cell? ⟨pb,5,none⟩=some vP/\w2.frozen? ⟨pb,5,none⟩=false/\cE B (w2.setCell ⟨pb,5,none⟩ v) pb s T ⟨st.i,st.vars,st.pz++[p]⟩ g vC v mg:=by
 obtain ⟨l,f,q⟩:=c.map;obtain ⟨m,n⟩:=c.pp.row_apart c.pz (by decide);obtain ⟨x,t,u,o,b⟩:=c.pp.far j m n;have d:=b.sc.box;have i:=f.kept j (λe=>tF c.pz f e.symm);refine ⟨d.c5,d.soft 5,⟨⟨x,t,u,o,⟨heap_setCell_same w2 pb 5 _ _ _ d,b.sc.high,d.row b.sc.row (by decide) _ _,b.sc.len,b.sc.drop,b.sc.le⟩,b.lt,b.on⟩,d.row ?_ (by decide) _ _,⟨l,i.setCell (λe=>aA9 d i e.symm) _,q⟩,c.mhigh⟩⟩;rw [aPg,zw];exact r
end
def tG(B B' pb:Nat)(w:World)(s:ByteArray)(T:List Tk)(g:Nat)(vC:Value)(mg:Nat)(i:Except Nat (aY×List Nd))(e:Ending)(w':World):Prop:=
 cB B B' mg w w'/\
  match i with
  | .ok (s1,l1)=>∃c vP,e=.returned (.tuple #[c,.bool true])/\cE B w' pb s T s1 g vC vP mg/\w'.ownsRow B' 106 2 c l1.length (aP l1)
  | .error p=>∃a f d b vP vM,e=.returned (.tuple #[.slice a f d,.bool false])/\eD B w' pb s T b g vC vP vM/\(aH T b).pos=p
def aH5(B pb:Nat)(s:ByteArray)(T:List Tk)(g:Nat)(vC:Value)(i f:Nat):Prop:=
 ∀(B':Nat) (d:Bool) (b:aY) (vP j:Value) (c:List Nd) (w:World),cE B w pb s T b g vC vP i->w.ownsRow B' 106 2 j c.length (aP c)->B<=B'->B'<=w.heap.size->(d=true->(aH T b.i).kind≠118)->T.length<b.i+f->c.length<=b.i->b.pz.length<=b.i->b.vars.length<=b.i->
  Calls zx 147 #[.pointer (some ⟨pb,0,none⟩),j] w λe w'=>tG B B' pb w s T g vC i (cJ T f d b c) e w'
section
variable {B B' pb:Nat}{s:ByteArray}{T:List Tk}{g:Nat}{vC vP vl:Value}{mg:Nat}{st:aY}{l:List Nd}{w:World}
theorem aPj{w1 b c:World}{o:DataW Unit}{j:List ByteArray}{u:Value}{n:Int}{p:Obj}{m:aY}(f:cE B w1 pb s T m g vC vP mg)(r:w1.ownsRow B' 106 2 vl l.length (aP l))(y:B<=B')(A:cB B B' mg w w1)
  (i:w1.grownBy b (some mg)) (C:b.ownsMap zx 9 nE mg j.length o) (z:pX o j) (D:c.ownsRow B' 106 2 u (l.length+1) (aP l++[.string ⟨#[]⟩,.int .i64 n])) (q:(b.alloc p).grownBy c vl.ownBlock):cE B c pb s T ⟨m.i,j,m.pz⟩ g vC vP mg/\c.ownsRow B' 106 2 u (l++[((⟨#[]⟩ : ByteArray),n)]).length (aP (l++[((⟨#[]⟩ : ByteArray),n)]))/\cB B B' mg w c:=by
 obtain ⟨F,E,_⟩:=f.map;have x:=f.var i C z;have t:=r.kept i (zr (tF r E));have d:=(Below.refl b.heap.size b).alloc (zz _) p;refine ⟨(x.below d).far (bB t d (zz _)) (by decide) q,by rw [pT,zw];exact D,?_⟩;exact ((A.grownMap f.mhigh i).trans (.of_below d)).grownRow (bB t d (zz _)) y (zr ⟨rfl,zz _⟩) q
theorem aPk(L:Bool)(O:Nat)(P:∀F,(aH T F).kind∈iO)(a1:∀F,(aH T F).txt.size<=1000000)(b4:s.size<=3000)(c3:T.length<=1000000)(f:cE B w pb s T st g vC vP mg)(C:w.ownsRow B' 106 2 vl l.length (aP l))(b1:B<=B')(b8:B'<=w.heap.size)(q:(aH T st.i).kind=118)(b3:L=false)(c4:l.length<=st.i)(c6:st.vars.length<=st.i):Calls zx 147 #[.pointer (some ⟨pb,0,none⟩),vl] w λe w'=>tG B B' pb w s T g vC mg (cJ T (O+1) L st l) e w':=by
 subst b3;have c5:=f.pp.lt;obtain ⟨c8,b9,c0,c1,c2⟩:=info_parts nB;obtain ⟨left,c,_⟩:=f.pp.box;obtain ⟨c9,d0,rfl⟩:=aW C;rw [q,show eF 118=65 from rfl] at c;have b0:=c.c1;have M:=c.c2;have N:=c.c3;have m:=aA (λb6=>mL 118 (by decide) (by decide) (by decide) P b4 (f.pp.below ((Below.refl w.heap.size w).alloc (zz _) b6)));rw [q,show eF 118=65 from rfl] at m;simp only [if_true,decide_true] at m;have I:aG (cJ T (O+1) false st l=.ok (⟨st.i+1,lA st.vars (aH T st.i).txt,st.pz⟩,l++[(⟨#[]⟩,lB st.vars (aH T st.i).txt)])):=aA (by rw [cJ,aJ ⟨q,rfl⟩]);obtain ⟨d,a0⟩ : ∃d,(aH T st.i).txt=d:=⟨_,rfl⟩;obtain ⟨r,Z⟩ : ∃r,(aH T st.i).pos=r:=⟨_,rfl⟩;have a2:=a1 st.i;rw [a0] at N I a2;rw [Z] at M;have n:=aA f;have u:=aA C;clear f C c q a1 P a0 Z;go_enter zk,zo;go_upto_region 3 with (first
  |(go_at_call 90;refine (aB m _).mono ?_;rintro e b ⟨rfl,o,W⟩;have Y:=(n.o.below ((Below.refl w.heap.size w).alloc (zz _) _)).take o W;have j:=o.block w.heap.size (by simp) (by obtain ⟨left,c,_⟩:=n.o.pp.box;have:=c.lt;simp;omega);have z:=aA Y;have J:=aA j;have t:=aA o;clear o W Y j)
  |go_in)
 have j:b.heap[w.heap.size]?=some (.cells #[.int .i32 65,.int .i64 r,.string d] 63):=J.o.trans (by show (w.heap.push _)[w.heap.size]?=_;simp);have d4:b.cell? ⟨w.heap.size,2,none⟩=some (.string d):=by unfold zq;rw [j];rfl
 obtain ⟨d1,Q,_⟩:=z.o.pp.box;have d3:=Q.c6;have i:=(Below.refl w.heap.size w).alloc (zz _) (.cells #[.int .i32 65,.int .i64 r,.string d] 63);obtain ⟨d2,A,b2⟩:=(n.o.below i).pp.box;have H:aG (cB B B' mg w b):=aA ((cB.of_below i).grownBox A b2 t.o);have x:=aA ((bB u.o i (zz _)).kept t.o (A.apart (bB u.o i (zz _)) (by decide)));obtain ⟨a4,D,U⟩:=z.o.map;have a3:=aA (aPc mg a4 st.vars d b.drew D U (by omega) a2);have c7:=H.o.size;have a8:=aA D;clear D U j Q A i n u J t m b0 M N;go_region_law (first
  |(refine aJ7 (by rfl) 163 _ _ (by rfl) (enters_of zm (by kernel_rfl) rfl) _ (by rfl) (aB a3) ?_;rintro e G ⟨b7,rfl,S,V,p⟩;refine ⟨_,rfl,?_⟩;have a7:=aA S;have a9:=aA V;have a5:=aA p;have a6:=aA (World.ownsRow.kept (w:=b.drew) x.o p (zr (tF x.o a8.o)));have b5:=p.size;clear S V p)
  |(refine mC ?g1 (.tmp 13) (.tmp 22) 53 106 ?g2 (.agg #[.string ⟨#[]⟩,.int .i64 0]) 2 24 zt nB ?g3 ?g4 ?g5 B' _ l.length (aP l) ?g6 (a6.o.alloc _) ?g7 ?g8 G.heap.size 1 [.string ⟨#[]⟩,.int .i64 (lB st.vars d)] ?g9 ?g10 (fS G _ _ 106 G.heap.size rfl) (pU _ _) ?_;(case g1=>rfl);(case g2=>rfl);(case g3=>rfl);(case g4=>decide);(case g5=>decide);(case g6=>rfl);(case g7=>omega);(case g8=>(simp at b5 ⊢;omega));(case g9=>rfl);(case g10=>rfl);intro d5 d8 E R;have X:=aPj (w1:=b.drew) (z.o.below (aL (w1:=b.drew) ⟨1,rfl⟩)) x.o b1 (H.o.trans (.of_below (aL (w1:=b.drew) ⟨1,rfl⟩))) a5.o a7.o a9.o E R;have y:=aA X;obtain ⟨d6,d7,rfl⟩:=aW E;clear E R X))
 all_goals
  go_wp2;go_ret2;refine ⟨y.o.2.2,?_⟩;rw [I.o];exact ⟨_,_,rfl,y.o.1,y.o.2.1⟩
theorem aPl(r:Bool)(t:Nat)(i:∀P,(aH T P).kind∈iO)(D:s.size<=3000)(b:cE B w pb s T st g vC vP mg)(d:(aH T st.i).kind≠118)(f:(aH T st.i).kind≠110):Calls zx 147 #[.pointer (some ⟨pb,0,none⟩),vl] w λe w'=>tG B B' pb w s T g vC mg (cJ T (t+1) r st l) e w':=by
 obtain ⟨left,c,_⟩:=b.pp.box;have R:=c.c1;have L:=c.c2;have S:=c.c3;have n:=aA (λQ=>mL 118 (by decide) (by decide) (by decide) i D (b.pp.below ((Below.refl w.heap.size w).alloc (zz _) Q)));rw [show eF 118=65 from rfl,aI d,dE d] at n;have o:=aA (λE (O:eD B E pb s T st.i g vC vP (.map (some mg)))=>mL 110 (by decide) (by decide) (by decide) i D O);rw [show eF 110=97 from rfl,aI f,dE f] at o;have p:aG (cJ T (t+1) r st l=.error (aH T st.i).pos):=aA (by rw [cJ,aI (λe=>d e.1),aJ f]);have I:=aA b;clear b c i d f;generalize eF (aH T st.i).kind=K at *;generalize (aH T st.i).txt=tx at *;obtain ⟨m,j⟩ : ∃m,(aH T st.i).pos=m:=⟨_,rfl⟩;rw [j] at L p;have J:=aA j;clear j;go_enter zk,zo;go_wp2_with (first
  |(go_at_call 90;refine (o.o _ q.o).mono ?_;rintro e W ⟨rfl,z,C⟩;have G:=aA z;have H:=aA C;clear z C)
  |(go_at_call 90;refine (aB n _).mono ?_;rintro e E ⟨rfl,y,A⟩;have F:=aA y;have q:=aA A;clear y A)
  |go_in)
 go_ret2;have u:=(Below.refl w.heap.size w).alloc (zz _) (.cells #[.int .i32 K,.int .i64 m,.string tx] 63);obtain ⟨V,N,x⟩:=(I.o.below u).pp.box;obtain ⟨U,M,_⟩:=q.o.box;refine ⟨((cB.of_below u).grownBox N x F.o).grownBox M x G.o,?_⟩;rw [p.o];exact ⟨_,_,_,_,_,_,rfl,H.o,J.o⟩
end
def aH6(B B' pb:Nat)(w:World)(s:ByteArray)(T:List Tk)(g:Nat)(vC:Value)(d f:Nat)(l:Except Nat (aY×List Nd×Nat))(e:Ending)(w':World):Prop:=
 cB B B' d w w'/\
  match l with
  | .ok (s1,l1,b)=>∃i vP,e=.returned (.tuple #[i,.bool true])/\cE B w' pb s T s1 g vC vP d/\w'.ownsRow B' 106 2 i (dR l1 f b).length (aP (dR l1 f b))
  | .error p=>∃a b j c vP vM,e=.returned (.tuple #[.slice a b j,.bool false])/\eD B w' pb s T c g vC vP vM/\(aH T c).pos=p
def aH7(B pb:Nat)(s:ByteArray)(T:List Tk)(g:Nat)(vC:Value)(f d:Nat):Prop:=
 ∀(B':Nat) (b:aY) (vP i:Value) (c:List Nd) (j:ByteArray) (w:World),cE B w pb s T ⟨b.i+1,b.vars,b.pz⟩ g vC vP f->w.ownsRow B' 106 2 i (c.length+1) (aP (c++[(j,0)]))->B<=B'->B'<=w.heap.size->T.length<b.i+d->c.length+1<=b.i->b.pz.length<=b.i->b.vars.length<=b.i->
  Calls zx 164 #[.pointer (some ⟨pb,0,none⟩),i] w λe w'=>aH6 B B' pb w s T g vC f c.length (eA T d b (c++[(j,0)]) 0) e w'
theorem cE.parts{c:aY}{d:Nat}(b:cE B w pb s T c g vC vP d)(k n:Nat):cE B w pb s T ⟨c.i,c.vars,jM c.pz k n⟩ g vC vP d:=
 ⟨b.pp,by rw [aPh,aPi];exact b.pz,b.map,b.mhigh⟩
theorem cB.boxSet{b:Nat}{l:Int}(c:cB B B' b a w)(d:bV w pb left k l wd vC vP vM)(f:B<=pb)(i:Nat)(j:Value):cB B B' b a (w.setCell ⟨pb,i,none⟩ j):=c.grownBox d f (bX _ _ _)
section
variable {B B' pb:Nat}{s:ByteArray}{T:List Tk}{g:Nat}{vC vP vl:Value}{mg:Nat}{st:aY}{l:List Nd}{w:World}
theorem aPm{c d:World}{f:aY}{p:Pl}{tb:Nat}{r:Obj}{m:Obj}(E:cE B c pb s T f g vC vP mg)(J:c.ownsRow B' 106 2 vl l.length (aP l))(H:cB B B' mg w c)(y:c.heap[tb]?=some r)(P:∃n,r=.cells n 63)(O:d.ownsRow B 3 1 v (f.pz.length+1) (nF f.pz++[.int .i64 p.2.2.2]))(j:(c.alloc m).grownBy d vP.ownBlock):d.cell? ⟨pb,5,none⟩=some vP/\d.frozen? ⟨pb,5,none⟩=false/\cE B (d.setCell ⟨pb,5,none⟩ v) pb s T ⟨f.i,f.vars,f.pz++[p]⟩ g vC v mg/\(d.setCell ⟨pb,5,none⟩ v).ownsRow B' 106 2 vl l.length (aP l)/\cB B B' mg w (d.setCell ⟨pb,5,none⟩ v)/\(d.setCell ⟨pb,5,none⟩ v).heap[tb]?=some r:=by
 have i:=(Below.refl c.heap.size c).alloc (zz _) m;have b:=E.below i;obtain ⟨C,D,G⟩:=b.place (p:=p) O j;obtain ⟨z,A⟩:=b.pp.row_apart b.pz (by decide);obtain ⟨U,t,F⟩:=(b.pp.far j z A).box;have x:=bB J i (zz _);have L:=x.kept j (bW x b.pz (by decide));have I:=(H.trans (.of_below i)).grownRow b.pz (zz _) (Or.inl rfl) j;have M:=(Array.getElem?_eq_some_iff.1 y).1;obtain ⟨n,rfl⟩:=P;have q:(c.alloc m).heap[tb]?=some (.cells n 63):=(i.block tb M).trans y;refine ⟨C,D,G,t.row L (by decide) _ _,I.boxSet t F _ _,?_⟩;have N:tb≠pb:=by rintro rfl;obtain ⟨V,o,_⟩:=b.pp.box;unfold bV at o;rw [q] at o;simp at o
 rw [Below.heap_setCell _ _ _ _ N,j.block tb (by have:=i.size;omega) ?_]
 ·exact q
 ·intro e;obtain ⟨_,⟨rfl,_⟩|⟨S,Q,R,rfl,_,u,_⟩⟩:=b.pz
  ·simp [zy] at e
  ·simp [zy] at e;subst e;rw [q] at u;simp at u
def aH8(k b:Nat):Except Nat (aY×List Nd×Nat)->Except Nat (aY×List Nd)
 | .error p=>.error p
 | .ok (st',l',n)=>.ok (⟨st'.i,st'.vars,jM st'.pz k n⟩,dR l' b n)
theorem aPn{o q:World}{d:Except Nat (aY×List Nd×Nat)}{e:Ending}{k:Nat}(n:cB B B' mg w o)(t:aH6 B B' pb o s T g vC mg l.length d e q):(∃a c b r,e=.returned (.tuple #[.slice a c b,.bool r]))/\tG B B' pb w s T g vC mg (aH8 k l.length d) e q:=by
 obtain ⟨j,m⟩:=t;cases d with
 |error p=>
  obtain ⟨a,c,b,x,vP,vM,rfl,i,f⟩:=m;exact ⟨⟨a,c,b,false,rfl⟩,n.trans j,a,c,b,x,vP,vM,rfl,i,f⟩
 |ok d=>
  obtain ⟨z,y,c⟩:=d;obtain ⟨vl,vP,rfl,i,f⟩:=m;obtain ⟨a,b,u⟩:=aW f;exact ⟨⟨a,_,b,true,by rw [u]⟩,n.trans j,vl,vP,rfl,i.parts _ _,f⟩
theorem aPo(i:Bool)(q:Nat)(N:∀h9,(aH T h9).kind∈iO)(O:s.size<=3000)(j3:T.length<=1000000)(d8:aH7 B pb s T g vC mg q)(f:cE B w pb s T st g vC vP mg)(a8:w.ownsRow B' 106 2 vl l.length (aP l))(Y:B<=B')(h5:B'<=w.heap.size)(x:(aH T st.i).kind=110)(j4:T.length<st.i+(q+1))(j5:l.length<=st.i)(j7:st.pz.length<=st.i)(j9:st.vars.length<=st.i):Calls zx 147 #[.pointer (some ⟨pb,0,none⟩),vl] w λe w'=>tG B B' pb w s T g vC mg (cJ T (q+1) i st l) e w':=by
 have j6:=f.pp.lt;obtain ⟨f4,d4,d5,d6,d7⟩:=info_parts nB;obtain ⟨left,C,_⟩:=f.pp.box;obtain ⟨i0,i1,rfl⟩:=aW a8;obtain ⟨b5,b6,rfl⟩:=aW f.pz;have d0:=C.c1;have d1:=C.c2;have d2:=C.c3;rw [x,show eF 110=97 from rfl] at d0;have R:=aA (λn=>mL 118 (by decide) (by decide) (by decide) N O (f.pp.below ((Below.refl w.heap.size w).alloc (zz _) n)));rw [show eF 118=65 from rfl,aI (by rw [x];decide),dE (by rw [x];decide)] at R;have S:=aA (λD (H:eD B D pb s T st.i g vC (.slice b5 st.pz.length b6) (.map (some mg)))=>mL 110 (by decide) (by decide) (by decide) N O H);rw [show eF 110=97 from rfl,aJ x,eI x] at S;have X:=aA f;have c0:=aA a8;have L:=aA x;have c6:=aA N;have h1:=aA d8;clear f a8 C x N d8;obtain ⟨b,b3⟩ : ∃b,(aH T st.i).txt=b:=⟨_,rfl⟩;obtain ⟨d,b2⟩ : ∃d,(aH T st.i).pos=d:=⟨_,rfl⟩;rw [b2] at d1;rw [b3] at d2;have c8:=aA b3;have c7:=aA b2;clear b3 b2;go_enter zk,zo;go_upto_region 6 with (first
  |(go_at_call 90;refine (S.o _ W.o).mono ?_;rintro e c ⟨rfl,e4,f0⟩;have F:=aA e4;have c3:=aA f0;clear e4 f0)
  |(go_at_call 90;refine (aB R _).mono ?_;rintro e D ⟨rfl,e3,e9⟩;have z:=aA e3;have W:=aA e9;clear e3 e9)
  |go_in)
 have M:=(Below.refl w.heap.size w).alloc (zz _) (.cells #[.int .i32 97,.int .i64 d,.string b] 63);have a2:=X.o.below M;have a0:=a2.take z.o W.o;have a1:=a0.take F.o c3.o;obtain ⟨k4,a4,d3⟩:=a2.pp.box;obtain ⟨k2,a3,_⟩:=a0.pp.box;have b0:=bB c0.o M (zz _);have a9:=b0.kept z.o (a4.apart b0 (by decide));have e6:=a9.kept F.o (a3.apart a9 (by decide));have a5:cB B B' mg w c:=((cB.of_below M).grownBox a4 d3 z.o).grownBox a3 d3 F.o;have j8:pb<w.heap.size:=by obtain ⟨left,C,_⟩:=X.o.pp.box;exact C.lt
 have P:c.heap[w.heap.size]?=some (.cells #[.int .i32 97,.int .i64 d,.string b] 63):=by rw [F.o.block w.heap.size (by have:=z.o.size;simp at this;omega) (by simp;omega),z.o.block w.heap.size (by simp) (by simp;omega)];show (w.heap.push _)[w.heap.size]?=_;simp
 have k0:=a5.size;obtain ⟨k3,e2,_⟩:=a1.pp.box;have f5:=e2.c5;have f6:c.cell? ⟨w.heap.size,1,none⟩=some (.int .i64 d):=by unfold zq;rw [P];rfl
 have i5:c.cell? ⟨w.heap.size,2,none⟩=some (.string b):=by unfold zq;rw [P];rfl
 have i3:∀n,(c.alloc n).cell? ⟨pb,5,none⟩=some (.slice b5 st.pz.length b6):=λn=>aD ((Below.refl c.heap.size c).alloc (zz _) n) f5
 have i4:∀n,(c.alloc n).cell? ⟨w.heap.size,1,none⟩=some (.int .i64 d):=λn=>aD ((Below.refl c.heap.size c).alloc (zz _) n) f6
 have c4:=aA a1;have c1:=aA e6;have b8:=aA a5;have c9:=aA P;clear M a2 a0 a1 a4 a3 e2 b0 a9 e6 a5 P X c0 W c3 z F R S d0 d1 d2;go_cut [] (λQ=>∃J,cE B Q pb s T ⟨st.i+1,st.vars,st.pz++[(b,i,0,(d:Int))]⟩ g vC J mg/\Q.ownsRow B' 106 2 (.slice i0 l.length i1) l.length (aP l)/\cB B B' mg w Q/\Q.heap[w.heap.size]?=some (.cells #[.int .i32 97,.int .i64 d,.string b] 63));case first=>
  refine sG ?_;have f2:aG (cE B c.drew pb s T ⟨st.i+1,st.vars,st.pz⟩ g vC (.slice b5 st.pz.length b6) mg):=aA (c4.o.below (aL (w1:=c.drew) ⟨1,rfl⟩));have h8:aG (cB B B' mg w c.drew):=aA (b8.o.trans (.of_below (aL (w1:=c.drew) ⟨1,rfl⟩)));go_region_law (refine mC ?g1 (.tmp 31) (.tmp 34) 25 3 ?g2 (.int .i64 0) 1 8 Tryz.underlying25 rR ?g3 ?g4 ?g5 B _ st.pz.length (nF st.pz) ?g6 (f2.out.pz.alloc _) ?g7 ?g8 c.heap.size 1 [.int .i64 d] ?g9 ?g10 (nC c.drew (.int .i64 d) 3 c.heap.size rfl) (aA2 d) ?_;(case g1=>rfl);(case g2=>rfl);(case g3=>rfl);(case g4=>decide);(case g5=>decide);(case g6=>rfl);(case g7=>omega);(case g8=>(simp;omega));(case g9=>rfl);(case g10=>rfl);intro k6 k9 b1 e5;obtain ⟨j0,j2,f1⟩:=aPm (p:=(b,i,0,(d:Int))) (tb:=w.heap.size) f2.out c1.o h8.out c9.o ⟨_,rfl⟩ b1 e5;have h0:=aA f1;obtain ⟨k7,k8,rfl⟩:=aW b1;clear b1 e5 f1);all_goals
   refine qD ?_;go_wp2_with fail;go_meet;case rel=>exact ⟨_,h0.o⟩
 case rest=>
  obtain ⟨J,d9,e7,a6,f3⟩:=hcut;have i5:wc.cell? ⟨w.heap.size,2,none⟩=some (.string b):=by unfold zq;rw [f3];rfl
  have c5:=aA d9;have A:=aA e7;have b9:=aA a6;have k1:=a6.size;clear d9 e7 a6 f3 c4 c1 b8 c9 f5 i3 f6 i4;have c2:aG (∀(j:(aH T (st.i+1)).kind≠40),cJ T (q+1) i st l=.ok (⟨st.i+1,st.vars,st.pz++[(b,i,0,(d:Int))]⟩,l++[(b,0)])):=aA λj=>by
   rw [cJ,aI (by rw [L.o];exact λf=>absurd f.1 (by decide)),aI (by rw [L.o];decide),aI j,c8.o,c7.o]
  by_cases j:(aH T (st.i+1)).kind=40
  ·have E:=aA (λD (H:eD B D pb s T (st.i+1) g vC J (.map (some mg)))=>mL 40 (by decide) (by decide) (by decide) c6.o O H);rw [show eF 40=40 from rfl,aJ j,eI j] at E;have h2:aG (cJ T (q+1) i st l=aH8 st.pz.length l.length (eA T q ⟨st.i+1,st.vars,st.pz++[(b,i,0,(d:Int))]⟩ (l++[(b,0)]) 0)):=aA (by
    rw [cJ,aI (by rw [L.o];exact λf=>absurd f.1 (by decide)),aI (by rw [L.o];decide),aJ j,c8.o,c7.o];cases eA T q ⟨st.i+1,st.vars,st.pz++[(b,i,0,(d:Int))]⟩ (l++[(b,0)]) 0 with
    |error p=>rfl
    |ok r=>rfl)
   go_wp2_with (first
    |(at_builtin;refine wpList_append_own _ rfl (.tmp 38) (.tmp 42) 53 rfl B' 106 f4 (.agg #[.string ⟨#[]⟩,.int .i64 0]) 2 24 zt d4 d5 d6 d7 rfl (by decide) _ _ _ rfl (A.o.alloc _) ⟨_,0,none⟩ 1 1 [.string b,.int .i64 0] rfl rfl (fS wc _ _ _ _ rfl) (pU _ _) (by unfold maxLen;omega) (by omega) (by simp;omega) ?_;intro b4 b7 y u _;have o:=aA ((c5.o.below ((Below.refl wc.heap.size wc).alloc (zz _) _)).far (A.o.alloc _) (by decide) u);have U:=aA ((b9.o.trans (.of_below ((Below.refl wc.heap.size wc).alloc (zz _) _))).grownRow (A.o.alloc _) Y (zr ⟨rfl,zz _⟩) u);have G:aG (b7.ownsRow B' 106 2 b4 (l.length+1) (aP (l++[(b,0)]))):=aA (by rw [pT];exact y);obtain ⟨i6,i7,rfl⟩:=aW y;clear y u)
    |(go_at_call 90;refine (E.o _ o.o.pp).mono ?_;rintro e f7 ⟨rfl,m,I⟩;obtain ⟨i2,t,Z⟩:=o.o.pp.box;have e0:=o.o.take m I;have e8:=G.o.kept m (t.apart G.o (by decide));have a7:=U.o.grownBox t Z m;have f8:=aA (h1.o B' ⟨st.i+1,st.vars,st.pz++[(b,i,0,(d:Int))]⟩ J _ l b f7 e0 e8 Y (zl h5 a7.size) (by simp;omega) (by simp;omega) (by simp;omega) (by simp;omega));have V:=aA a7;clear m I e0 e8 a7 t)
    |(go_at_call 164;refine (aB f8).mono ?_;intro e l0 h6;obtain ⟨⟨i8,k5,j1,i9,h7⟩,e1⟩:=aPn (k:=st.pz.length) V.o h6;subst h7;have h4:=aA e1;clear e1)
    |go_in)
   go_ret2;rw [h2.o];exact h4.o
  ·have E:=aA (λD (H:eD B D pb s T (st.i+1) g vC J (.map (some mg)))=>mL 40 (by decide) (by decide) (by decide) c6.o O H);rw [show eF 40=40 from rfl,aI j,dE j] at E;have g0:=aA (c2.o j);clear c2;go_wp2_with (first
    |(at_builtin;refine wpList_append_own _ rfl (.tmp 38) (.tmp 42) 53 rfl B' 106 f4 (.agg #[.string ⟨#[]⟩,.int .i64 0]) 2 24 zt d4 d5 d6 d7 rfl (by decide) _ _ _ rfl (A.o.alloc _) ⟨_,0,none⟩ 1 1 [.string b,.int .i64 0] rfl rfl (fS wc _ _ _ _ rfl) (pU _ _) (by unfold maxLen;omega) (by omega) (by simp;omega) ?_;intro b4 b7 y u _;have o:=aA ((c5.o.below ((Below.refl wc.heap.size wc).alloc (zz _) _)).far (A.o.alloc _) (by decide) u);have U:=aA ((b9.o.trans (.of_below ((Below.refl wc.heap.size wc).alloc (zz _) _))).grownRow (A.o.alloc _) Y (zr ⟨rfl,zz _⟩) u);have G:aG (b7.ownsRow B' 106 2 b4 (l++[(b,0)]).length (aP (l++[(b,0)]))):=aA (by rw [pT,zw];exact y);obtain ⟨i6,i7,rfl⟩:=aW y;clear y u)
    |(go_at_call 90;refine (E.o _ o.o.pp).mono ?_;rintro e f7 ⟨rfl,m,I⟩;obtain ⟨i2,t,Z⟩:=o.o.pp.box;have h3:=aA (o.o.take m I);have f9:=aA (G.o.kept m (t.apart G.o (by decide)));have V:=aA (U.o.grownBox t Z m);clear m I t)
    |go_in)
   go_ret2;refine ⟨V.o,?_⟩;rw [g0.o];exact ⟨_,_,rfl,h3.o,f9.o⟩
end
theorem tG.shape{l:Nat}{r:Except Nat (aY×List Nd)}{e:Ending}(b:tG B B' pb w s T g vC l r e w'):∃a d c f,e=.returned (.tuple #[.slice a d c,.bool f]):=by
 obtain ⟨_,b⟩:=b;cases r with
 |error p=>obtain ⟨a,d,c,m,vP,vM,rfl,_⟩:=b;exact ⟨a,d,c,false,rfl⟩
 |ok y=>
  obtain ⟨o,n⟩:=y;obtain ⟨q,vP,rfl,_,i⟩:=b;obtain ⟨a,c,j⟩:=aW i;exact ⟨a,_,c,true,by rw [j]⟩
theorem aPp(b:List Nd)(k c:Nat)(d:k<b.length):∃f:ByteArray,(dR b k c)[k]'(by rw [wI];exact d)=(f,(c:Int)):=by unfold dR;exact ⟨b[k].1,by rw [List.getElem_modify_eq]⟩
structure PLq(B B' pb:Nat)(w:World)(s:ByteArray)(T:List Tk)(g:Nat)(vC:Value)(mg nm:Nat)(r:Except Nat (aY×List Nd×Nat))(k:Nat)(vl:Value)(wr:World)(st:aY)(L:List Nd)(n:Nat)(vP:Value):Prop where
 q:cE B wr pb s T ⟨st.i+1,st.vars,st.pz⟩ g vC vP mg
 row:wr.ownsRow B' 106 2 vl L.length (aP (dR L nm n))
 kept:cB B B' mg w wr
 eq:r=eA T k st L n
 fuel:T.length<st.i+k
 nm:nm<L.length
 len:L.length<=st.i
 pl:st.pz.length<=st.i
 vs:st.vars.length<=st.i
 few:n<=st.i
theorem PLq.step{B B' pb:Nat}{w:World}{s:ByteArray}{T:List Tk}{g:Nat}{vC:Value}{n o:Nat}{j:Except Nat (aY×List Nd×Nat)}{k:Nat}{q:Value}{wr:World}{c:aY}{b:List Nd}{f:Nat}{vP:Value}(l:PLq B B' pb w s T g vC n o j (k+1) q wr c b f vP){i:Except Nat (aY×List Nd)}(m:cJ T k false ⟨c.i+1,c.vars,c.pz⟩ []=i):match i with
  | .error p=>j=.error p
  | .ok (s1,x)=>j=if (aH T s1.i).kind=44 then eA T k s1 (b++x) (f+1) else if (aH T s1.i).kind=41 then .ok (⟨s1.i+1,s1.vars,s1.pz⟩,b++x,f+1) else .error (aH T s1.i).pos:=by
 have d:=l.eq;rw [eA,(aH4 T k).1 false _ b,m] at d;cases i with
 |error p=>exact d
 |ok y=>exact d
theorem aPq{f:World}{m b:Nat}{r:aY}{i j:List Nd}{c:Nat}{o:Value}(y:cE B f pb s T r g vC vP m)(l:f.ownsRow B' 106 2 o (dR i b c++j).length (aP (dR i b c++j)))(x:b<i.length)(t:B<=B')(u:cB B B' m w f):∃d n,o=.slice (some ⟨d,0,none⟩) (i++j).length n/\f.cell? ⟨d,b*2+1,none⟩=some (.int .i64 c)/\f.frozen? ⟨d,b*2+1,none⟩=false/\
   cE B (f.setCell ⟨d,b*2+1,none⟩ (.int .i64 ((c:Int)+1))) pb s T r g vC vP m/\(f.setCell ⟨d,b*2+1,none⟩ (.int .i64 ((c:Int)+1))).ownsRow B' 106 2 o (i++j).length (aP (dR (i++j) b (c+1)))/\cB B B' m w (f.setCell ⟨d,b*2+1,none⟩ (.int .i64 ((c:Int)+1))):=by
 rw [<-aPd i j b c x,wI] at l;have q:b<(i++j).length:=by simp;omega
 obtain ⟨d,n,rfl⟩:=qF l (by omega);have p:f.grownBy (f.setCell ⟨d,b*2+1,none⟩ (.int .i64 ((c:Int)+1))) (some d):=bX _ _ _;obtain ⟨A,z⟩:=aPp (i++j) b c q;refine ⟨d,n,rfl,?_,l.frozenAt _,y.far l (by decide) p,?_,u.grownRow l t (zr ⟨rfl,zz _⟩) p⟩
 ·rw [l.cellAt _ (by omega),(uI _ b (by rw [wI];exact q)).2,z]
 ·have:=(l.stored (b*2+1) (.int .i64 ((c+1:Nat):Int))).1;rw [aJh,aPf] at this;exact this
section
variable {B pb:Nat}{s:ByteArray}{T:List Tk}{g:Nat}{vC:Value}{mg:Nat}
theorem aPr(H:Nat)(c4:∀e7,(aH T e7).kind∈iO)(c8:s.size<=3000)(f4:T.length<=1000000)(b8:∀k,k<H->aH5 B pb s T g vC mg k):aH7 B pb s T g vC mg H:=by
 intro B' a4 vP d0 M b5 w a8 b2 c3 e0 e1 f8 a3 e6;have e2:=a8.pp.lt;simp only at e2;obtain ⟨e8,e9,rfl⟩:=aW b2;have d2:=aA b8;have b7:=aA c4;have a6:aG (PLq B B' pb w s T g vC mg M.length (eA T H a4 (M++[(b5,0)]) 0) H (.slice e8 (M.length+1) e9) w a4 (M++[(b5,0)]) 0 vP):=aA ⟨a8,by rw [aJj,zw];exact b2,cB.refl _ _ _ _,rfl,e1,by simp,by simp;omega,a3,e6,Nat.zero_le _⟩;obtain ⟨G,b1⟩ : ∃G,eA T H a4 (M++[(b5,0)]) 0=G:=⟨_,rfl⟩;rw [b1] at a6;simp only [b1];have f9:M.length<=1000000:=by omega
 clear a8 b2 b8 c4 b1;generalize M.length=nm at *;go_enter Tryz.func164,Tryz.ntmps164;go_wp2;go_loopg [1] H (λk d0 wr=>k<=H/\∃m u r b4,PLq B B' pb w s T g vC mg nm G k d0 wr m u r b4);case atStart=>exact ⟨zz _,a4,_,0,vP,a6.o⟩
 case round=>
  clear a6;obtain ⟨f7,m,u,r,b4,b⟩:=hrel;have e3:=b.q.pp.lt;simp only at e3;have f6:=b.fuel;have e4:=b.nm;have g0:=b.len;have g4:=b.pl;have g5:=b.vs;have f5:=b.few;obtain ⟨D,rfl⟩ : ∃D,gk=D+1:=⟨gk-1,by omega⟩;obtain ⟨g9,h0,rfl⟩:=aW b.row;have E:=aA (d2.o D (by omega) B' false ⟨m.i+1,m.vars,m.pz⟩ b4 _ (dR u nm r) wr b.q (by rw [wI];exact b.row) c3 (zl e0 b.kept.size) (by simp) (by simp;omega) (by rw [wI];simp;omega) (by simp;omega) (by simp;omega));have Q:=aA b;have c7:=(aH4 T D).1 false ⟨m.i+1,m.vars,m.pz⟩ (dR u nm r);rw [c7] at E;clear c7;cases hq:cJ T D false ⟨m.i+1,m.vars,m.pz⟩ [] with
  |error p=>
   have L:=Q.o.step hq;rw [hq] at E;have d8:aG (G=.error p):=aA L;clear hq L b;go_wp2_with (first
    |(go_at_call 147;refine (aB E).mono ?_;rintro e c ⟨f,f2,g7,f3,g6,i,g8,rfl,a3,c6⟩;have d3:=aA f;have d4:=aA a3;have d6:=aA c6;clear f a3 c6)
    |go_in)
   go_ret2;refine ⟨Q.o.kept.trans d3.o,?_⟩;rw [d8.o];exact ⟨_,_,_,_,_,_,rfl,d4.o,d6.o⟩
  |ok y=>
   obtain ⟨l,a5⟩:=y;have L:=Q.o.step hq;simp only at L;have e5:=(tS T D).1 _ _ _ _ _ hq;simp only [List.length_nil] at e5;rw [hq] at E;obtain ⟨F,b0⟩ : ∃F,u++a5=F:=⟨_,rfl⟩;have c5:F.length=u.length+a5.length:=by rw [<-b0];simp
   have a1:=aA (λ(c:World) (i N:Value) (o:cE B c pb s T l g vC i mg) (q:c.ownsRow B' 106 2 N (dR u nm r++a5).length (aP (dR u nm r++a5))) (f:cB B B' mg w c)=>aPq o q e4 c3 f);rw [b0] at L a1;have S:=aA L;have g2:(nm:Int)<(F.length:Int):=by omega
   have g1:(0:Int)<=(nm:Int):=by omega
   have g3:r<=1000000:=by omega
   have b6:=aA c5;clear hq L b b0 c5;have P:=aA (λc i (b3:eD B c pb s T l.i g vC i (.map (some mg)))=>mL 44 (by decide) (by decide) (by decide) b7.o c8 b3);rw [show eF 44=44 from rfl] at P;have O:=aA (λc i (b3:eD B c pb s T l.i g vC i (.map (some mg)))=>mL 41 (by decide) (by decide) (by decide) b7.o c8 b3);rw [show eF 41=41 from rfl] at O;by_cases I:(aH T l.i).kind=44
   ·rw [aJ I,eI I] at P;have Y:aG (G=eA T D l F (r+1)):=aA (by have:=S.o;rw [aJ I] at this;exact this);clear S O;go_wp2_with (first
     |(go_at_call 90;refine (P.o _ _ j.o.pp).mono ?_;rintro e d1 ⟨rfl,d,z⟩;obtain ⟨c9,n,Z⟩:=j.o.pp.box;have t:=aA (j.o.take d z);have a2:=aA (R.o.kept d (n.apart R.o (by decide)));have X:=aA (W.o.grownBox n Z d);clear d z n)
     |(go_at_call 147;refine (aB E).mono ?_;rintro e c ⟨f,N,i,rfl,o,q⟩;obtain ⟨c2,c1,rfl,b9,c0,A,C,x⟩:=a1.o c i N o q (Q.o.kept.trans f);have j:=aA A;have R:=aA C;have W:=aA x;clear f o q A C x)
     |go_in)
    go_roundg D;case measure=>omega
    case rel=>exact ⟨by omega,l,F,r+1,_,t.o,a2.o,X.o,Y.o,by omega,by have:=b6.o;omega,by have:=b6.o;omega,by omega,by omega,by omega⟩
   ·rw [aI I,dE I] at P;by_cases U:(aH T l.i).kind=41
    ·rw [aJ U,eI U] at O;have Y:aG (G=.ok (⟨l.i+1,l.vars,l.pz⟩,F,r+1)):=aA (by have:=S.o;rw [aI I,aJ U] at this;exact this);clear S;go_wp2_with (first
      |(go_at_call 90;refine (O.o _ _ t.o.pp).mono ?_;rintro e f1 ⟨rfl,J,a0⟩;obtain ⟨f0,V,a9⟩:=t.o.pp.box;have d7:=aA (t.o.take J a0);have d9:=aA (a2.o.kept J (V.apart a2.o (by decide)));have a7:=aA (X.o.grownBox V a9 J);clear J a0 V)
      |(go_at_call 90;refine (P.o _ _ j.o.pp).mono ?_;rintro e d1 ⟨rfl,d,z⟩;obtain ⟨c9,n,Z⟩:=j.o.pp.box;have t:=aA (j.o.take d z);have a2:=aA (R.o.kept d (n.apart R.o (by decide)));have X:=aA (W.o.grownBox n Z d);clear d z n)
      |(go_at_call 147;refine (aB E).mono ?_;rintro e c ⟨f,N,i,rfl,o,q⟩;obtain ⟨c2,c1,rfl,b9,c0,A,C,x⟩:=a1.o c i N o q (Q.o.kept.trans f);have j:=aA A;have R:=aA C;have W:=aA x;clear f o q A C x)
      |go_in)
     go_ret2;refine ⟨a7.o,?_⟩;rw [Y.o];exact ⟨_,_,rfl,d7.o,by rw [wI];exact d9.o⟩
    ·rw [aI U,dE U] at O;have Y:aG (G=.error (aH T l.i).pos):=aA (by have:=S.o;rw [aI I,aI U] at this;exact this);clear S;go_wp2_with (first
      |(go_at_call 90;refine (O.o _ _ t.o.pp).mono ?_;rintro e f1 ⟨rfl,J,a0⟩;obtain ⟨f0,V,a9⟩:=t.o.pp.box;have d5:=aA a0;have a7:=aA (X.o.grownBox V a9 J);clear J a0 V)
      |(go_at_call 90;refine (P.o _ _ j.o.pp).mono ?_;rintro e d1 ⟨rfl,d,z⟩;obtain ⟨c9,n,Z⟩:=j.o.pp.box;have t:=aA (j.o.take d z);have X:=aA (W.o.grownBox n Z d);clear d z n)
      |(go_at_call 147;refine (aB E).mono ?_;rintro e c ⟨f,N,i,rfl,o,q⟩;obtain ⟨c2,c1,rfl,b9,c0,A,C,x⟩:=a1.o c i N o q (Q.o.kept.trans f);have j:=aA A;have R:=aA C;have W:=aA x;clear f o q A C x)
      |go_in)
     go_ret2;refine ⟨a7.o,?_⟩;rw [Y.o];exact ⟨_,_,_,_,_,_,rfl,d5.o,rfl⟩
theorem aPs(i:∀o,(aH T o).kind∈iO)(D:∀o,(aH T o).txt.size<=1000000)(j:s.size<=3000)(l:T.length<=1000000):∀b,aH5 B pb s T g vC mg b:=by
 intro b;induction b using Nat.strongRecOn with
 |_ b ih=>
  intro B' d x vP G F w f r p q z A t C u;have E:=f.pp.lt;obtain ⟨c,rfl⟩ : ∃c,b=c+1:=⟨b-1,by omega⟩;by_cases m:(aH T x.i).kind=110
  ·exact aPo d c i j l (aPr c i j l λk m=>ih k (by omega)) f r p q m A t C u
  ·by_cases n:(aH T x.i).kind=118
   ·have y:d=false:=by
     cases d
     ·rfl
     ·exact absurd n (z rfl)
    exact aPk d c i D j l f r p q n y t u
   ·exact aPl d c i j f n m
end
theorem aPt{m:Nat}{b:aY}(i:∀l,(aH T l).kind∈iO)(n:∀l,(aH T l).txt.size<=1000000)(A:s.size<=3000)(x:T.length<=1000000)(c:cE B w pb s T b g vC vP m)(u:B<=w.heap.size)(z:b.pz.length<=b.i)(C:b.vars.length<=b.i):Calls zx 127 #[.pointer (some ⟨pb,0,none⟩)] w λe w'=>tG B w.heap.size pb w s T g vC m (cJ T (T.length+1) true b []) e w':=by
 have G:=c.pp.lt;obtain ⟨left,j,_⟩:=c.pp.box;have t:=j.c1;by_cases d:(aH T b.i).kind=118
 ·have p:aG (cJ T (T.length+1) true b []=.error (aH T b.i).pos):=aA (by rw [cJ,aI (by simp),aJ (by rw [d];decide)]);rw [d,show eF 118=65 from rfl] at t;have q:=aA c;clear c j;go_enter Tryz.func127,Tryz.ntmps127;go_wp2;go_ret2;refine ⟨cB.refl _ _ _ _,?_⟩;rw [p.o];exact ⟨_,_,_,_,_,_,rfl,q.o.pp,rfl⟩
 ·have H:(eF (aH T b.i).kind==65)=false:=by
   rw [beq_eq_false_iff_ne];exact λe=>d (aCw _ (i b.i) 118 (by decide) (by rw [e];rfl))
  have o:=aA (aPs (B:=B) (pb:=pb) (g:=g) (vC:=vC) (mg:=m) i n A x (T.length+1) w.heap.size true b vP (.slice none 0 0) [] w c (World.ownsRow_nil _ _ _ _) u (zz _) (λ_=>d) (by omega) (Nat.zero_le _) z C);generalize eF (aH T b.i).kind=K at *;clear c j d i n;go_enter Tryz.func127,Tryz.ntmps127;go_wp2_with (first
   |(go_at_call 147;refine (aB o).mono ?_;intro e J f;obtain ⟨D,I,F,E,y⟩:=f.shape;subst y;have r:=aA f;clear f)
   |go_in)
  go_ret2;exact r.o
