import Derived.Test.YtmelidkanelpbaaGreatDoorGEmpH
import Derived.Test.YtmelidkanelpbaaGreatDoorSCl0H
import Derived.StringKeys
open List renaming getD_eq_getElem?_getD→zw,length_append→zv,getElem?_eq_getElem→zr
open Nat renaming le_refl→zz,lt_of_lt_of_le→zl
open Or renaming inr→zo
namespace Go.Proofs.YtmelidkanelpbaaGreatDoor
open _root_.Go.Proofs.Tryz renaming prog→zx,underlying63→zt,underlying84→zs,underlying9→zq,ntmps109→zm,func127→zk,func109→zj
open Value renaming ownBlock→zy
open World renaming cell?→zn
open Go.RowKit Go.WideMaps
set_option maxHeartbeats 4000000
set_option maxRecDepth 100000
variable{s wd:ByteArray}{xs:List Value}{B B' k n pb:Nat}{e:TypeId}{left v vC vM vP:Value}{a w w':World}
theorem aSn{c:Nat}(b:dK s k=.bad c):c=k:=by
 unfold dK at b;repeat' split at b
 all_goals first|(cases b;done)|(simp only [Nx.bad.injEq] at b;exact b.symm)
theorem aSo{c:Nat}:dK s k≠.stop c:=by
 intro b;unfold dK at b;repeat' split at b
 all_goals cases b
theorem aId{e:Nat}{g:Tk}(d:k<s.size)(b:dK s k=.tok g e):k<e/\e<=s.size:=by
 unfold dK at b;split at b
 ·rename_i c;split at b
  ·cases b
  ·simp only [Nx.tok.injEq] at b;rw [<-b.2];exact ⟨aY9 d c,aL8 (by omega)⟩
 ·split at b
  ·split at b
   ·rename_i n i f;simp only [Nx.tok.injEq] at b;rw [<-b.2];have:=aY8 f;omega
   ·cases b
  ·split at b
   ·split at b
    ·rename_i j;simp only [Nx.tok.injEq] at b;rw [<-b.2];omega
    ·cases b
   ·split at b
    ·simp only [Nx.tok.injEq] at b;rw [<-b.2];omega
    ·cases b
theorem aSp(s:ByteArray):∀n b c q,s.size+1-q<=n->q<=s.size->s.size<q+b->s.size<q+c->cD s b q=cD s c q:=by
 intro n;induction n with
 |zero=>intro b c q o m;omega
 |succ n ih=>
  intro b c q o m u x;obtain ⟨i,rfl⟩ : ∃i,b=i+1:=⟨b-1,by omega⟩;obtain ⟨j,rfl⟩ : ∃j,c=j+1:=⟨c-1,by omega⟩;rw [cD,cD];by_cases d:q<s.size
  ·rw [aH d,aH d];by_cases g:lF (aF s q)=true
   ·rw [aH g,aH g];exact ih _ _ _ (by omega) (by omega) (by omega) (by omega)
   ·rw [aI g,aI g];by_cases f:aF s q=37
    ·rw [aH f,aH f];have r:=aB3 d f;have l:=aEi (s:=s) (p:=q) m;exact ih _ _ _ (by omega) l (by omega) (by omega)
    ·rw [aI f,aI f];cases ht:dK s q with
     |tok t e=>
      obtain ⟨r,l⟩:=aId d ht;simp only;rw [ih i j e (by omega) l (by omega) (by omega)]
     |bad p=>rfl
     |stop p=>rfl
  ·rw [aI d,aI d]
def dD(s:ByteArray)(q:Nat):List Tk:=eE (cD s (s.size+1-q) q)
theorem uI{q f:Nat}(c:q<=s.size)(b:s.size<q+f):eE (cD s f q)=dD s q:=by unfold dD;rw [aSp s _ f (s.size+1-q) q (zz _) c b (by omega)]
theorem aSq(s:ByteArray):∀n b q,s.size+1-q<=n->q<=s.size->s.size<q+b->
  match rW s b q with
  | .tok t e=>dD s q=t::dD s e/\e<=s.size/\t.kind≠101/\t.kind≠63
  | .bad p=>dD s q=[⟨63,⟨#[]⟩,p⟩]/\p<=s.size
  | .stop p=>dD s q=[⟨101,⟨#[]⟩,p⟩]/\p<=s.size:=by
 intro n;induction n with
 |zero=>intro b q l g;omega
 |succ n ih=>
  intro b q l g o;obtain ⟨j,rfl⟩ : ∃j,b=j+1:=⟨b-1,by omega⟩;rw [rW,<-uI g o,cD];by_cases c:q<s.size
  ·rw [aH c,aH c];by_cases i:lF (aF s q)=true
   ·rw [aH i,aH i,uI (q:=q+1) (by omega) (by omega)];exact ih _ _ (by omega) (by omega) (by omega)
   ·rw [aI i,aI i];by_cases f:aF s q=37
    ·rw [aH f,aH f];have m:=aB3 c f;have d:=aEi (s:=s) (p:=q) g;rw [uI d (by omega)];exact ih _ _ (by omega) d (by omega)
    ·rw [aI f,aI f];cases ht:dK s q with
     |tok t e=>
      obtain ⟨m,d⟩:=aId c ht;simp only;refine ⟨?_,d,aLf ht⟩;rw [<-uI d (show s.size<e+j by omega)];rfl
     |bad p=>
      have r:p=q:=aSn ht;subst r;exact ⟨rfl,g⟩
     |stop p=>exact absurd ht aSo
  ·rw [aI c,aI c];exact ⟨rfl,g⟩
def gX:List Nat:=[110,118,102,101,63,124,126,40,41,44,46]
theorem aD1:∀a∈gX,∀b∈gX,dN a=dN b->a=b:=by decide
theorem aSr{e:Nat}{f:Tk}(c:dK s k=.tok f e):f.kind∈gX:=by
 unfold dK at c;split at c
 ·split at c
  ·cases c
  ·simp only [Nx.tok.injEq] at c;rw [<-c.1];simp only;split<;>decide
 ·split at c
  ·split at c
   ·simp only [Nx.tok.injEq] at c;rw [<-c.1];show (110:Nat)∈gX;decide
   ·cases c
  ·split at c
   ·split at c
    ·simp only [Nx.tok.injEq] at c;rw [<-c.1];show (102:Nat)∈gX;decide
    ·cases c
   ·split at c
    ·rename_i d;simp only [Nx.tok.injEq] at c;rw [<-c.1];simp only;generalize aF s k=b at d ⊢;have g:b=124\/b=126\/b=40\/b=41\/b=44\/b=46:=by unfold mV at d;simp at d;omega
     rcases g with rfl|rfl|rfl|rfl|rfl|rfl<;>decide
    ·cases c
theorem aSs(s:ByteArray):∀b k,∀d∈(cD s b k).1,d.kind∈gX:=by
 intro b;induction b with
 |zero=>intro k;simp [cD]
 |succ b ih=>
  intro k;rw [cD];split
  ·split
   ·exact ih _
   ·split
    ·exact ih _
    ·split
     ·rename_i d e c;intro f hu;rcases List.mem_cons.1 hu with rfl|hu
      ·exact aSr c
      ·exact ih _ f hu
     ·simp
  ·intro d c;simp at c;rw [c];show (101:Nat)∈gX;decide
theorem aSt{c:List Tk×Option Nat}(f:∀b∈c.1,b.kind∈gX):∀b∈eE c,b.kind∈gX:=by
 obtain ⟨g,d⟩:=c;intro b ht;unfold eE at ht;rcases List.mem_append.1 ht with ht|ht
 ·exact f b ht
 ·cases d with
  |none=>simp at ht
  |some p=>
   simp at ht;rw [ht];show (63:Nat)∈gX;decide
theorem aSu(s:ByteArray)(c b:Nat):(aJ (dD s c) b).kind∈gX:=by
 unfold aJ;by_cases d:b<(dD s c).length
 ·rw [zw,zr d,Option.getD_some];exact aSt (aSs s _ _) _ (List.getElem_mem _)
 ·rw [zw,List.getElem?_eq_none (by omega)];decide
theorem aSv{c g:List Tk}{d:Nat}{i:Tk}(b:c.drop d=i::g):d<c.length/\aJ c d=i/\c.drop (d+1)=g:=by
 have f:d<c.length:=Classical.byContradiction λj=>by rw [List.drop_of_length_le (by omega)] at b;cases b
 rw [List.drop_eq_getElem_cons f] at b;simp only [List.cons.injEq] at b;exact ⟨f,by unfold aJ;rw [zw,zr f];exact b.1,b.2⟩
section
variable {w:World}{pb:Nat}{left:Value}{k a:Int}{wd:ByteArray}{vC vP vM:Value}
theorem bQ.setTok(f:bQ w pb left k a wd vC vP vM)(b c:Int)(d:ByteArray):bQ (((w.setCell ⟨pb,1,none⟩ (.int .i32 b)).setCell ⟨pb,2,none⟩ (.int .i64 c)).setCell ⟨pb,3,none⟩ (.string d)) pb left b c d vC vP vM:=by have g:bQ (w.setCell ⟨pb,1,none⟩ (.int .i32 b)) pb left b a wd vC vP vM:=heap_setCell_same w pb 1 _ _ _ f;have i:bQ ((w.setCell ⟨pb,1,none⟩ (.int .i32 b)).setCell ⟨pb,2,none⟩ (.int .i64 c)) pb left b c wd vC vP vM:=heap_setCell_same _ pb 2 _ _ _ g;exact heap_setCell_same _ pb 3 _ _ _ i
theorem bQ.rows(f:bQ w pb left k a wd vC vP vM)(b c:Int)(m:ByteArray){B:Nat}{e:TypeId}{i:Nat}{v:Value}{n:Nat}{xs:List Value}(l:w.ownsRow B e i v n xs)(d:e≠65):(((w.setCell ⟨pb,1,none⟩ (.int .i32 b)).setCell ⟨pb,2,none⟩ (.int .i64 c)).setCell ⟨pb,3,none⟩ (.string m)).ownsRow B e i v n xs:=by have g:bQ (w.setCell ⟨pb,1,none⟩ (.int .i32 b)) pb left b a wd vC vP vM:=heap_setCell_same w pb 1 _ _ _ f;have j:bQ ((w.setCell ⟨pb,1,none⟩ (.int .i32 b)).setCell ⟨pb,2,none⟩ (.int .i64 c)) pb left b c wd vC vP vM:=heap_setCell_same _ pb 2 _ _ _ g;exact j.row (g.row (f.row l d 1 _) d 2 _) d 3 _
end
structure PP(B:Nat)(w:World)(pb:Nat)(s:ByteArray)(T:List Tk)(i g q j m c:Nat)(vC vP vM:Value):Prop where
 sc:bO B w pb s q g j m c (dN (aJ T i).kind) (aJ T i).pos (aJ T i).txt vC vP vM
 lt:i<T.length
 on:(aJ T i).kind≠101->(aJ T i).kind≠63->dD s q=T.drop (i+1)
def dH(B:Nat)(w:World)(pb:Nat)(s:ByteArray)(b:List Tk)(f d:Nat)(vC vP vM:Value):Prop:=∃j g i c,PP B w pb s b f d j g i c vC vP vM
theorem aIe{f:World}{T:List Tk}{i m j:Nat}{k a:Int}{e:Ending}{l:Nat}(J:j<=s.size)(F:s.size<j+l)(u:dD s j=T.drop i)(b:rJ B pb s j l m k a wd vC vP vM w e f):e=.returned (.agg #[.int .i32 (dN (aJ T i).kind),.int .i64 (aJ T i).pos,.string (aJ T i).txt])/\w.grownBy f (some pb)/\(∃left,bQ f pb left k a wd vC vP vM)/\
  dH B (((f.setCell ⟨pb,1,none⟩ (.int .i32 (dN (aJ T i).kind))).setCell ⟨pb,2,none⟩ (.int .i64 (aJ T i).pos)).setCell ⟨pb,3,none⟩ (.string (aJ T i).txt)) pb s T i m vC vP vM:=by
 obtain ⟨G,b⟩:=b;have g:=aSq s _ l j (zz _) J F;have r:∀(d:Tk) (o:Nat) (A:List Tk),T.drop i=d::A->(d.kind≠101->d.kind≠63->dD s o=A)->e=.returned (fP (dN d.kind) d.pos d.txt)->(∃y z q,bO B f pb s o m y z q k a wd vC vP vM)->e=.returned (.agg #[.int .i32 (dN (aJ T i).kind),.int .i64 (aJ T i).pos,.string (aJ T i).txt])/\w.grownBy f (some pb)/\(∃left,bQ f pb left k a wd vC vP vM)/\dH B (((f.setCell ⟨pb,1,none⟩ (.int .i32 (dN (aJ T i).kind))).setCell ⟨pb,2,none⟩ (.int .i64 (aJ T i).pos)).setCell ⟨pb,3,none⟩ (.string (aJ T i).txt)) pb s T i m vC vP vM:=by
  intro d o A C I E c;obtain ⟨H,x,D⟩:=aSv C;obtain ⟨y,z,q,c⟩:=c;rw [x];refine ⟨E,G,⟨_,c.box⟩,o,y,z,q,⟨?_,H,?_⟩⟩
  ·rw [x];exact ⟨c.box.setTok _ _ _,c.high,c.box.rows _ _ _ c.row (by decide),c.len,c.drop,c.le⟩
  ·rw [x,D];exact I
 cases hx:rW s l j with
 |tok d e'=>
  rw [hx] at b g;obtain ⟨L,_,_,_⟩:=g;exact r d e' _ (by rw [<-u,L]) (λ_ _=>rfl) b.1 b.2
 |bad p=>
  rw [hx] at b g;exact r ⟨63,⟨#[]⟩,p⟩ p [] (by rw [<-u,g.1]) (λ_ t=>absurd rfl t) b.1 b.2
 |stop p=>
  rw [hx] at b g;exact r ⟨101,⟨#[]⟩,p⟩ p [] (by rw [<-u,g.1]) (λt _=>absurd rfl t) b.1 b.2
theorem mM{f:List Tk}{b l:Nat}(d:Nat)(D:d∈gX)(z:d≠101)(A:d≠63)(C:∀b,(aJ f b).kind∈gX)(F:s.size<=3000)(y:dH B w pb s f b l vC vP vM):Calls zx 65 #[.pointer (some ⟨pb,0,none⟩),.int .i32 (dN d)] w λe w'=>e=.returned (.bool (decide ((aJ f b).kind=d)))/\w.grownBy w' (some pb)/\dH B w' pb s f (if (aJ f b).kind=d then b+1 else b) l vC vP vM:=by
 obtain ⟨I,G,H,u,g⟩:=y;have x:=g.sc.box.c1;by_cases c:(aJ f b).kind=d
 ·rw [aH c,fC c];have j:=aA ((aHg (s.size+1) g.sc F (by omega)).mono λe J E=>aIe g.sc.le (by omega) (g.on (by rw [c];exact z) (by rw [c];exact A)) E);rw [c] at x j;clear c g;generalize dN d=K at *;generalize aJ f (b+1)=t at j;obtain ⟨Q,S,R⟩:=t;simp only at j;go_enter Tryz.func65,Tryz.ntmps65;go_wp2_with (first
   |(go_at_call 39;refine (aD j).mono ?_;rintro e J ⟨rfl,o,⟨left,i⟩,m⟩;have L:=i.c1;have M:=i.c2;have N:=i.c3;have O:=i.soft;have p:=aA o;have r:=aA m;clear o m i)
   |go_in)
  go_ret;exact ⟨rfl,rX (rX (rX p.o _) _) _,r.o⟩
 ·rw [aI c,gB c];have P:(dN (aJ f b).kind != dN d)=true:=by simp;exact λe=>c (aD1 _ (C b) _ D e)
  have q:=aA g;clear g;go_enter Tryz.func65,Tryz.ntmps65;go_wp2;go_ret;exact ⟨rfl,World.grownBy.refl _ _,I,G,H,u,q.o⟩
def nK(v:Value):Option (DataW Unit×List MemPlace):=
 match v with
 | .int .i64 x=>some (.lit (.int .i64 x),[])
 |_=>none
theorem aIf{c:Int}{d:List MemPlace}(b:nK v=some (.lit (.int .i64 c),d)):v=.int .i64 c:=by
 unfold nK at b;split at b
 ·simp at b;rw [b.1]
 ·simp at b
theorem aIg{b:ByteArray}(c:s.data.toList=b.data.toList):s=b:=by obtain ⟨⟨d⟩⟩:=s;obtain ⟨⟨f⟩⟩:=b;simp at c;rw [c]
structure pM(D:DataW Unit)(sn:List ByteArray):Prop where
 tidy:Maps.Tidy D
 size:Maps.size D=sn.length
 old:∀x,0<=jP sn x->Maps.has D (.string x.data.toList)=true/\∀z,D.atKey (.string x.data.toList) z=.lit (.int .i64 (jP sn x))
 new:∀x,jP sn x<0->Maps.has D (.string x.data.toList)=false
theorem pM.start:pM (.map []) []:=⟨⟨[],rfl,by simp⟩,rfl,λc b=>by rw [aYe] at b;omega,λc _=>rfl⟩
theorem pM.put{j:DataW Unit}{g:List ByteArray}{x:ByteArray}(b:pM j g)(o:jP g x<0):pM (j.put (.string x.data.toList) (.lit (.int .i64 g.length))) (g++[x]):=by
 have i:WideAt.IsKeyLit (.string x.data.toList):=trivial;refine ⟨b.tidy.put i _,?_,λy c=>?_,λy c=>?_⟩
 ·rw [Maps.size_put b.tidy,b.new x o,b.size];simp
 ·rw [aLc] at c ⊢;by_cases d:x=y
  ·subst d;rw [aH rfl];exact ⟨Maps.has_put_same b.tidy.isMap i _,λm=>Maps.atKey_put_same b.tidy.isMap i _ _⟩
  ·rw [aI d] at c ⊢;have f:(Lit.string y.data.toList)≠.string x.data.toList:=λe=>d (aIg (by simpa using e.symm))
   have l:=b.old y c;exact ⟨by rw [Maps.has_put_other f];exact l.1,λm=>by rw [Maps.atKey_put_other f];exact l.2 m⟩
 ·rw [aLc] at c;by_cases d:x=y
  ·rw [aH d] at c;omega
  ·rw [aI d] at c;have f:(Lit.string y.data.toList)≠.string x.data.toList:=λe=>d (aIg (by simpa using e.symm))
   rw [Maps.has_put_other f];exact b.new y c
theorem aSw(g:Nat)(j:DataW Unit)(b:List ByteArray)(c:ByteArray)(w:World)(m:w.ownsMap zx 9 nK g b.length j)(d:pM j b)(F:b.length<=1000000)(H:c.size<=1000000):Calls zx 127 #[.map (some g),.string c] w λe w'=>∃u:DataW Unit,e=.returned (.int .i64 (kC b c))/\w'.ownsMap zx 9 nK g (kO b c).length u/\pM u (kO b c)/\w.grownBy w' (some g):=by
 have o:keyOf zx 9 (.string c)=some (.string c.data.toList):=keyOf_string_mk zq (by unfold maxLen;omega);obtain ⟨v,I,z,i⟩:=m.look_ok (Maps.string_keyed zq) zt (Tryz.zeroValue3 _) (zd:=.lit (.int .i64 0)) (zp:=[]) rfl o;by_cases f:jP b c<0
 ·have l:aM (kO b c=b++[c]/\kC b c=(b.length:Int)):=aA (by unfold kO kC;rw [aH f,aH f];exact ⟨rfl,rfl⟩);have q:=d.new c f;rw [q] at z;rw [aAt d.tidy.isMap q] at i;have t:=aIf i;subst t;have p:=aA (d.put f);have C:=aA o;have G:=d.size;clear i q d o f;go_enter zk,Tryz.ntmps127;go_wp2_with (first
   |(at_len;refine wpList_len_own _ rfl _ 63 rfl 9 3 zt _ g b.length j rfl m ?_)
   |(at_mapUpdate;refine wpList_mapUpdate_own _ rfl _ _ _ 63 rfl 9 3 (Maps.string_keyed zq) zt nK g b.length j rfl m (by unfold maxLen;omega) _ _ (.string c.data.toList) rfl rfl (aD C) (.lit (.int .i64 b.length)) [] ?_ ?_)
   |go_in)
  case refine_1=>rfl
  intro J y x;have D:=aA y;have A:=aA x;clear y x;go_wp2;go_ret;rw [l.o.1,l.o.2];exact ⟨_,rfl,by rw [zv];exact D.o,p.o,A.o⟩
 ·have l:aM (kO b c=b/\kC b c=jP b c):=aA (by unfold kO kC;rw [aI f,aI f];exact ⟨rfl,rfl⟩);have r:=d.old c (by omega);rw [r.1] at z;rw [r.2] at i;have t:=aIf i;subst t;have p:=aA d;have E:=aA m;clear i r d o f m;go_enter zk,Tryz.ntmps127;go_wp2;go_ret;rw [l.o.1,l.o.2];exact ⟨j,rfl,E.o,p.o,⟨rfl,rfl,rfl,zz _,λ_ _ _=>rfl⟩⟩
theorem aSx(b d:List Nd)(k n:Nat)(c:k<b.length):dS (b++d) k n=dS b k n++d:=by
 induction b generalizing k with
 |nil=>simp at c
 |cons x t ih=>
  cases k with
  |zero=>rfl
  |succ k=>
   have:=ih k (by simpa using c);unfold dS at this ⊢;simpa using this
theorem aSy(b c:List Nd)(k n:Nat):dS (b++c) (b.length+k) n=b++dS c k n:=by
 induction b with
 |nil=>simp
 |cons x t ih=>
  unfold dS at ih ⊢;simp only [List.length_cons,List.cons_append];rw [show t.length+1+k=t.length+k+1 by omega];simpa using ih
theorem vV(b:List Nd)(k n:Nat):(dS b k n).length=b.length:=by simp [dS]
theorem aSz(b:List Nd)(k n c:Nat):dS (dS b k n) k c=dS b k c:=by
 induction b generalizing k with
 |nil=>simp [dS]
 |cons x t ih=>
  cases k with
  |zero=>rfl
  |succ k=>
   have:=ih k;unfold dS at this ⊢;simpa using this
theorem aIh(d:List Tk):∀f,(∀g b c,cJ d f g b c=match cJ d f g b [] with | .error p=>.error p | .ok (s,r)=>.ok (s,c++r))/\(∀b c n,dT d f b c n=match dT d f b [] n with | .error p=>.error p | .ok (s,r,k)=>.ok (s,c++r,k)):=by
 intro f;induction f with
 |zero=>exact ⟨λg b c=>by simp [cJ],λb c n=>by simp [dT]⟩
 |succ f ih=>
  obtain ⟨m,i⟩:=ih;constructor
  ·intro g b c;rw [cJ,cJ];split
   ·simp
   ·split
    ·simp
    ·split
     ·rw [i _ (c++[((aJ d b.i).txt,0)]) 0,i _ ([]++[((aJ d b.i).txt,0)]) 0];cases dT d f ⟨b.i+1,b.vars,b.pz++[((aJ d b.i).txt,g,0,((aJ d b.i).pos:Int))]⟩ [] 0 with
      |error p=>rfl
      |ok r=>
       obtain ⟨l,j,o⟩:=r;simp only [List.nil_append,List.length_nil];have:=aSy c ([((aJ d b.i).txt,0)]++j) 0 o;rw [List.append_assoc,show c.length=c.length+0 from rfl,this]
     ·simp
  ·intro b c n;rw [dT,dT,m false _ c];cases hq:cJ d f false ⟨b.i+1,b.vars,b.pz⟩ [] with
   |error p=>rfl
   |ok r=>
    obtain ⟨l,j⟩:=r;simp only;split
    ·rw [i l (c++j) (n+1),i l j (n+1)];cases dT d f l [] (n+1) with
     |error p=>rfl
     |ok r=>simp
    ·split
     ·rfl
     ·rfl
def nL(b:List Pl):List Value:=b.map λp=>.int .i64 p.2.2.2
theorem aT0(b:List Pl)(c:Pl):nL (b++[c])=nL b++[.int .i64 c.2.2.2]:=by simp [nL]
theorem aT1(b:List Pl)(k n:Nat):nL (pW b k n)=nL b:=by
 induction b generalizing k with
 |nil=>simp [pW]
 |cons x t ih=>
  cases k with
  |zero=>rfl
  |succ k=>
   have:=ih k;unfold pW nL at this ⊢;simpa using this
theorem aT2(b:List Pl)(k n:Nat):(pW b k n).length=b.length:=by simp [pW]
structure bV(B B' mg:Nat)(w w':World):Prop where
 os:w'.os=w.os
 tape:w'.tape=w.tape
 output:w'.output=w.output
 size:w.heap.size<=w'.heap.size
 block:∀k,k<w.heap.size->(k<B\/(k≠mg/\∀cs T fr,w.heap[k]?=some (.cells cs T fr)->T≠3/\T≠65/\(T=117->k<B')))->w'.heap[k]?=w.heap[k]?
theorem bV.refl(B B' mg:Nat)(w:World):bV B B' mg w w:=⟨rfl,rfl,rfl,zz _,λ_ _ _=>rfl⟩
theorem bV.trans{B B' mg:Nat}{a b c:World}(d:bV B B' mg a b)(k:bV B B' mg b c):bV B B' mg a c:=
 ⟨k.os.trans d.os,k.tape.trans d.tape,k.output.trans d.output,Nat.le_trans d.size k.size,λi g f=>by
  have e:=d.block i g f;rw [k.block i (zl g d.size) (by rw [e];exact f),e]⟩
theorem bV.of_below{mg:Nat}(b:aB w w'):bV B B' mg w w':=⟨b.os,b.tape,b.output,b.size,λk c _=>b.block k c⟩
theorem bV.below{mg:Nat}(b:bV B B' mg w w')(d:B<=w.heap.size):Below B w w':=⟨b.os,b.tape,b.output,b.size,λk c=>b.block k (by omega) (Or.inl c)⟩
theorem bV.mono{d f g:Nat}(b:bV B f g w w')(q:d<=f):bV B d g w w':=
 ⟨b.os,b.tape,b.output,b.size,λk t c=>b.block k t (c.imp id λ⟨l,c⟩=>⟨l,λi T j r=>by
  obtain ⟨m,o,p⟩:=c i T j r;exact ⟨m,o,λe=>zl (p e) q⟩⟩)⟩
theorem bV.grownBox{d:Nat}{k j:Int}(f:bV B B' d a w)(g:bQ w pb left k j wd vC vP vM)(l:B<=pb)(b:w.grownBy w' (some pb)):bV B B' d a w':=by
 refine f.trans ⟨b.os,b.tape,b.output,b.size,λk i c=>b.block k i ?_⟩;intro e;simp at e;subst e;rcases c with c|⟨_,c⟩
 ·omega
 ·exact (c _ _ _ g).2.1 rfl
theorem bV.grownMap{d:Nat}(f:bV B B' d a w)(i:B<=d)(b:w.grownBy w' (some d)):bV B B' d a w':=by
 refine f.trans ⟨b.os,b.tape,b.output,b.size,λk g c=>b.block k g ?_⟩;intro e;simp at e;subst e;rcases c with c|⟨c,_⟩
 ·omega
 ·exact c rfl
theorem bV.grownRow{g d:Nat}{r:Nat}(i:bV B B' g a w)(q:w.ownsRow d e r v n xs)(y:B<=d)(m:e=3\/e=117/\B'<=d)(b:w.grownBy w' v.ownBlock):bV B B' g a w':=by
 refine i.trans ⟨b.os,b.tape,b.output,b.size,λk p c=>b.block k p ?_⟩;intro f;obtain ⟨_,⟨rfl,_⟩|⟨x,t,u,rfl,z,o,_⟩⟩:=q
 ·simp [zy] at f
 ·simp [zy] at f;subst f;rcases c with c|⟨_,c⟩
  ·omega
  ·obtain ⟨j,_,l⟩:=c _ _ _ o;rcases m with rfl|⟨rfl,A⟩
   ·exact j rfl
   ·have:=l rfl;omega
theorem bV.own{l f:Nat}{m:Nat}(q:bV B B' l w w')(C:w.ownsRow f e m v n xs)(j:e≠3/\e≠65)(A:e=117->w.heap.size<=B')(z:v.ownBlock≠some l):w'.ownsRow f e m v n xs:=by
 obtain ⟨i,⟨rfl,r⟩|⟨g,o,p,rfl,t,c,u,y,E,D⟩⟩:=C
 ·exact ⟨i,Or.inl ⟨rfl,r⟩⟩
 ·have x:=(Array.getElem?_eq_some_iff.1 c).1;refine ⟨i,zo ⟨g,o,p,rfl,t,?_,u,y,E,D⟩⟩;rw [q.block g x (zo ⟨λb=>z (by rw [b];rfl),λG F H d=>?_⟩)]
  ·exact c
  ·rw [c] at d;simp at d;obtain ⟨_,rfl,_⟩:=d;exact ⟨j.1,j.2,λb=>by have:=A b;omega⟩
theorem bQ.apart{k a:Int}(b:bQ w pb left k a wd vC vP vM){B:Nat}{e:TypeId}{j:Nat}{v:Value}{n:Nat}{xs:List Value}(i:w.ownsRow B e j v n xs)(d:e≠65):v.ownBlock=none\/v.ownBlock≠some pb:=by
 obtain ⟨_,⟨rfl,_⟩|⟨g,l,m,rfl,_,f,_⟩⟩:=i
 ·exact Or.inl rfl
 ·right;intro c;simp [zy] at c;subst c;unfold bQ at b;rw [f] at b;simp at b;exact d b.2
theorem sW{l:Nat}{d:Nat}{f:DataW Unit}(g:w.ownsRow B e l v n xs)(j:w.ownsMap zx 9 nK d k f):v.ownBlock≠some d:=by
 obtain ⟨q,o,i,_⟩:=j;intro b;obtain ⟨_,⟨rfl,_⟩|⟨r,m,p,rfl,_,c,_⟩⟩:=g
 ·simp [zy] at b
 ·simp [zy] at b;subst b;rw [i] at c;cases c
theorem aAf{k a:Int}{c:Nat}{d:DataW Unit}(b:bQ w pb left k a wd vC vP vM)(g:w.ownsMap zx 9 nK c n d):pb≠c:=by obtain ⟨j,i,f,_⟩:=g;rintro rfl;unfold bQ at b;rw [f] at b;cases b
structure bX(B:Nat)(w:World)(pb:Nat)(s:ByteArray)(T:List Tk)(st:bE)(g:Nat)(vC vP:Value)(mg:Nat):Prop where
 pp:dH B w pb s T st.i g vC vP (.map (some mg))
 pz:w.ownsRow B 3 1 vP st.pz.length (nL st.pz)
 map:∃D,w.ownsMap zx 9 nK mg st.vars.length D/\pM D st.vars
 mhigh:B<=mg
section
variable {B:Nat}{w w':World}{pb:Nat}{s:ByteArray}{T:List Tk}{i g:Nat}{vC vP vM:Value}
theorem dH.below(d:dH B w pb s T i g vC vP vM)(k:aB w w'):dH B w' pb s T i g vC vP vM:=by obtain ⟨f,j,m,c,b⟩:=d;exact ⟨f,j,m,c,b.sc.below k,b.lt,b.on⟩
theorem dH.box(c:dH B w pb s T i g vC vP vM):∃left,bQ w pb left (dN (aJ T i).kind) (aJ T i).pos (aJ T i).txt vC vP vM/\B<=pb:=by obtain ⟨l,j,f,d,b⟩:=c;exact ⟨_,b.sc.box,b.sc.high⟩
theorem dH.lt(b:dH B w pb s T i g vC vP vM):i<T.length:=by obtain ⟨l,j,f,d,c⟩:=b;exact c.lt
theorem dH.far(m:dH B w pb s T i g vC vP vM){d:Option Nat}(f:w.grownBy w' d)(o:d≠some pb)(p:d≠some g):dH B w' pb s T i g vC vP vM:=by obtain ⟨t,j,r,l,b⟩:=m;refine ⟨t,j,r,l,⟨?_,b.sc.high,b.sc.row.kept f (zo λe=>p (by rw [<-e];rfl)),b.sc.len,b.sc.drop,b.sc.le⟩,b.lt,b.on⟩;have c:=b.sc.box;have q:=c.lt;unfold bQ at c ⊢;rw [f.block pb q (λe=>o e.symm)];exact c
theorem dH.glyph(d:dH B w pb s T i g vC vP vM):∃b c,w.heap[g]?=some (.cells b 120 c):=by
 obtain ⟨t,q,r,l,f⟩:=d;obtain ⟨_,⟨e,_⟩|⟨p,m,o,e,_,j,_⟩⟩:=f.sc.row
 ·simp at e
 ·simp at e;obtain ⟨rfl,_⟩:=e;exact ⟨_,_,j⟩
end
section
variable {B:Nat}{w w' w2:World}{pb:Nat}{s:ByteArray}{T:List Tk}{st:bE}{g mg:Nat}{vC vP:Value}
theorem bX.below(b:bX B w pb s T st g vC vP mg)(k:aB w w'):bX B w' pb s T st g vC vP mg:=by obtain ⟨c,d,f⟩:=b.map;exact ⟨b.pp.below k,bG b.pz k (zz _),⟨c,d.kept (nM k none) (by simp),f⟩,b.mhigh⟩
theorem bX.take(b:bX B w pb s T st g vC vP mg){i:Nat}(f:w.grownBy w' (some pb))(m:dH B w' pb s T i g vC vP (.map (some mg))):bX B w' pb s T ⟨i,st.vars,st.pz⟩ g vC vP mg:=by obtain ⟨j,c,l⟩:=b.map;obtain ⟨left,d,_⟩:=b.pp.box;exact ⟨m,b.pz.kept f (d.apart b.pz (by decide)),⟨j,c.kept f (by simpa using λe=>aAf d c e.symm),l⟩,b.mhigh⟩
theorem dH.row_apart{o:Nat}(d:dH B w pb s T o g vC vP vM){j:Nat}{e:TypeId}{p:Nat}{v:Value}{n:Nat}{xs:List Value}(i:w.ownsRow j e p v n xs)(f:e≠65/\e≠120):v.ownBlock≠some pb/\v.ownBlock≠some g:=by
 obtain ⟨left,l,_⟩:=d.box;obtain ⟨r,u,c⟩:=d.glyph;constructor
 ·rcases l.apart i f.1 with e|e
  ·rw [e];simp
  ·exact e
 ·intro b;obtain ⟨_,⟨rfl,_⟩|⟨x,q,t,rfl,_,m,_⟩⟩:=i
  ·simp [zy] at b
  ·simp [zy] at b;subst b;rw [m] at c;simp at c;exact f.2 c.2.1
theorem bX.far(b:bX B w pb s T st g vC vP mg){j:Nat}{e:TypeId}{q:Nat}{v:Value}{n:Nat}{xs:List Value}(f:w.ownsRow j e q v n xs)(c:e≠65/\e≠120/\e≠3)(d:w.grownBy w' v.ownBlock):bX B w' pb s T st g vC vP mg:=by obtain ⟨l,i,p⟩:=b.map;obtain ⟨m,o⟩:=b.pp.row_apart f ⟨c.1,c.2.1⟩;exact ⟨b.pp.far d m o,b.pz.kept d (gE b.pz f c.2.2.symm),⟨l,i.kept d (λe=>sW f i e.symm),p⟩,b.mhigh⟩
theorem bX.var(b:bX B w pb s T st g vC vP mg){f:List ByteArray}{c:DataW Unit}(i:w.grownBy w' (some mg))(p:w'.ownsMap zx 9 nK mg f.length c)(l:pM c f):bX B w' pb s T ⟨st.i,f,st.pz⟩ g vC vP mg:=by obtain ⟨q,d,y⟩:=b.map;obtain ⟨left,m,_⟩:=b.pp.box;obtain ⟨t,x,o⟩:=b.pp.glyph;refine ⟨b.pp.far i (by simpa using λe=>aAf m d e.symm) ?_,b.pz.kept i (zo (sW b.pz d)),⟨c,p,l⟩,b.mhigh⟩;intro e;simp at e;subst e;obtain ⟨u,r,j,_⟩:=d;rw [o] at j;cases j
theorem bX.place(c:bX B w pb s T st g vC vP mg){v:Value}{p:Pl}(t:w2.ownsRow B 3 1 v (st.pz.length+1) (nL st.pz++[.int .i64 p.2.2.2]))(j:w.grownBy w2 vP.ownBlock):w2.cell? ⟨pb,5,none⟩=some vP/\w2.frozen? ⟨pb,5,none⟩=false/\bX B (w2.setCell ⟨pb,5,none⟩ v) pb s T ⟨st.i,st.vars,st.pz++[p]⟩ g vC v mg:=by
 obtain ⟨l,f,r⟩:=c.map;obtain ⟨m,o⟩:=c.pp.row_apart c.pz (by decide);obtain ⟨y,u,x,q,b⟩:=c.pp.far j m o;have d:=b.sc.box;have i:=f.kept j (λe=>sW c.pz f e.symm);refine ⟨d.c5,d.soft 5,⟨⟨y,u,x,q,⟨heap_setCell_same w2 pb 5 _ _ _ d,b.sc.high,d.row b.sc.row (by decide) _ _,b.sc.len,b.sc.drop,b.sc.le⟩,b.lt,b.on⟩,d.row ?_ (by decide) _ _,⟨l,i.setCell (λe=>aAf d i e.symm) _,r⟩,c.mhigh⟩⟩;rw [aT0,zv];exact t
end
def sX(B B' pb:Nat)(w:World)(s:ByteArray)(b:List Tk)(g:Nat)(vC:Value)(mg:Nat)(i:Except Nat (bE×List Nd))(e:Ending)(w':World):Prop:=
 bV B B' mg w w'/\
  match i with
  | .ok (s1,l1)=>∃d vP,e=.returned (.tuple #[d,.bool true])/\bX B w' pb s b s1 g vC vP mg/\w'.ownsRow B' 117 2 d l1.length (bB l1)
  | .error p=>∃a n f c vP vM,e=.returned (.tuple #[.slice a n f,.bool false])/\dH B w' pb s b c g vC vP vM/\(aJ b c).pos=p
def aIi(B pb:Nat)(s:ByteArray)(c:List Tk)(i:Nat)(vC:Value)(j g:Nat):Prop:=
 ∀(B':Nat) (f:Bool) (b:bE) (vP l:Value) (d:List Nd) (w:World),bX B w pb s c b i vC vP j->w.ownsRow B' 117 2 l d.length (bB d)->B<=B'->B'<=w.heap.size->(f=true->(aJ c b.i).kind≠118)->c.length<b.i+g->d.length<=b.i->b.pz.length<=b.i->b.vars.length<=b.i->
  Calls zx 109 #[.pointer (some ⟨pb,0,none⟩),l] w λe w'=>sX B B' pb w s c i vC j (cJ c g f b d) e w'
section
variable {B B' pb:Nat}{s:ByteArray}{T:List Tk}{g:Nat}{vC vP vl:Value}{mg:Nat}{st:bE}{l:List Nd}{w:World}
theorem aT3{w1 b c:World}{p:DataW Unit}{j:List ByteArray}{x:Value}{o:Int}{q:Obj}{m:bE}(f:bX B w1 pb s T m g vC vP mg)(t:w1.ownsRow B' 117 2 vl l.length (bB l))(z:B<=B')(C:bV B B' mg w w1)
  (i:w1.grownBy b (some mg)) (D:b.ownsMap zx 9 nK mg j.length p) (A:pM p j) (E:c.ownsRow B' 117 2 x (l.length+1) (bB l++[.string ⟨#[]⟩,.int .i64 o])) (r:(b.alloc q).grownBy c vl.ownBlock):bX B c pb s T ⟨m.i,j,m.pz⟩ g vC vP mg/\c.ownsRow B' 117 2 x (l++[((⟨#[]⟩ : ByteArray),o)]).length (bB (l++[((⟨#[]⟩ : ByteArray),o)]))/\bV B B' mg w c:=by
 obtain ⟨G,F,_⟩:=f.map;have y:=f.var i D A;have u:=t.kept i (zo (sW t F));have d:=(Below.refl b.heap.size b).alloc (zz _) q;refine ⟨(y.below d).far (bG u d (zz _)) (by decide) r,by rw [xS,zv];exact E,?_⟩;exact ((C.grownMap f.mhigh i).trans (.of_below d)).grownRow (bG u d (zz _)) z (zo ⟨rfl,zz _⟩) r
theorem aT4(M:Bool)(P:Nat)(Q:∀G,(aJ T G).kind∈gX)(a2:∀G,(aJ T G).txt.size<=1000000)(b5:s.size<=3000)(c4:T.length<=1000000)(f:bX B w pb s T st g vC vP mg)(D:w.ownsRow B' 117 2 vl l.length (bB l))(b2:B<=B')(b9:B'<=w.heap.size)(r:(aJ T st.i).kind=118)(b4:M=false)(c5:l.length<=st.i)(c7:st.vars.length<=st.i):Calls zx 109 #[.pointer (some ⟨pb,0,none⟩),vl] w λe w'=>sX B B' pb w s T g vC mg (cJ T (P+1) M st l) e w':=by
 subst b4;have c6:=f.pp.lt;obtain ⟨c9,c0,c1,c2,c3⟩:=info_parts sQ;obtain ⟨left,c,_⟩:=f.pp.box;obtain ⟨d0,d1,rfl⟩:=bA D;rw [r,show dN 118=65 from rfl] at c;have b1:=c.c1;have N:=c.c2;have O:=c.c3;have m:=aA (λb7=>mM 118 (by decide) (by decide) (by decide) Q b5 (f.pp.below ((Below.refl w.heap.size w).alloc (zz _) b7)));rw [r,show dN 118=65 from rfl] at m;simp only [if_true,decide_true] at m;have J:aM (cJ T (P+1) false st l=.ok (⟨st.i+1,kO st.vars (aJ T st.i).txt,st.pz⟩,l++[(⟨#[]⟩,kC st.vars (aJ T st.i).txt)])):=aA (by rw [cJ,aH ⟨r,rfl⟩]);obtain ⟨d,a1⟩ : ∃d,(aJ T st.i).txt=d:=⟨_,rfl⟩;obtain ⟨t,a0⟩ : ∃t,(aJ T st.i).pos=t:=⟨_,rfl⟩;have a3:=a2 st.i;rw [a1] at O J a3;rw [a0] at N;have o:=aA f;have x:=aA D;clear f D c r a2 Q a1 a0;go_enter zj,zm;go_upto_region 3 with (first
  |(go_at_call 65;refine (aD m _).mono ?_;rintro e b ⟨rfl,p,X⟩;have Z:=(o.o.below ((Below.refl w.heap.size w).alloc (zz _) _)).take p X;have j:=p.block w.heap.size (by simp) (by obtain ⟨left,c,_⟩:=o.o.pp.box;have:=c.lt;simp;omega);have A:=aA Z;have L:=aA j;have u:=aA p;clear p X Z j)
  |go_in)
 have j:b.heap[w.heap.size]?=some (.cells #[.int .i32 65,.int .i64 t,.string d] 58):=L.o.trans (by show (w.heap.push _)[w.heap.size]?=_;simp);have d5:b.cell? ⟨w.heap.size,2,none⟩=some (.string d):=by unfold zn;rw [j];rfl
 obtain ⟨d2,R,_⟩:=A.o.pp.box;have d4:=R.c6;have i:=(Below.refl w.heap.size w).alloc (zz _) (.cells #[.int .i32 65,.int .i64 t,.string d] 58);obtain ⟨d3,C,b3⟩:=(o.o.below i).pp.box;have I:aM (bV B B' mg w b):=aA ((bV.of_below i).grownBox C b3 u.o);have y:=aA ((bG x.o i (zz _)).kept u.o (C.apart (bG x.o i (zz _)) (by decide)));obtain ⟨a5,E,V⟩:=A.o.map;have a4:=aA (aSw mg a5 st.vars d b.drew E V (by omega) a3);have c8:=I.o.size;have a9:=aA E;clear E V j R C i o x L u m b1 N O;go_region_law (first
  |(refine aZn (by rfl) 127 _ _ (by rfl) (enters_of zk (by kernel_rfl) rfl) _ (by rfl) (aD a4) ?_;rintro e H ⟨b8,rfl,U,W,q⟩;refine ⟨_,rfl,?_⟩;have a8:=aA U;have b0:=aA W;have a6:=aA q;have a7:=aA (World.ownsRow.kept (w:=b.drew) y.o q (zo (sW y.o a9.o)));have b6:=q.size;clear U W q)
  |(refine oU ?g1 (.tmp 13) (.tmp 22) 84 117 ?g2 (.agg #[.string ⟨#[]⟩,.int .i64 0]) 2 24 zs sQ ?g3 ?g4 ?g5 B' _ l.length (bB l) ?g6 (a7.o.alloc _) ?g7 ?g8 H.heap.size 1 [.string ⟨#[]⟩,.int .i64 (kC st.vars d)] ?g9 ?g10 (kZ H _ _ 117 H.heap.size rfl) (aCj _ _) ?_;(case g1=>rfl);(case g2=>rfl);(case g3=>rfl);(case g4=>decide);(case g5=>decide);(case g6=>rfl);(case g7=>omega);(case g8=>(simp at b6 ⊢;omega));(case g9=>rfl);(case g10=>rfl);intro d6 d9 F S;have Y:=aT3 (w1:=b.drew) (A.o.below (aU (w1:=b.drew) ⟨1,rfl⟩)) y.o b2 (I.o.trans (.of_below (aU (w1:=b.drew) ⟨1,rfl⟩))) a6.o a8.o b0.o F S;have z:=aA Y;obtain ⟨d7,d8,rfl⟩:=bA F;clear F S Y))
 all_goals
  go_wp2;go_ret2;refine ⟨z.o.2.2,?_⟩;rw [J.o];exact ⟨_,_,rfl,z.o.1,z.o.2.1⟩
theorem aT5(t:Bool)(u:Nat)(i:∀Q,(aJ T Q).kind∈gX)(E:s.size<=3000)(b:bX B w pb s T st g vC vP mg)(d:(aJ T st.i).kind≠118)(f:(aJ T st.i).kind≠110):Calls zx 109 #[.pointer (some ⟨pb,0,none⟩),vl] w λe w'=>sX B B' pb w s T g vC mg (cJ T (u+1) t st l) e w':=by
 obtain ⟨left,c,_⟩:=b.pp.box;have S:=c.c1;have M:=c.c2;have U:=c.c3;have o:=aA (λR=>mM 118 (by decide) (by decide) (by decide) i E (b.pp.below ((Below.refl w.heap.size w).alloc (zz _) R)));rw [show dN 118=65 from rfl,aI d,gB d] at o;have p:=aA (λF (P:dH B F pb s T st.i g vC vP (.map (some mg)))=>mM 110 (by decide) (by decide) (by decide) i E P);rw [show dN 110=97 from rfl,aI f,gB f] at p;have q:aM (cJ T (u+1) t st l=.error (aJ T st.i).pos):=aA (by rw [cJ,aI (λe=>d e.1),aH f]);have J:=aA b;clear b c i d f;generalize dN (aJ T st.i).kind=K at *;generalize (aJ T st.i).txt=tx at *;obtain ⟨m,j⟩ : ∃m,(aJ T st.i).pos=m:=⟨_,rfl⟩;rw [j] at M q;have L:=aA j;clear j;go_enter zj,zm;go_wp2_with (first
  |(go_at_call 65;refine (p.o _ r.o).mono ?_;rintro e X ⟨rfl,A,D⟩;have H:=aA A;have I:=aA D;clear A D)
  |(go_at_call 65;refine (aD o _).mono ?_;rintro e F ⟨rfl,z,C⟩;have G:=aA z;have r:=aA C;clear z C)
  |go_in)
 go_ret2;have x:=(Below.refl w.heap.size w).alloc (zz _) (.cells #[.int .i32 K,.int .i64 m,.string tx] 58);obtain ⟨W,O,y⟩:=(J.o.below x).pp.box;obtain ⟨V,N,_⟩:=r.o.box;refine ⟨((bV.of_below x).grownBox O y G.o).grownBox N y H.o,?_⟩;rw [q.o];exact ⟨_,_,_,_,_,_,rfl,I.o,L.o⟩
end
def aIj(B B' pb:Nat)(w:World)(s:ByteArray)(b:List Tk)(c:Nat)(vC:Value)(f g:Nat)(l:Except Nat (bE×List Nd×Nat))(e:Ending)(w':World):Prop:=
 bV B B' f w w'/\
  match l with
  | .ok (s1,l1,n)=>∃i vP,e=.returned (.tuple #[i,.bool true])/\bX B w' pb s b s1 c vC vP f/\w'.ownsRow B' 117 2 i (dS l1 g n).length (bB (dS l1 g n))
  | .error p=>∃a n j d vP vM,e=.returned (.tuple #[.slice a n j,.bool false])/\dH B w' pb s b d c vC vP vM/\(aJ b d).pos=p
def aIk(B pb:Nat)(s:ByteArray)(d:List Tk)(g:Nat)(vC:Value)(i f:Nat):Prop:=
 ∀(B':Nat) (b:bE) (vP j:Value) (c:List Nd) (l:ByteArray) (w:World),bX B w pb s d ⟨b.i+1,b.vars,b.pz⟩ g vC vP i->w.ownsRow B' 117 2 j (c.length+1) (bB (c++[(l,0)]))->B<=B'->B'<=w.heap.size->d.length<b.i+f->c.length+1<=b.i->b.pz.length<=b.i->b.vars.length<=b.i->
  Calls zx 128 #[.pointer (some ⟨pb,0,none⟩),j] w λe w'=>aIj B B' pb w s d g vC i c.length (dT d f b (c++[(l,0)]) 0) e w'
theorem bX.parts{d:List Tk}{c:bE}{f:Nat}{g:Nat}(b:bX B w pb s d c f vC vP g)(k n:Nat):bX B w pb s d ⟨c.i,c.vars,pW c.pz k n⟩ f vC vP g:=
 ⟨b.pp,by rw [aT1,aT2];exact b.pz,b.map,b.mhigh⟩
theorem bV.boxSet{b:Nat}{k j:Int}(c:bV B B' b a w)(d:bQ w pb left k j wd vC vP vM)(f:B<=pb)(g:Nat)(i:Value):bV B B' b a (w.setCell ⟨pb,g,none⟩ i):=c.grownBox d f (cN _ _ _)
section
variable {B B' pb:Nat}{s:ByteArray}{T:List Tk}{g:Nat}{vC vP vl:Value}{mg:Nat}{st:bE}{l:List Nd}{w:World}
theorem aT6{c d:World}{f:bE}{p:Pl}{tb:Nat}{t:Obj}{m:Obj}(F:bX B c pb s T f g vC vP mg)(L:c.ownsRow B' 117 2 vl l.length (bB l))(I:bV B B' mg w c)(z:c.heap[tb]?=some t)(Q:∃o,t=.cells o 58)(P:d.ownsRow B 3 1 v (f.pz.length+1) (nL f.pz++[.int .i64 p.2.2.2]))(j:(c.alloc m).grownBy d vP.ownBlock):d.cell? ⟨pb,5,none⟩=some vP/\d.frozen? ⟨pb,5,none⟩=false/\bX B (d.setCell ⟨pb,5,none⟩ v) pb s T ⟨f.i,f.vars,f.pz++[p]⟩ g vC v mg/\(d.setCell ⟨pb,5,none⟩ v).ownsRow B' 117 2 vl l.length (bB l)/\bV B B' mg w (d.setCell ⟨pb,5,none⟩ v)/\(d.setCell ⟨pb,5,none⟩ v).heap[tb]?=some t:=by
 have i:=(Below.refl c.heap.size c).alloc (zz _) m;have b:=F.below i;obtain ⟨D,E,H⟩:=b.place (p:=p) P j;obtain ⟨A,C⟩:=b.pp.row_apart b.pz (by decide);obtain ⟨V,u,G⟩:=(b.pp.far j A C).box;have y:=bG L i (zz _);have M:=y.kept j (gE y b.pz (by decide));have J:=(I.trans (.of_below i)).grownRow b.pz (zz _) (Or.inl rfl) j;have N:=(Array.getElem?_eq_some_iff.1 z).1;obtain ⟨o,rfl⟩:=Q;have r:(c.alloc m).heap[tb]?=some (.cells o 58):=(i.block tb N).trans z;refine ⟨D,E,H,u.row M (by decide) _ _,J.boxSet u G _ _,?_⟩;have O:tb≠pb:=by rintro rfl;obtain ⟨W,q,_⟩:=b.pp.box;unfold bQ at q;rw [r] at q;simp at q
 rw [Below.heap_setCell _ _ _ _ O,j.block tb (by have:=i.size;omega) ?_]
 ·exact r
 ·intro e;obtain ⟨_,⟨rfl,_⟩|⟨U,R,S,rfl,_,x,_⟩⟩:=b.pz
  ·simp [zy] at e
  ·simp [zy] at e;subst e;rw [r] at x;simp at x
def aIl(k b:Nat):Except Nat (bE×List Nd×Nat)->Except Nat (bE×List Nd)
 | .error p=>.error p
 | .ok (st',l',n)=>.ok (⟨st'.i,st'.vars,pW st'.pz k n⟩,dS l' b n)
theorem aT7{o q:World}{c:Except Nat (bE×List Nd×Nat)}{e:Ending}(m:bV B B' mg w o)(t:aIj B B' pb o s T g vC mg l.length c e q):(∃a n b r,e=.returned (.tuple #[.slice a n b,.bool r]))/\sX B B' pb w s T g vC mg (aIl k l.length c) e q:=by
 obtain ⟨i,j⟩:=t;cases c with
 |error p=>
  obtain ⟨a,n,b,x,vP,vM,rfl,f,d⟩:=j;exact ⟨⟨a,n,b,false,rfl⟩,m.trans i,a,n,b,x,vP,vM,rfl,f,d⟩
 |ok c=>
  obtain ⟨z,y,n⟩:=c;obtain ⟨vl,vP,rfl,f,d⟩:=j;obtain ⟨a,b,u⟩:=bA d;exact ⟨⟨a,_,b,true,by rw [u]⟩,m.trans i,vl,vP,rfl,f.parts _ _,d⟩
theorem aT8(i:Bool)(t:Nat)(O:∀i0,(aJ T i0).kind∈gX)(P:s.size<=3000)(j4:T.length<=1000000)(d9:aIk B pb s T g vC mg t)(f:bX B w pb s T st g vC vP mg)(a9:w.ownsRow B' 117 2 vl l.length (bB l))(Z:B<=B')(h6:B'<=w.heap.size)(y:(aJ T st.i).kind=110)(j5:T.length<st.i+(t+1))(j6:l.length<=st.i)(j8:st.pz.length<=st.i)(k0:st.vars.length<=st.i):Calls zx 109 #[.pointer (some ⟨pb,0,none⟩),vl] w λe w'=>sX B B' pb w s T g vC mg (cJ T (t+1) i st l) e w':=by
 have j7:=f.pp.lt;obtain ⟨f5,d5,d6,d7,d8⟩:=info_parts sQ;obtain ⟨left,D,_⟩:=f.pp.box;obtain ⟨i1,i2,rfl⟩:=bA a9;obtain ⟨b6,b7,rfl⟩:=bA f.pz;have d1:=D.c1;have d2:=D.c2;have d3:=D.c3;rw [y,show dN 110=97 from rfl] at d1;have S:=aA (λo=>mM 118 (by decide) (by decide) (by decide) O P (f.pp.below ((Below.refl w.heap.size w).alloc (zz _) o)));rw [show dN 118=65 from rfl,aI (by rw [y];decide),gB (by rw [y];decide)] at S;have U:=aA (λE (I:dH B E pb s T st.i g vC (.slice b6 st.pz.length b7) (.map (some mg)))=>mM 110 (by decide) (by decide) (by decide) O P I);rw [show dN 110=97 from rfl,aH y,fC y] at U;have Y:=aA f;have c1:=aA a9;have M:=aA y;have c7:=aA O;have h2:=aA d9;clear f a9 D y O d9;obtain ⟨b,b4⟩ : ∃b,(aJ T st.i).txt=b:=⟨_,rfl⟩;obtain ⟨d,b3⟩ : ∃d,(aJ T st.i).pos=d:=⟨_,rfl⟩;rw [b3] at d2;rw [b4] at d3;have c9:=aA b4;have c8:=aA b3;clear b4 b3;go_enter zj,zm;go_upto_region 6 with (first
  |(go_at_call 65;refine (U.o _ X.o).mono ?_;rintro e c ⟨rfl,e5,f1⟩;have G:=aA e5;have c4:=aA f1;clear e5 f1)
  |(go_at_call 65;refine (aD S _).mono ?_;rintro e E ⟨rfl,e4,f0⟩;have A:=aA e4;have X:=aA f0;clear e4 f0)
  |go_in)
 have N:=(Below.refl w.heap.size w).alloc (zz _) (.cells #[.int .i32 97,.int .i64 d,.string b] 58);have a3:=Y.o.below N;have a1:=a3.take A.o X.o;have a2:=a1.take G.o c4.o;obtain ⟨k5,a5,d4⟩:=a3.pp.box;obtain ⟨k3,a4,_⟩:=a1.pp.box;have b1:=bG c1.o N (zz _);have b0:=b1.kept A.o (a5.apart b1 (by decide));have e7:=b0.kept G.o (a4.apart b0 (by decide));have a6:bV B B' mg w c:=((bV.of_below N).grownBox a5 d4 A.o).grownBox a4 d4 G.o;have j9:pb<w.heap.size:=by obtain ⟨left,D,_⟩:=Y.o.pp.box;exact D.lt
 have Q:c.heap[w.heap.size]?=some (.cells #[.int .i32 97,.int .i64 d,.string b] 58):=by rw [G.o.block w.heap.size (by have:=A.o.size;simp at this;omega) (by simp;omega),A.o.block w.heap.size (by simp) (by simp;omega)];show (w.heap.push _)[w.heap.size]?=_;simp
 have k1:=a6.size;obtain ⟨k4,e3,_⟩:=a2.pp.box;have f6:=e3.c5;have f7:c.cell? ⟨w.heap.size,1,none⟩=some (.int .i64 d):=by unfold zn;rw [Q];rfl
 have i6:c.cell? ⟨w.heap.size,2,none⟩=some (.string b):=by unfold zn;rw [Q];rfl
 have i4:∀o,(c.alloc o).cell? ⟨pb,5,none⟩=some (.slice b6 st.pz.length b7):=λo=>aC ((Below.refl c.heap.size c).alloc (zz _) o) f6
 have i5:∀o,(c.alloc o).cell? ⟨w.heap.size,1,none⟩=some (.int .i64 d):=λo=>aC ((Below.refl c.heap.size c).alloc (zz _) o) f7
 have c5:=aA a2;have c2:=aA e7;have b9:=aA a6;have d0:=aA Q;clear N a3 a1 a2 a5 a4 e3 b1 b0 e7 a6 Q Y c1 X c4 A G S U d1 d2 d3;go_cut [] (λR=>∃L,bX B R pb s T ⟨st.i+1,st.vars,st.pz++[(b,i,0,(d:Int))]⟩ g vC L mg/\R.ownsRow B' 117 2 (.slice i1 l.length i2) l.length (bB l)/\bV B B' mg w R/\R.heap[w.heap.size]?=some (.cells #[.int .i32 97,.int .i64 d,.string b] 58));case first=>
  refine tK ?_;have f3:aM (bX B c.drew pb s T ⟨st.i+1,st.vars,st.pz⟩ g vC (.slice b6 st.pz.length b7) mg):=aA (c5.o.below (aU (w1:=c.drew) ⟨1,rfl⟩));have h9:aM (bV B B' mg w c.drew):=aA (b9.o.trans (.of_below (aU (w1:=c.drew) ⟨1,rfl⟩)));go_region_law (refine oU ?g1 (.tmp 31) (.tmp 34) 28 3 ?g2 (.int .i64 0) 1 8 Tryz.underlying28 tW ?g3 ?g4 ?g5 B _ st.pz.length (nL st.pz) ?g6 (f3.out.pz.alloc _) ?g7 ?g8 c.heap.size 1 [.int .i64 d] ?g9 ?g10 (tX c.drew (.int .i64 d) 3 c.heap.size rfl) (aGq d) ?_;(case g1=>rfl);(case g2=>rfl);(case g3=>rfl);(case g4=>decide);(case g5=>decide);(case g6=>rfl);(case g7=>omega);(case g8=>(simp;omega));(case g9=>rfl);(case g10=>rfl);intro k7 l0 b2 e6;obtain ⟨j1,j3,f2⟩:=aT6 (p:=(b,i,0,(d:Int))) (tb:=w.heap.size) f3.out c2.o h9.out d0.o ⟨_,rfl⟩ b2 e6;have h1:=aA f2;obtain ⟨k8,k9,rfl⟩:=bA b2;clear b2 e6 f2);all_goals
   refine qT ?_;go_wp2_with fail;go_meet;case rel=>exact ⟨_,h1.o⟩
 case rest=>
  obtain ⟨L,e0,e8,a7,f4⟩:=hcut;have i6:wc.cell? ⟨w.heap.size,2,none⟩=some (.string b):=by unfold zn;rw [f4];rfl
  have c6:=aA e0;have C:=aA e8;have c0:=aA a7;have k2:=a7.size;clear e0 e8 a7 f4 c5 c2 b9 d0 f6 i4 f7 i5;have c3:aM (∀(j:(aJ T (st.i+1)).kind≠40),cJ T (t+1) i st l=.ok (⟨st.i+1,st.vars,st.pz++[(b,i,0,(d:Int))]⟩,l++[(b,0)])):=aA λj=>by
   rw [cJ,aI (by rw [M.o];exact λf=>absurd f.1 (by decide)),aI (by rw [M.o];decide),aI j,c9.o,c8.o]
  by_cases j:(aJ T (st.i+1)).kind=40
  ·have F:=aA (λE (I:dH B E pb s T (st.i+1) g vC L (.map (some mg)))=>mM 40 (by decide) (by decide) (by decide) c7.o P I);rw [show dN 40=40 from rfl,aH j,fC j] at F;have h3:aM (cJ T (t+1) i st l=aIl st.pz.length l.length (dT T t ⟨st.i+1,st.vars,st.pz++[(b,i,0,(d:Int))]⟩ (l++[(b,0)]) 0)):=aA (by
    rw [cJ,aI (by rw [M.o];exact λf=>absurd f.1 (by decide)),aI (by rw [M.o];decide),aH j,c9.o,c8.o];cases dT T t ⟨st.i+1,st.vars,st.pz++[(b,i,0,(d:Int))]⟩ (l++[(b,0)]) 0 with
    |error p=>rfl
    |ok r=>rfl)
   go_wp2_with (first
    |(at_builtin;refine wpList_append_own _ rfl (.tmp 38) (.tmp 42) 84 rfl B' 117 f5 (.agg #[.string ⟨#[]⟩,.int .i64 0]) 2 24 zs d5 d6 d7 d8 rfl (by decide) _ _ _ rfl (C.o.alloc _) ⟨_,0,none⟩ 1 1 [.string b,.int .i64 0] rfl rfl (kZ wc _ _ _ _ rfl) (aCj _ _) (by unfold maxLen;omega) (by omega) (by simp;omega) ?_;intro b5 b8 z x _;have q:=aA ((c6.o.below ((Below.refl wc.heap.size wc).alloc (zz _) _)).far (C.o.alloc _) (by decide) x);have V:=aA ((c0.o.trans (.of_below ((Below.refl wc.heap.size wc).alloc (zz _) _))).grownRow (C.o.alloc _) Z (zo ⟨rfl,zz _⟩) x);have H:aM (b8.ownsRow B' 117 2 b5 (l.length+1) (bB (l++[(b,0)]))):=aA (by rw [xS];exact z);obtain ⟨i7,i8,rfl⟩:=bA z;clear z x)
    |(go_at_call 65;refine (F.o _ q.o.pp).mono ?_;rintro e f8 ⟨rfl,m,J⟩;obtain ⟨i3,u,a0⟩:=q.o.pp.box;have e1:=q.o.take m J;have e9:=H.o.kept m (u.apart H.o (by decide));have a8:=V.o.grownBox u a0 m;have f9:=aA (h2.o B' ⟨st.i+1,st.vars,st.pz++[(b,i,0,(d:Int))]⟩ L _ l b f8 e1 e9 Z (Nat.le_trans h6 a8.size) (by simp;omega) (by simp;omega) (by simp;omega) (by simp;omega));have W:=aA a8;clear m J e1 e9 a8 u)
    |(go_at_call 128;refine (aD f9).mono ?_;intro e l1 h7;obtain ⟨⟨i9,k6,j2,j0,h8⟩,e2⟩:=aT7 (k:=st.pz.length) W.o h7;subst h8;have h5:=aA e2;clear e2)
    |go_in)
   go_ret2;rw [h3.o];exact h5.o
  ·have F:=aA (λE (I:dH B E pb s T (st.i+1) g vC L (.map (some mg)))=>mM 40 (by decide) (by decide) (by decide) c7.o P I);rw [show dN 40=40 from rfl,aI j,gB j] at F;have h0:=aA (c3.o j);clear c3;go_wp2_with (first
    |(at_builtin;refine wpList_append_own _ rfl (.tmp 38) (.tmp 42) 84 rfl B' 117 f5 (.agg #[.string ⟨#[]⟩,.int .i64 0]) 2 24 zs d5 d6 d7 d8 rfl (by decide) _ _ _ rfl (C.o.alloc _) ⟨_,0,none⟩ 1 1 [.string b,.int .i64 0] rfl rfl (kZ wc _ _ _ _ rfl) (aCj _ _) (by unfold maxLen;omega) (by omega) (by simp;omega) ?_;intro b5 b8 z x _;have q:=aA ((c6.o.below ((Below.refl wc.heap.size wc).alloc (zz _) _)).far (C.o.alloc _) (by decide) x);have V:=aA ((c0.o.trans (.of_below ((Below.refl wc.heap.size wc).alloc (zz _) _))).grownRow (C.o.alloc _) Z (zo ⟨rfl,zz _⟩) x);have H:aM (b8.ownsRow B' 117 2 b5 (l++[(b,0)]).length (bB (l++[(b,0)]))):=aA (by rw [xS,zv];exact z);obtain ⟨i7,i8,rfl⟩:=bA z;clear z x)
    |(go_at_call 65;refine (F.o _ q.o.pp).mono ?_;rintro e f8 ⟨rfl,m,J⟩;obtain ⟨i3,u,a0⟩:=q.o.pp.box;have h4:=aA (q.o.take m J);have g0:=aA (H.o.kept m (u.apart H.o (by decide)));have W:=aA (V.o.grownBox u a0 m);clear m J u)
    |go_in)
   go_ret2;refine ⟨W.o,?_⟩;rw [h0.o];exact ⟨_,_,rfl,h4.o,g0.o⟩
end
