import Derived.Test.YtbpiopdphigodaaGreatDoorRNamedP
import Derived.Test.YtbpiopdphigodaaGreatDoorPCl0P
namespace Go.Proofs.YtbpiopdphigodaaGreatDoor
set_option maxHeartbeats 2000000
set_option maxRecDepth 100000
open Go.RowKit Go.Shelf
def fS(b:List Us):List Value:=b.flatMap λa=>[.string a.1,.bool a.2.1,.int .i64 a.2.2]
theorem aRg(b:List Us)(a:Us):fS (b++[a])=fS b++[.string a.1,.bool a.2.1,.int .i64 a.2.2]:=by simp [fS]
theorem aC0(b:List Us):∀a (c:a<b.length),(fS b)[a*3]?=some (.string b[a].1)/\(fS b)[a*3+1]?=some (.bool b[a].2.1)/\(fS b)[a*3+2]?=some (.int .i64 b[a].2.2):=by
 induction b with
 |nil=>intro a c;simp at c
 |cons x r ih=>
  intro a c;cases a with
  |zero=>simp [fS]
  |succ a=>
   have:=ih a (by simpa using c);have d:(a+1)*3=a*3+3:=by omega
   rw [d];simp only [fS,List.flatMap_cons,List.cons_append,List.nil_append,List.getElem_cons_succ] at this ⊢;have e:a*3+3+1=a*3+1+3:=by omega
   have f:a*3+3+2=a*3+2+3:=by omega
   rw [e,f];simp only [List.getElem?_cons_succ];exact this
structure aC1(w:World)(a:Option Addr)(U:List Us):Prop where
 few:U.length<=1000000
 short:∀k (h:k<U.length),U[k].1.size<=140737488355328
 cell:∀k (h:k<U.length),∃b,a=some ⟨b,0,none⟩/\w.cell? ⟨b,k*3,none⟩=some (.string U[k].1)/\w.cell? ⟨b,k*3+1,none⟩=some (.bool U[k].2.1)/\w.cell? ⟨b,k*3+2,none⟩=some (.int .i64 U[k].2.2)
theorem aGk{g:World}{i:Nat}{n:Value}{a:List Us}(k:g.ownsRow i 83 3 n a.length (fS a))(l:a.length<=1000000)(m:∀b (k:b<a.length),a[b].1.size<=140737488355328):∃j c,n=.slice j a.length c/\aC1 g j a:=by
 obtain ⟨p,⟨rfl,q⟩|⟨e,c,o,rfl,r,t,s,u,w,v⟩⟩:=k
 ·exact ⟨none,0,by rw [q],l,m,λb d=>by omega⟩
 ·have f:g.ownsRow i 83 3 (.slice (some ⟨e,0,none⟩) a.length c) a.length (fS a):=⟨p,Or.inr ⟨e,c,o,rfl,r,t,s,u,w,v⟩⟩;refine ⟨_,_,rfl,l,m,λb d=>⟨e,rfl,?_,?_,?_⟩⟩
  ·rw [f.cellAt (b*3) (by omega),(aC0 a b d).1]
  ·rw [f.cellAt (b*3+1) (by omega),(aC0 a b d).2.1]
  ·rw [f.cellAt (b*3+2) (by omega),(aC0 a b d).2.2]
theorem aGl:(Tryz.prog.info? 83).map (λa=>(a.zero,a.size,a.bytes))=some (some (.agg #[.string ⟨#[]⟩,.bool false,.int .i64 0]),3,32):=by kernel_rfl
theorem aRh{b d c:World}{f g:Value}{a:List Us}{x:Us}(k:d.ownsRow b.heap.size 83 3 f a.length (fS a))(e:aB b d)
  (l:c.ownsRow b.heap.size 83 3 g (a.length+1) (fS a++[.string x.1,.bool x.2.1,.int .i64 x.2.2])) (j:d.grownBy c f.ownBlock):c.ownsRow b.heap.size 83 3 g (a++[x]).length (fS (a++[x]))/\aB b c:=by
 refine ⟨?_,e.grown j e.size λm i=>(cL k m i).1⟩;rw [aRg,List.length_append];exact l
theorem aRi(f:World)(d e x:Value)(i:TypeId)(c:Nat)(g:c=f.heap.size):∀j b,[d,e,x][j]?=some b->(f.alloc (.cells #[d,e,x] i)).cell? ((⟨c,0,none⟩ : Addr).add j)=some b:=by
 subst g;intro j b a;match j,a with
 |0,a=>simp at a;subst a;simp [Addr.add]
 |1,a=>simp at a;subst a;simp [Addr.add]
 |2,a=>simp at a;subst a;simp [Addr.add]
 |j+3,a=>simp at a
theorem aRj(d:ByteArray)(c:Bool)(x:Int):∀b∈[Value.string d,Value.bool c,Value.int .i64 x],b.oneCell'=true:=by intro b a;simp at a;rcases a with rfl|rfl|rfl<;>rfl
theorem aGm(H:Option Addr)(a3:Nat)(b:List Lt)(f:World)(w:bP f H b)(c8:aS b<=100000):Calls Tryz.prog 20 #[.slice H b.length a3] f λv U=>∃T,v=.returned T/\U.ownsRow f.heap.size 83 3 T (eJ b).length (fS (eJ b))/\aB f U:=by
 obtain ⟨b3,a6,a7,a8,a9⟩:=info_parts aGl;have c9:=w.few;have a0:=aA w;clear w;go_enter Tryz.func20,Tryz.ntmps20;go_wp2;go_loopw [3,10] (λD B wr=>∃c:Nat,c<=b.length/\B=.int .i64 c/\wr.ownsRow f.heap.size 83 3 D (jX b c).length (fS (jX b c))/\aB f wr) (λ_ B _=>b.length-(intOf B).toNat);case atStart=>exact ⟨0,Nat.zero_le _,rfl,World.ownsRow_nil _ _ _ _,Below.refl _ _⟩
 case round=>
  obtain ⟨c,d0,rfl,y,m⟩:=hrel;by_cases x:c<b.length
  ·obtain ⟨c6,d7,b9,c0,rfl,I,L,s⟩:=a0.o.cell c x;have a4:=aD m I;have a5:=aD m L;have e:=aC4 b c x;have d4:=aHe b c;have P:=tT b (c+1);rw [List.take_succ_eq_append_getElem x,pZ] at P;generalize b[c]=z at *;obtain ⟨e0,d⟩:=z;simp only at a4 a5 s e P;generalize jX b c=U0 at *;have F:=aA e;have Z:=aA s;have d5:=s.few;have b0:=m.size;clear I L s e;go_wp2;go_loopw [3,17] (λD C X=>∃a:Nat,a<=d.length/\C=.int .i64 a/\X.ownsRow f.heap.size 83 3 D (U0++hH d a).length (fS (U0++hH d a))/\aB f X) (λ_ C _=>d.length-(intOf C).toNat);case atStart=>exact ⟨0,Nat.zero_le _,rfl,by simpa [hH] using y.alloc _,m.alloc b0 _⟩
   case round=>
    obtain ⟨a,d2,rfl,n,j⟩:=hrel;by_cases R:a<d.length
    ·obtain ⟨c7,d6,rfl,J,M⟩:=Z.o.cell a R;have b4:=aD j J;have b5:=aD j M;have k:=aHc d a R;have d3:=aHd d a;generalize d[a]=nd at *;obtain ⟨g,l⟩:=nd;simp only at b4 b5;have p:=aA (λb8=>nH g l b8);have O:=j.size;have r:=aA j;clear J M j;cases hv:g.toList.isEmpty
     ·have e:lD a (g,l)=[(g,((a:Int)==0),l)]:=by simp [lD,aM,hv,aSc]
      rw [e] at k;rw [hv] at p;have u:=aA k;have d1:(U0++hH d a).length<=200000:=by rw [List.length_append];omega
      have a2:aI (U0++hH d (a+1)=(U0++hH d a)++[(g,((a:Int)==0),l)]):=aA (by rw [k,List.append_assoc]);clear k u;generalize U0++hH d a=V at *;clear e hv;go_wp2_with (first
       |(go_at_call 36;refine (aC p _).mono ?_;rintro v W ⟨rfl,i⟩;obtain ⟨b6,b7,o⟩:=fY i;have A:=bF (n.alloc _) i (Nat.le_refl _);have q:=aA (r.o.trans (o.mono O));have N:=q.o.size;clear i o)
       |(at_builtin;refine wpList_append_own _ rfl (.tmp 25) (.tmp 33) 56 rfl f.heap.size 83 b3 (.agg #[.string ⟨#[]⟩,.bool false,.int .i64 0]) 3 32 Tryz.underlying56 a6 a7 a8 a9 rfl (by decide) _ _ _ rfl (A.alloc _) ⟨W.heap.size,0,none⟩ 1 1 [.string g,.bool ((a:Int)==0),.int .i64 l] rfl rfl ?c1 ?c2 ?c3 ?c4 ?c5 ?_)
       |go_in)
      case c1=>exact aRi _ _ _ _ _ _ (by simp)
      case c2=>first|exact aRj _ _ _|exact ⟨rfl,rfl,rfl⟩
      case c3=>unfold maxLen;omega
      case c4=>omega
      case c5=>exact Nat.le_trans N (World.grownBy_alloc _ _ none).size
      intro d8 d9 S Q _;have G:=aRh (x:=(g,((a:Int)==0),l)) (A.alloc _) (q.o.alloc N _) S Q;have E:=aA G;clear S Q A G;go_wp2;go_roundw;case rel=>exact ⟨a+1,by omega,by go_num,by rw [a2.o];exact E.o.1,E.o.2⟩
      case measure=>simp [intOf];omega
     ·have e:lD a (g,l)=[]:=by simp [lD,aM,hv]
      rw [e,List.append_nil] at k;rw [hv] at p;have u:=aA k;have t:=aA n;clear k e hv n;go_wp2_with (first
       |(go_at_call 36;refine (aC p _).mono ?_;rintro v W ⟨rfl,i⟩;obtain ⟨b6,b7,o⟩:=fY i;have a1:=aA (bF (t.o.alloc _) i (Nat.le_refl _));have q:=aA (r.o.trans (o.mono O));clear i o)
       |go_in)
      go_roundw;case rel=>exact ⟨a+1,by omega,by go_num,by rw [u.o];exact a1.o,q.o⟩
      case measure=>simp [intOf];omega
    ·have b2:a=d.length:=by omega
     subst b2;rw [<-F.o] at n;have t:=aA n;have r:=aA j;clear n j F;go_wp2;go_roundw;case rel=>exact ⟨c+1,by omega,by go_num,t.o,r.o⟩
     case measure=>simp [intOf];omega
  ·have b1:c=b.length:=by omega
   subst b1;have Y:=aA (And.intro y m);clear y m;go_wp2;go_ret;exact ⟨_,rfl,Y.o⟩
