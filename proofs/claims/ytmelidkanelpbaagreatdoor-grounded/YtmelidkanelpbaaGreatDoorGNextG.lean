import Derived.Test.YtmelidkanelpbaaGreatDoorGWord2G
open Bool renaming and_eq_false_iff→zy
open List renaming append_assoc→zv,cons_append→zu,length_append→zs,length_singleton→zr,mem_cons_of_mem→zq,mem_cons_self→zn,drop_append→zm,length_drop→zl
open Nat renaming le_refl→zt
namespace Go.Proofs.YtmelidkanelpbaaGreatDoor
open _root_.Go.Proofs.Tryz renaming results39→zx,prog→zp
open World renaming cell?→zz,frozen?→zw
open Go.RowKit
set_option maxHeartbeats 3000000
set_option maxRecDepth 100000
variable{s:ByteArray}{T:List Tk}{f:Nat}
def dM(a:Nat):Int:=if a=110 then 97 else if a=118 then 65 else if a=102 then 36 else if a=101 then -1 else if a=63 then -2 else a
theorem aPz(s:ByteArray)(a:Nat)(b:a<s.size):eK (aT s a)=eK (aE s a):=by
 by_cases d:aE s a<128
 ·rw [(mR s a b d).1]
 ·have c:eK (aE s a:Int)=false:=by simp only [eK,zy,decide_eq_false_iff_not];omega
  rw [c];rcases yQ s a b (by omega) with e|e<;>(simp only [eK,zy,decide_eq_false_iff_not];omega)
theorem aQ0(s:ByteArray)(a:Nat)(b:a<s.size):dO (aT s a)=dO (aE s a):=by
 by_cases d:aE s a<128
 ·rw [(mR s a b d).1]
 ·have c:dO (aE s a:Int)=false:=by simp only [dO,zy,decide_eq_false_iff_not];omega
  rw [c];rcases yQ s a b (by omega) with e|e<;>(simp only [dO,zy,decide_eq_false_iff_not];omega)
theorem aQ1(s:ByteArray)(a:Nat)(d:a<s.size):rR (aT s a)=mQ (aE s a):=by
 unfold rR mQ;have b:∀c:Nat,c<128->(aT s a=(c:Int))=(aE s a=c):=λc e=>propext (eX s a d c e)
 have g:(aT s a=124)=(aE s a=124):=b 124 (by omega);have i:(aT s a=126)=(aE s a=126):=b 126 (by omega);have j:(aT s a=40)=(aE s a=40):=b 40 (by omega);have k:(aT s a=41)=(aE s a=41):=b 41 (by omega);have l:(aT s a=44)=(aE s a=44):=b 44 (by omega);have m:(aT s a=46)=(aE s a=46):=b 46 (by omega);simp only [g,i,j,k,l,m]
section
variable {B:Nat}{w W:World}{pb:Nat}{s:ByteArray}{p g j m c:Nat}{k a:Int}{wd:ByteArray}{vC vP vM:Value}
theorem bN.setTok{d:Nat}{n:Array Value}(b:bN B W pb s p g j m c k a wd vC vP vM)(o:W.heap[d]?=some (.cells n 58))(l:Nat)(e:Value):bN B (W.setCell ⟨d,l,none⟩ e) pb s p g j m c k a wd vC vP vM/\∃t,(W.setCell ⟨d,l,none⟩ e).heap[d]?=some (.cells t 58):=by
 have u:pb≠d:=by rintro rfl;have:=b.box;unfold bQ at this;rw [o] at this;simp at this
 refine ⟨⟨?_,b.high,?_,b.len,b.drop,b.le⟩,?_⟩
 ·unfold bQ;rw [Below.heap_setCell _ _ _ _ u];exact b.box
 ·refine ownsRow_setCell_other b.row ?_ e;intro q;obtain ⟨_,⟨i,_⟩|⟨y,v,x,i,_,r,_⟩⟩:=b.row
  ·simp at i
  ·simp at i;obtain ⟨rfl,_⟩:=i;simp [Value.ownBlock] at q;subst q;rw [o] at r;simp at r
 ·refine ⟨n.set! l e,?_⟩;have:=heap_setCell_same W d l n 58 e o;simpa using this
theorem bN.setTok3{b:Nat}{l:Array Value}(n:bN B W pb s p g j m c k a wd vC vP vM)(r:W.heap[b]?=some (.cells l 58))(d e i:Value):bN B (((W.setCell ⟨b,0,none⟩ d).setCell ⟨b,1,none⟩ e).setCell ⟨b,2,none⟩ i) pb s p g j m c k a wd vC vP vM:=by obtain ⟨o,v,t⟩:=n.setTok r 0 d;obtain ⟨q,x,u⟩:=o.setTok t 1 e;exact (q.setTok u 2 i).1
end
theorem iQ{b c:World}{d e k:Nat}(a:b.grownBy c (some d))(n:b.heap.size<=e)(m:Value):b.grownBy (c.setCell ⟨e,k,none⟩ m) (some d):=
 ⟨a.os,a.tape,a.output,by have:=a.size;simpa [World.setCell] using this,λl i j=>by rw [Below.heap_setCell _ _ _ _ (by intro g;simp at g;omega)];exact a.block l i j⟩
def rE(g d:Nat)(s:ByteArray)(r f k:Nat)(l i:Int)(p:ByteArray)(m o n:Value)(u:World)(j:Ending)(e:World):Prop:=
 u.grownBy e (some d)/\
  match rQ s f r with
  | .tok t q=>j=.returned (fW (dM t.kind) t.pos t.txt)/\∃b c a,bN g e d s q k b c a l i p m o n
  | .bad q=>j=.returned (fW (-2) q ⟨#[]⟩)/\∃b c a,bN g e d s q k b c a l i p m o n
  | .stop q=>j=.returned (fW (-1) q ⟨#[]⟩)/\∃b c a,bN g e d s q k b c a l i p m o n
theorem aCu{a:Nat}(b:(eK (aE s a) || dO (aE s a))=true):fD (aE s a)=true:=by unfold fD;rw [Bool.or_eq_true] at b;rcases b with h|h<;>simp [h]
section
variable {B:Nat}{w:World}{pb:Nat}{s:ByteArray}{p g j m c:Nat}{k a:Int}{wd:ByteArray}{vC vP vM:Value}
theorem aGu(f:Nat)(c2:bN B w pb s p g j m c k a wd vC vP vM)(b2:s.size<=3000)(f4:s.size<p+f):Calls zp 39 #[.pointer (some ⟨pb,0,none⟩)] w λe d=>rE B pb s p f g k a wd vC vP vM w e d:=by
 obtain ⟨b7,h7,f9⟩:=aYe s f p f4 c2.le;have d1:=aA (λb9=>aYf f (c2.below ((Below.refl w.heap.size w).alloc (zt _) b9)) f4);have f1:aM (∀b9,(w.alloc b9).heap[w.heap.size]?=some b9):=aA λb9=>by show (w.heap.push _)[w.heap.size]?=_;simp
 have h8:=c2.box.lt;obtain ⟨b,g2⟩ : ∃b,mU s f p=b:=⟨_,rfl⟩;rw [g2] at b7 h7 f9 d1;have e9:=aA b7;clear c2 g2 b7;go_enter Tryz.func39,Tryz.ntmps39;go_upto_region 3 with (first
  |(go_at_call 57;refine (aD d1 _).mono ?_;rintro e A ⟨rfl,c8,i1,j2,i8,b6⟩;have g4:=(c8.block w.heap.size (by simp) (by simp;omega)).trans (f1.o _);have f0:=aA b6;have f2:=aA g4;have h0:=b6.box.c0;have h1:=b6.at0.1;have h2:=b6.at0.2;have e8:aM (w.grownBy A (some pb)):=aA ((nM ((Below.refl w.heap.size w).alloc (zt _) _) (some pb)).trans c8);have e4:=c8.size;clear c8 b6 g4)
  |go_in)
 have c5:=(Below.refl A.heap.size A).alloc (zt _) (.cells #[.int .i32 (aT s b),.int .i64 b] 120);have N:=aA (f0.o.below c5);have e3:=c5.block w.heap.size (by simp at e4;omega);rw [f2.o] at e3;have a3:=aA e3;have a8:=aA (e8.o.trans (nM c5 (some pb)));have c7:(A.alloc (.cells #[.int .i32 (aT s b),.int .i64 b] 120)).heap[A.heap.size]?=some (.cells #[.int .i32 (aT s b),.int .i64 b] 120):=by show (A.heap.push _)[A.heap.size]?=_;simp
 have d3:(A.alloc (.cells #[.int .i32 (aT s b),.int .i64 b] 120)).cell? ⟨A.heap.size,0,none⟩=some (.int .i32 (aT s b)):=by unfold zz;rw [c7];rfl
 have i7:(A.alloc (.cells #[.int .i32 (aT s b),.int .i64 b] 120)).cell? ⟨A.heap.size,1,none⟩=some (.int .i64 b):=by unfold zz;rw [c7];rfl
 have d5:A.heap.size<(A.alloc (.cells #[.int .i32 (aT s b),.int .i64 b] 120)).heap.size:=by simp
 have c0:=aA c7;have u:w.heap.size<=w.heap.size:=zt _;have h9:w.heap.size<A.heap.size:=by simp at e4;omega
 clear c5 e3 c7 f0 f2 e8 f1 d1 h0 h1 h2 e4;generalize A.alloc (.cells #[.int .i32 (aT s b),.int .i64 b] 120)=w2 at *;generalize A.heap.size=fb at *;obtain ⟨l,e1⟩ : ∃l,w.heap.size=l:=⟨_,rfl⟩;rw [e1] at a3 h8 h9;simp only [e1];have u:w.heap.size<=l:=by omega
 clear e1;have C:=aA (λe7=>aLu (aT s b) e7);have F:=aA (λe7=>aLv (aT s b) e7);by_cases x:b<s.size
 ·have V:aM (rQ s f p=dQ s b):=aA (by rw [e9.o,aI x]);obtain ⟨j0,i9⟩:=f9 x;have b0:=aPz s b x;have a9:=aQ0 s b x;rw [b0] at C;rw [a9] at F;by_cases a5:(eK (aE s b) || dO (aE s b))=true
  ·have d0:=aCu a5;have a6:=aWi a5;by_cases e2:eK (aE s b)=true
   ·have d8:dO (aE s b:Int)=false:=by simp only [eK,Bool.and_eq_true,decide_eq_true_eq] at e2;simp only [dO,zy,decide_eq_false_iff_not];omega
    rw [d8] at a6;rw [e2] at C;obtain ⟨K,D,T,R,Q⟩ : ∃(K:Int) (D:Nat) (T:ByteArray),(∀d,w.grownBy d (some pb)->(∃j m c,bN B d pb s D g j m c k a wd vC vP vM)->rE B pb s p f g k a wd vC vP vM w (.returned (fW K b T)) d)/\Calls zp 59 #[.pointer (some ⟨pb,0,none⟩),.int .i32 97] w2 λe d=>e=.returned (.agg #[.int .i32 K,.int .i64 b,.string T])/\w2.grownBy d (some pb)/\∃j m c,bN B d pb s D g j m c k a wd vC vP vM:=by
     by_cases a1:eB s b-b > 20
     ·refine ⟨-2,b,⟨#[]⟩,λd n v=>⟨n,by rw [V.o,a6,aI a1];exact ⟨rfl,v⟩⟩,(aA9 97 N.o b2 x d0).mono ?_⟩;rintro e d ⟨n,hr⟩;rw [aI a1] at hr;exact ⟨hr.1,n,_,_,_,hr.2⟩
     ·refine ⟨97,eB s b,s.extract b (eB s b),λd n v=>⟨n,by rw [V.o,a6,aH a1];exact ⟨rfl,v⟩⟩,(aA9 97 N.o b2 x d0).mono ?_⟩;rintro e d ⟨n,hr⟩;rw [aH a1] at hr;exact ⟨hr.1,n,hr.2⟩
    have G:=aA R;have a7:=aA Q;clear R Q b0 a9 a6;generalize aT s b=cc at *;go_wp2_with (first
     |(go_at_call 58;refine (aD C _).mono ?_;rintro e P ⟨rfl,rfl⟩)
     |(go_at_call 59;refine (aD a7).mono ?_;rintro e t ⟨rfl,E,e5,e6,d4,S⟩;have o:=(E.block l (by omega) (by simp;omega)).trans a3.o;have Z:=aA S;have Y:=aA E;have a0:=aA o;have H:t.cell? ⟨l,0,none⟩=some (.int .i32 0):=(by simp [zz,o]);have I:t.cell? ⟨l,1,none⟩=some (.int .i64 0):=(by simp [zz,o]);have J:t.cell? ⟨l,2,none⟩=some (.string ⟨#[]⟩):=(by simp [zz,o]);have L:=λM=>jB (v:=M) H;have b4:∀i,t.frozen? ⟨l,i,none⟩=false:=(λi=>by simp [zw,o]);clear E S o)
     |go_in)
    refine bodyPost_ret (by simp [results,zx,go_sem,L,I,J];try rfl) rfl ?_;exact G.o _ (iQ (iQ (iQ (a8.o.trans Y.o) u _) u _) u _) ⟨_,_,_,Z.o.setTok3 a0.o _ _ _⟩
   ·have b8:eK (aE s b:Int)=false:=by simpa using e2
    have d8:dO (aE s b:Int)=true:=by rw [b8] at a5;simpa using a5
    rw [d8] at a6 F;rw [b8] at C;obtain ⟨K,D,T,R,Q⟩ : ∃(K:Int) (D:Nat) (T:ByteArray),(∀d,w.grownBy d (some pb)->(∃j m c,bN B d pb s D g j m c k a wd vC vP vM)->rE B pb s p f g k a wd vC vP vM w (.returned (fW K b T)) d)/\Calls zp 59 #[.pointer (some ⟨pb,0,none⟩),.int .i32 65] w2 λe d=>e=.returned (.agg #[.int .i32 K,.int .i64 b,.string T])/\w2.grownBy d (some pb)/\∃j m c,bN B d pb s D g j m c k a wd vC vP vM:=by
     by_cases a1:eB s b-b > 20
     ·refine ⟨-2,b,⟨#[]⟩,λd n v=>⟨n,by rw [V.o,a6,aI a1];exact ⟨rfl,v⟩⟩,(aA9 65 N.o b2 x d0).mono ?_⟩;rintro e d ⟨n,hr⟩;rw [aI a1] at hr;exact ⟨hr.1,n,_,_,_,hr.2⟩
     ·refine ⟨65,eB s b,s.extract b (eB s b),λd n v=>⟨n,by rw [V.o,a6,aH a1];exact ⟨rfl,v⟩⟩,(aA9 65 N.o b2 x d0).mono ?_⟩;rintro e d ⟨n,hr⟩;rw [aH a1] at hr;exact ⟨hr.1,n,hr.2⟩
    have G:=aA R;have a7:=aA Q;clear R Q b0 a9 a6;generalize aT s b=cc at *;go_wp2_with (first
     |(go_at_call 58;refine (aD C _).mono ?_;rintro e P ⟨rfl,rfl⟩)
     |(go_at_call 60;refine (aD F _).mono ?_;rintro e P ⟨rfl,rfl⟩)
     |(go_at_call 59;refine (aD a7).mono ?_;rintro e t ⟨rfl,E,e5,e6,d4,S⟩;have o:=(E.block l (by omega) (by simp;omega)).trans a3.o;have Z:=aA S;have Y:=aA E;have a0:=aA o;have H:t.cell? ⟨l,0,none⟩=some (.int .i32 0):=(by simp [zz,o]);have I:t.cell? ⟨l,1,none⟩=some (.int .i64 0):=(by simp [zz,o]);have J:t.cell? ⟨l,2,none⟩=some (.string ⟨#[]⟩):=(by simp [zz,o]);have L:=λM=>jB (v:=M) H;have b4:∀i,t.frozen? ⟨l,i,none⟩=false:=(λi=>by simp [zw,o]);clear E S o)
     |go_in)
    refine bodyPost_ret (by simp [results,zx,go_sem,L,I,J];try rfl) rfl ?_;exact G.o _ (iQ (iQ (iQ (a8.o.trans Y.o) u _) u _) u _) ⟨_,_,_,Z.o.setTok3 a0.o _ _ _⟩
  ·have b8:eK (aE s b:Int)=false:=by simp at a5;exact a5.1
   have f8:dO (aE s b:Int)=false:=by simp at a5;exact a5.2
   have d7:(eK (aE s b) || dO (aE s b))=false:=by rw [b8,f8];rfl
   rw [b8] at C;rw [f8] at F;by_cases b5:aE s b=39
   ·have c9:=(eX s b x 39 (by omega)).2 b5;have U:=aWj d7 b5;obtain ⟨K,D,T,R,Q⟩ : ∃(K:Int) (D:Nat) (T:ByteArray),(∀d,w.grownBy d (some pb)->(∃j m c,bN B d pb s D g j m c k a wd vC vP vM)->rE B pb s p f g k a wd vC vP vM w (.returned (fW K b T)) d)/\Calls zp 61 #[.pointer (some ⟨pb,0,none⟩)] w2 λe d=>e=.returned (.agg #[.int .i32 K,.int .i64 b,.string T])/\w2.grownBy d (some pb)/\∃j m c,bN B d pb s D g j m c k a wd vC vP vM:=by
     cases hq:oR s b with
     |none=>
      rw [hq] at U;refine ⟨-2,b,⟨#[]⟩,λd n v=>⟨n,by rw [V.o,U];exact ⟨rfl,v⟩⟩,(aI5 N.o b2 c9).mono ?_⟩;rintro e d ⟨n,hr⟩;rw [hq] at hr;exact ⟨hr.1,n,_,_,_,hr.2⟩
     |some r=>
      obtain ⟨i3,i4⟩:=r;rw [hq] at U;refine ⟨97,i4,i3,λd n v=>⟨n,by rw [V.o,U];exact ⟨rfl,v⟩⟩,(aI5 N.o b2 c9).mono ?_⟩;rintro e d ⟨n,hr⟩;rw [hq] at hr;exact ⟨hr.1,n,hr.2⟩
    have G:=aA R;have a7:=aA Q;rw [c9] at d3 C F;clear R Q b0 a9 U c9;go_wp2_with (first
     |(go_at_call 58;refine (aD C _).mono ?_;rintro e P ⟨rfl,rfl⟩)
     |(go_at_call 60;refine (aD F _).mono ?_;rintro e P ⟨rfl,rfl⟩)
     |(go_at_call 61;refine (aD a7).mono ?_;rintro e t ⟨rfl,E,e5,e6,d4,S⟩;have o:=(E.block l (by omega) (by simp;omega)).trans a3.o;have Z:=aA S;have Y:=aA E;have a0:=aA o;have H:t.cell? ⟨l,0,none⟩=some (.int .i32 0):=(by simp [zz,o]);have I:t.cell? ⟨l,1,none⟩=some (.int .i64 0):=(by simp [zz,o]);have J:t.cell? ⟨l,2,none⟩=some (.string ⟨#[]⟩):=(by simp [zz,o]);have L:=λM=>jB (v:=M) H;have b4:∀i,t.frozen? ⟨l,i,none⟩=false:=(λi=>by simp [zw,o]);clear E S o)
     |go_in)
    refine bodyPost_ret (by simp [results,zx,go_sem,L,I,J];try rfl) rfl ?_;exact G.o _ (iQ (iQ (iQ (a8.o.trans Y.o) u _) u _) u _) ⟨_,_,_,Z.o.setTok3 a0.o _ _ _⟩
   ·have e0:aT s b≠39:=λe=>b5 ((eX s b x 39 (by omega)).1 e)
    by_cases c3:aE s b=36
    ·have f5:=(eX s b x 36 (by omega)).2 c3;have U:=aWk d7 b5 c3;obtain ⟨K,D,R,Q⟩ : ∃(K:Int) (D:Nat),(∀d,w.grownBy d (some pb)->(∃j m c,bN B d pb s D g j m c k a wd vC vP vM)->rE B pb s p f g k a wd vC vP vM w (.returned (fW K b ⟨#[]⟩)) d)/\Calls zp 62 #[.pointer (some ⟨pb,0,none⟩)] w2 λe d=>e=.returned (.agg #[.int .i32 K,.int .i64 b,.string ⟨#[]⟩])/\w2.grownBy d (some pb)/\∃j m c,bN B d pb s D g j m c k a wd vC vP vM:=by
      by_cases c4:uC s b
      ·rw [aI (show b+6<=s.size/\s.extract b (b+6)=⟨#[36,102,97,108,115,101]⟩ from c4)] at U;refine ⟨36,b+6,λd n v=>⟨n,by rw [V.o,U];exact ⟨rfl,v⟩⟩,(aI7 N.o).mono ?_⟩;rintro e d ⟨n,hr|hr⟩
       ·exact ⟨hr.2.1,n,hr.2.2⟩
       ·exact absurd c4 hr.1
      ·rw [aH (show ¬(b+6<=s.size/\s.extract b (b+6)=⟨#[36,102,97,108,115,101]⟩) from c4)] at U;refine ⟨-2,b,λd n v=>⟨n,by rw [V.o,U];exact ⟨rfl,v⟩⟩,(aI7 N.o).mono ?_⟩;rintro e d ⟨n,hr|hr⟩
       ·exact absurd hr.1 c4
       ·exact ⟨hr.2.1,n,_,_,_,hr.2.2⟩
     have G:=aA R;have a7:=aA Q;rw [f5] at d3 C F;clear R Q b0 a9 U f5 e0;go_wp2_with (first
      |(go_at_call 58;refine (aD C _).mono ?_;rintro e P ⟨rfl,rfl⟩)
      |(go_at_call 60;refine (aD F _).mono ?_;rintro e P ⟨rfl,rfl⟩)
      |(go_at_call 62;refine (aD a7).mono ?_;rintro e t ⟨rfl,E,e5,e6,d4,S⟩;have o:=(E.block l (by omega) (by simp;omega)).trans a3.o;have Z:=aA S;have Y:=aA E;have a0:=aA o;have H:t.cell? ⟨l,0,none⟩=some (.int .i32 0):=(by simp [zz,o]);have I:t.cell? ⟨l,1,none⟩=some (.int .i64 0):=(by simp [zz,o]);have J:t.cell? ⟨l,2,none⟩=some (.string ⟨#[]⟩):=(by simp [zz,o]);have L:=λM=>jB (v:=M) H;have b4:∀i,t.frozen? ⟨l,i,none⟩=false:=(λi=>by simp [zw,o]);clear E S o)
      |go_in)
     refine bodyPost_ret (by simp [results,zx,go_sem,L,I,J];try rfl) rfl ?_;exact G.o _ (iQ (iQ (iQ (a8.o.trans Y.o) u _) u _) u _) ⟨_,_,_,Z.o.setTok3 a0.o _ _ _⟩
    ·have g0:aT s b≠36:=λe=>c3 ((eX s b x 36 (by omega)).1 e)
     have b3:=aWl d7 b5 c3;have d9:=aQ1 s b x;have X:=aA (aL6 (aT s b) w2 (aE9 s b));rw [d9] at X;have b7:=aAy s b x;cases hm:mQ (aE s b)
     ·rw [hm] at X b3;have G:aM (∀d,w.grownBy d (some pb)->(∃j m c,bN B d pb s b g j m c k a wd vC vP vM)->rE B pb s p f g k a wd vC vP vM w (.returned (fW (-2) b ⟨#[]⟩)) d):=aA λd n v=>⟨n,by rw [V.o,b3];exact ⟨rfl,v⟩⟩
      clear b0 a9 b3 d9 hm;generalize aT s b=cc at *;have i6:(cc==39)=false:=by simpa using e0
      have i5:(cc==36)=false:=by simpa using g0
      have j3:(cc==-1)=false:=by simpa using b7
      go_wp2_with (first
       |(go_at_call 58;refine (aD C _).mono ?_;rintro e P ⟨rfl,rfl⟩)
       |(go_at_call 60;refine (aD F _).mono ?_;rintro e P ⟨rfl,rfl⟩)
       |(go_at_call 63;refine (aD X).mono ?_;rintro e y ⟨rfl,z⟩;have b1:=aA z;have O:=(z.block l (by omega)).trans a3.o;have d2:=aA O;have W:=(z.block fb d5).trans c0.o;have g5:y.cell? ⟨fb,0,none⟩=some (.int .i32 (cc)):=(by unfold zz;rw [W];rfl);have g6:y.cell? ⟨fb,1,none⟩=some (.int .i64 b):=(by unfold zz;rw [W];rfl);have a2:=N.o.below z;have h3:=a2.box.c0;have h4:=a2.box.soft 0;have c1:=aA a2;clear z O W a2)
       |(go_at_call 64;refine (wW c1.o).mono ?_;rintro e t ⟨rfl,c6⟩;unfold fW;have j1:=b1.o.size;have o:=(c6.block l (by omega)).trans d2.o;have Z:=aA (c1.o.below c6);have Y:=aA ((nM b1.o (some pb)).trans (nM c6 (some pb)));have a0:=aA o;have H:t.cell? ⟨l,0,none⟩=some (.int .i32 0):=(by simp [zz,o]);have I:t.cell? ⟨l,1,none⟩=some (.int .i64 0):=(by simp [zz,o]);have J:t.cell? ⟨l,2,none⟩=some (.string ⟨#[]⟩):=(by simp [zz,o]);have L:=λM=>jB (v:=M) H;have b4:∀i,t.frozen? ⟨l,i,none⟩=false:=(λi=>by simp [zw,o]);clear c6 o)
       |go_in)
      refine bodyPost_ret (by simp [results,zx,go_sem,L,I,J];try rfl) rfl ?_;exact G.o _ (iQ (iQ (iQ (a8.o.trans Y.o) u _) u _) u _) ⟨_,_,_,Z.o.setTok3 a0.o _ _ _⟩
     ·rw [hm] at X b3;have h6:aE s b<128:=by unfold mQ at hm;simp at hm;omega
      obtain ⟨f6,i0⟩:=mR s b x h6;have f7:dM (aE s b)=aT s b:=by
       rw [f6];have g1:aE s b=124\/aE s b=126\/aE s b=40\/aE s b=41\/aE s b=44\/aE s b=46:=by unfold mQ at hm;simp at hm;omega
       generalize aE s b=bb at g1 ⊢;rcases g1 with rfl|rfl|rfl|rfl|rfl|rfl<;>rfl
      have G:aM (∀d,w.grownBy d (some pb)->(∃j m c,bN B d pb s (b+1) g j m c k a wd vC vP vM)->rE B pb s p f g k a wd vC vP vM w (.returned (fW (aT s b) b ⟨#[]⟩)) d):=aA λd n v=>⟨n,by rw [V.o,b3];exact ⟨by rw [<-f7],v⟩⟩
      obtain ⟨i2,g9,rfl,rfl⟩:=N.o.more x;clear b0 a9 b3 d9 hm f6 f7;generalize aT s b=cc at *;have i6:(cc==39)=false:=by simpa using e0
      have i5:(cc==36)=false:=by simpa using g0
      go_wp2_with (first
       |(go_at_call 58;refine (aD C _).mono ?_;rintro e P ⟨rfl,rfl⟩)
       |(go_at_call 60;refine (aD F _).mono ?_;rintro e P ⟨rfl,rfl⟩)
       |(go_at_call 63;refine (aD X).mono ?_;rintro e y ⟨rfl,z⟩;have b1:=aA z;have O:=(z.block l (by omega)).trans a3.o;have W:=(z.block fb d5).trans c0.o;have a2:=N.o.below z;have h3:=a2.box.c0;have h4:=a2.box.soft 0;have g8:=aA (a2.step x);have a4:∀q,(y.setCell ⟨pb,0,none⟩ q).heap[l]?=some (.cells #[.int .i32 0,.int .i64 0,.string ⟨#[]⟩] 58)/\(y.setCell ⟨pb,0,none⟩ q).heap[fb]?=some (.cells #[.int .i32 cc,.int .i64 b] 120):=(λq=>⟨by rw [Below.heap_setCell _ _ _ _ (show l≠pb by omega)];exact O,by rw [Below.heap_setCell _ _ _ _ (show fb≠pb by omega)];exact W⟩);have g5:∀q,(y.setCell ⟨pb,0,none⟩ q).cell? ⟨fb,0,none⟩=some (.int .i32 cc):=(λq=>by unfold zz;rw [(a4 q).2];rfl);have g6:∀q,(y.setCell ⟨pb,0,none⟩ q).cell? ⟨fb,1,none⟩=some (.int .i64 b):=(λq=>by unfold zz;rw [(a4 q).2];rfl);have H:∀q,(y.setCell ⟨pb,0,none⟩ q).cell? ⟨l,0,none⟩=some (.int .i32 0):=(λq=>by unfold zz;rw [(a4 q).1];rfl);have I:∀q,(y.setCell ⟨pb,0,none⟩ q).cell? ⟨l,1,none⟩=some (.int .i64 0):=(λq=>by unfold zz;rw [(a4 q).1];rfl);have J:∀q,(y.setCell ⟨pb,0,none⟩ q).cell? ⟨l,2,none⟩=some (.string ⟨#[]⟩):=(λq=>by unfold zz;rw [(a4 q).1];rfl);have b4:∀q i,(y.setCell ⟨pb,0,none⟩ q).frozen? ⟨l,i,none⟩=false:=(λq i=>by simp [zw,(a4 q).1]);have L:=λq M=>jB (v:=M) (H q);have g7:=aA a4;clear z O W a2 a4)
       |go_in)
      refine bodyPost_ret (by simp [results,zx,go_sem,L,I,J];try rfl) rfl ?_;have h5:=rS (j:=0) (a8.o.trans (nM b1.o (some pb))) (.slice (some ⟨g,i1*2+2,none⟩) (i2+1) (g9+1));have f3:=g8.o;rw [i0] at f3;exact G.o _ (iQ (iQ (iQ h5 u _) u _) u _) ⟨_,_,_,f3.setTok3 (g7.o _).1 _ _ _⟩
 ·have g3:b=s.size:=by omega
  have d6:=oS s b x;have X:=aA (aL6 (aT s b) w2 (aE9 s b));rw [d6] at X C F d3;rw [show rR (-1)=false by decide] at X;rw [show eK (-1)=false by decide] at C;rw [show dO (-1)=false by decide] at F;rw [d6] at c0;have G:aM (∀d,w.grownBy d (some pb)->(∃j m c,bN B d pb s b g j m c k a wd vC vP vM)->rE B pb s p f g k a wd vC vP vM w (.returned (fW (-1) b ⟨#[]⟩)) d):=aA λd n v=>⟨n,by rw [e9.o,aH x,<-g3];exact ⟨rfl,v⟩⟩
  clear d6 g3;go_wp2_with (first
   |(go_at_call 58;refine (aD C _).mono ?_;rintro e P ⟨rfl,rfl⟩)
   |(go_at_call 60;refine (aD F _).mono ?_;rintro e P ⟨rfl,rfl⟩)
   |(go_at_call 63;refine (aD X).mono ?_;rintro e y ⟨rfl,z⟩;have b1:=aA z;have O:=(z.block l (by omega)).trans a3.o;have W:=(z.block fb d5).trans c0.o;have d2:=aA O;have c1:=aA (N.o.below z);have g5:y.cell? ⟨fb,0,none⟩=some (.int .i32 (-1)):=(by unfold zz;rw [W];rfl);have g6:y.cell? ⟨fb,1,none⟩=some (.int .i64 b):=(by unfold zz;rw [W];rfl);have H:y.cell? ⟨l,0,none⟩=some (.int .i32 0):=(by simp [zz,O]);have I:y.cell? ⟨l,1,none⟩=some (.int .i64 0):=(by simp [zz,O]);have J:y.cell? ⟨l,2,none⟩=some (.string ⟨#[]⟩):=(by simp [zz,O]);have L:=λM=>jB (v:=M) H;have b4:∀i,y.frozen? ⟨l,i,none⟩=false:=(λi=>by simp [zw,O]);clear z O W)
   |go_in)
  refine bodyPost_ret (by simp [results,zx,go_sem,L,I,J];try rfl) rfl ?_;exact G.o _ (iQ (iQ (iQ (a8.o.trans (nM b1.o (some pb))) u _) u _) u _) ⟨_,_,_,c1.o.setTok3 d2.o _ _ _⟩
end
theorem aQ2{b c:Nat}(a:dQ s b=.bad c):c=b:=by
 unfold dQ at a;repeat' split at a
 all_goals first|(cases a;done)|(simp only [Nx.bad.injEq] at a;exact a.symm)
theorem aQ3{b c:Nat}:dQ s b≠.stop c:=by
 intro a;unfold dQ at a;repeat' split at a
 all_goals cases a
theorem aGv{c b:Nat}{i:Tk}(e:c<s.size)(a:dQ s c=.tok i b):c<b/\b<=s.size:=by
 unfold dQ at a;split at a
 ·rename_i d;split at a
  ·cases a
  ·simp only [Nx.tok.injEq] at a;rw [<-a.2];exact ⟨aWh e d,aL0 (by omega)⟩
 ·split at a
  ·split at a
   ·rename_i l j g;simp only [Nx.tok.injEq] at a;rw [<-a.2];have:=aWg g;omega
   ·cases a
  ·split at a
   ·split at a
    ·rename_i k;simp only [Nx.tok.injEq] at a;rw [<-a.2];omega
    ·cases a
   ·split at a
    ·simp only [Nx.tok.injEq] at a;rw [<-a.2];omega
    ·cases a
theorem aQ4(s:ByteArray):∀g f a q,s.size+1-q<=g->q<=s.size->s.size<q+f->s.size<q+a->cD s f q=cD s a q:=by
 intro g;induction g with
 |zero=>intro f a q m l;omega
 |succ g ih=>
  intro f a q m l o r;obtain ⟨i,rfl⟩ : ∃i,f=i+1:=⟨f-1,by omega⟩;obtain ⟨j,rfl⟩ : ∃j,a=j+1:=⟨a-1,by omega⟩;rw [cD,cD];by_cases b:q<s.size
  ·rw [aI b,aI b];by_cases d:lI (aE s q)=true
   ·rw [aI d,aI d];exact ih _ _ _ (by omega) (by omega) (by omega) (by omega)
   ·rw [aH d,aH d];by_cases c:aE s q=37
    ·rw [aI c,aI c];have n:=aAx b c;have k:=aE8 (s:=s) (p:=q) l;exact ih _ _ _ (by omega) k (by omega) (by omega)
    ·rw [aH c,aH c];cases ht:dQ s q with
     |tok t e=>
      obtain ⟨n,k⟩:=aGv b ht;simp only;rw [ih i j e (by omega) k (by omega) (by omega)]
     |bad p=>rfl
     |stop p=>rfl
  ·rw [aH b,aH b]
def dB(s:ByteArray)(q:Nat):List Tk:=eE (cD s (s.size+1-q) q)
theorem tY{q:Nat}(b:q<=s.size)(a:s.size<q+f):eE (cD s f q)=dB s q:=by unfold dB;rw [aQ4 s _ f (s.size+1-q) q (zt _) b a (by omega)]
theorem aQ5(s:ByteArray):∀i f q,s.size+1-q<=i->q<=s.size->s.size<q+f->
  match rQ s f q with
  | .tok t e=>dB s q=t::dB s e/\e<=s.size/\t.kind≠101/\t.kind≠63
  | .bad p=>dB s q=[⟨63,⟨#[]⟩,p⟩]/\p<=s.size
  | .stop p=>dB s q=[⟨101,⟨#[]⟩,p⟩]/\p<=s.size:=by
 intro i;induction i with
 |zero=>intro f q k d;omega
 |succ i ih=>
  intro f q k d m;obtain ⟨j,rfl⟩ : ∃j,f=j+1:=⟨f-1,by omega⟩;rw [rQ,<-tY d m,cD];by_cases a:q<s.size
  ·rw [aI a,aI a];by_cases g:lI (aE s q)=true
   ·rw [aI g,aI g,tY (q:=q+1) (by omega) (by omega)];exact ih _ _ (by omega) (by omega) (by omega)
   ·rw [aH g,aH g];by_cases c:aE s q=37
    ·rw [aI c,aI c];have l:=aAx a c;have b:=aE8 (s:=s) (p:=q) d;rw [tY b (by omega)];exact ih _ _ (by omega) b (by omega)
    ·rw [aH c,aH c];cases ht:dQ s q with
     |tok t e=>
      obtain ⟨l,b⟩:=aGv a ht;simp only;refine ⟨?_,b,aLz ht⟩;rw [<-tY b (show s.size<e+j by omega)];rfl
     |bad p=>
      have n:p=q:=aQ2 ht;subst n;exact ⟨rfl,d⟩
     |stop p=>exact absurd ht aQ3
  ·rw [aH a,aH a];exact ⟨rfl,d⟩
def eN(s:ByteArray)(q:Nat)(c:ByteArray):Prop:=∃a b,s=a++c++b/\a.size=q
section
variable {s x y:ByteArray}{q q' q'':Nat}
theorem eN.left(a:eN s q (x++y)):eN s q x:=by obtain ⟨b,B,rfl,a⟩:=a;exact ⟨b,y++B,by simp [ByteArray.append_assoc],a⟩
theorem eN.right(a:eN s q (x++y)):eN s (q+x.size) y:=by obtain ⟨b,c,rfl,a⟩:=a;exact ⟨b++x,c,by simp [ByteArray.append_assoc],by rw [ByteArray.size_append,a]⟩
theorem eN.le(a:eN s q x):q+x.size<=s.size:=by obtain ⟨b,c,rfl,a⟩:=a;simp only [ByteArray.size_append];omega
theorem aGw(s:ByteArray)(a:Nat):aE s a=((s.data.toList[a]?).map UInt8.toNat).getD 0:=by
 unfold aE;split
 ·rename_i b;have:a<s.data.toList.length:=by simpa using b
  rw [List.getElem?_eq_getElem this];simp;rfl
 ·rename_i b;have:s.data.toList.length<=a:=by simpa using b
  rw [List.getElem?_eq_none this];rfl
theorem eN.data(b:eN s q x)(a:Nat)(d:a<x.size):s.data.toList[q+a]?=x.data.toList[a]?:=by
 obtain ⟨c,e,rfl,b⟩:=b;have g:c.data.toList.length=q:=by simpa using b
 have i:a<x.data.toList.length:=by simpa using d
 simp only [ByteArray.data_append,Array.toList_append];rw [zv,List.getElem?_append_right (by omega),List.getElem?_append_left (by omega)];congr 1
 omega
theorem eN.byte(b:eN s q x)(a:Nat)(c:a<x.size):aE s (q+a)=aE x a:=by rw [aGw,aGw,b.data a c]
theorem eN.cut(d:eN s q x)(a b:Nat)(e:a+b<=x.size):s.extract (q+a) (q+a+b)=x.extract a (a+b):=by
 obtain ⟨c,g,rfl,d⟩:=d;refine ByteArray.ext (Array.toList_inj.1 ?_);have i:c.data.toList.length=q:=by simpa using d
 have j:a+b<=x.data.toList.length:=by simpa using e
 simp only [ByteArray.data_extract,Array.toList_extract,ByteArray.data_append,Array.toList_append,List.extract_eq_take_drop];rw [zv,zm,zm];rw [List.drop_eq_nil_of_le (show c.data.toList.length<=q+a by omega),List.nil_append,show q+a-c.data.toList.length=a by omega,List.take_append,show q+a+b-(q+a)-(List.drop a x.data.toList).length=0 by rw [zl];omega];simp
def dP:ByteArray:=⟨#[]⟩
def kt(a:Tk):Nat×ByteArray:=(a.kind,a.txt)
def gW(s:ByteArray)(q q':Nat)(b:List (Nat×ByteArray)):Prop:=∃a:List Tk,a.map kt=b/\dB s q=a++dB s q'
theorem gW.trans{a b:List (Nat×ByteArray)}(c:gW s q q' a)(d:gW s q' q'' b):gW s q q'' (a++b):=by obtain ⟨i,rfl,e⟩:=c;obtain ⟨j,rfl,g⟩:=d;exact ⟨i++j,by simp,by rw [e,g,zv]⟩
theorem yC:gW s q q []:=⟨[],rfl,rfl⟩
theorem aCv(b:q<=s.size)(a:s.size<q+(f+1)):dB s q=eE (cD s (f+1) q):=(tY b a).symm
theorem aA1(a:q<s.size)(b:lI (aE s q)=true):gW s q (q+1) []:=by refine ⟨[],rfl,?_⟩;rw [aCv (f:=s.size) (by omega) (by omega),cD,aI a,aI b,tY (by omega) (by omega)];rfl
theorem aCw{b:Tk}{a:Nat}(c:q<s.size)(g:lI (aE s q)=false)(d:aE s q≠37)(i:dQ s q=.tok b a)(e:a<=s.size)(j:q<a):gW s q a [kt b]:=by refine ⟨[b],rfl,?_⟩;rw [aCv (f:=s.size) (by omega) (by omega),cD,aI c,aH (by rw [g];decide),aH d,i,<-tY e (show s.size<a+s.size by omega)];rfl
theorem aQ6:dB s s.size=[⟨101,⟨#[]⟩,s.size⟩]:=by rw [aCv (f:=s.size) (zt _) (by omega),cD,aH (by omega)];rfl
theorem tZ{c:Nat}(e:q<s.size)(a:aE s q=c)(d:mQ c=true):gW s q (q+1) [(c,dP)]:=by
 have b:c=124\/c=126\/c=40\/c=41\/c=44\/c=46:=by unfold mQ at d;simpa [or_assoc] using d
 have g:dQ s q=.tok ⟨c,⟨#[]⟩,q⟩ (q+1):=by unfold dQ;rw [a];rcases b with rfl|rfl|rfl|rfl|rfl|rfl<;>simp [eK,dO,mQ]
 exact aCw e (by rw [a];rcases b with rfl|rfl|rfl|rfl|rfl|rfl<;>rfl) (by rw [a];rcases b with rfl|rfl|rfl|rfl|rfl|rfl<;>decide) g (by omega) (by omega)
theorem aGx{c:Nat}(i:q+1<s.size)(a:aE s q=c)(b:(eK c || dO c)=true)(d:fD (aE s (q+1))=false):gW s q (q+1) [(if dO c then 118 else 110,s.extract q (q+1))]:=by
 have e:eB s q=q+1:=by rw [yO (by omega) (by rw [a];unfold fD;rw [b];rfl),aKy (by rw [d];simp)]
 have g:dQ s q=.tok ⟨if dO c then 118 else 110,s.extract q (q+1),q⟩ (q+1):=by unfold dQ;rw [a,aI b,e,aH (by omega)]
 have j:65<=c/\c<=122:=by simp [eK,dO] at b;omega
 exact aCw (by omega) (by rw [a];unfold lI;simp;omega) (by rw [a];omega) g (by omega) (by omega)
theorem aQ7(a:eN s q ⟨#[36,102,97,108,115,101]⟩):gW s q (q+6) [(102,dP)]:=by
 have c:q+6<=s.size:=a.le;have b:aE s q=36:=a.byte 0 (by decide);have e:s.extract q (q+6)=⟨#[36,102,97,108,115,101]⟩:=a.cut 0 6 (by decide);have d:dQ s q=.tok ⟨102,⟨#[]⟩,q⟩ (q+6):=by unfold dQ;rw [b,aH (by decide),aH (by decide),aI rfl,aI ⟨c,e⟩]
 exact aCw (by omega) (by rw [b];rfl) (by rw [b];decide) d (by omega) (by omega)
end
theorem aGy:eF []:=λb a=>by simp at a
theorem aQ8{l:List Tk}{o:Int}(k:TL l T o)(hx:yY l T):∀f a d b g,fS T f a d=.ok (b,g)->a.i<T.length->(∀e∈d,eF e.2)->
  (∀e∈g,eF e.2)/\a.i<b.i/\b.i<T.length/\aS g<=aS d+(b.i-a.i)/\g.length<=d.length+(b.i-a.i)/\a.pz.length<=b.pz.length/\b.pz.length<=a.pz.length+(b.i-a.i):=by
 intro f;induction f with
 |zero=>intro a d b g c;simp [fS] at c
 |succ f ih=>
  intro a d b g c r u;cases hq:cJ T (T.length+1) true (kS T a) [] with
  |error p=>rw [aEv hq] at c;simp at c
  |ok i=>
   obtain ⟨z,w⟩:=i;obtain ⟨A,B,x,y⟩:=aEy T a;have m:=(wR T (T.length+1)).1 _ _ _ _ _ hq;have t:=(aYv k (T.length+1)).1 _ _ _ _ _ hq (aZ3 k r);have v:=(aZ0 hx (T.length+1)).1 _ _ _ _ _ hq aGy;rw [x,y] at m;simp only [List.length_nil] at m;have n:∀e∈d++[(decide ((aJ T a.i).kind=126),w)],eF e.2:=by
    intro e hx;rcases List.mem_append.1 hx with hx|hx
    ·exact u e hx
    ·simp at hx;subst hx;exact v
   by_cases j:(aJ T z.i).kind=124
   ·rw [aEw hq j] at c;have q:=k.more _ t (by rw [j];decide) (by rw [j];decide);have i:=ih _ _ _ _ c q n;rw [rD] at i;simp only [zs,zr] at i;refine ⟨i.1,?_⟩;obtain ⟨_,C,D,E,F,G,H⟩:=i;omega
   ·rw [aEx hq j] at c;simp only [Except.ok.injEq,Prod.mk.injEq] at c;obtain ⟨rfl,rfl⟩:=c;refine ⟨n,?_⟩;rw [rD];simp only [zs,zr];omega
theorem aGz{l:List Tk}{q:Int}(i:TL l T q)(d:yY l T){b c:bC}{e:List Lt}(a:kQ T b=.ok (c,e))(n:b.i<T.length):(∀k∈e,eF k.2)/\b.i<c.i/\c.i<T.length/\aS e<=T.length/\e.length<=T.length/\b.pz.length<=c.pz.length/\c.pz.length<=b.pz.length+(c.i-b.i):=by
 unfold kQ at a;cases hq:lJ T b with
 |error p=>rw [hq] at a;simp at a
 |ok r=>
  obtain ⟨B,A⟩:=r;rw [hq] at a;simp only at a;split at a
  ·rename_i g;simp only [Except.ok.injEq,Prod.mk.injEq] at a;obtain ⟨rfl,rfl⟩:=a;unfold lJ at hq;split at hq
   ·rename_i m;have t:=i.more _ n (by rw [m];decide) (by rw [m];decide);simp only [Except.ok.injEq,Prod.mk.injEq] at hq;obtain ⟨rfl,rfl⟩:=hq;have j:=i.more _ t (by rw [g];decide) (by rw [g];decide);refine ⟨λk d=>by simp at d,by simp;omega,j,by simp [aS],by simp,by simp,by simp⟩
   ·obtain ⟨u,v,w,x,y,o,z⟩:=aQ8 i d _ _ _ _ _ hq n (λk d=>by simp at d);have j:=i.more _ w (by rw [g];decide) (by rw [g];decide);simp only [List.length_nil,aS,List.map_nil,List.sum_nil] at v x y o z;refine ⟨u,by simp only;omega,j,?_,by omega,o,by simp only;omega⟩;unfold aS;omega
  ·simp at a
theorem aQ9(a:List Nd):∀g,eF a->eF (dW a g).1:=by
 have k:∀(a:List Nd) (b:List Nd×List Int),eF a->eF b.1->eF (a.foldl cI b).1:=by
  intro a;induction a with
  |nil=>intro b _ c;exact c
  |cons x r ih=>
   intro b i d;refine ih _ (λl j=>i l (zq _ j)) ?_;have e:=i x (zn ..);unfold cI;split
   ·split
    ·exact yZ d (by first|exact e|(rw [wY];omega))
    ·exact yZ d (by first|exact e|(rw [wY];omega))
   ·exact yZ d e
 exact λg c=>k a ([],g) c aGy
theorem aQa(b:List Lt)(d:∀a∈b,eF a.2):∀a∈(cW b).1,eF a.2:=by
 have j:∀(b:List Lt) (c:List Lt×List Int),(∀a∈b,eF a.2)->(∀a∈c.1,eF a.2)->∀a∈(b.foldl dL c).1,eF a.2:=by
  intro b;induction b with
  |nil=>intro c _ d;exact d
  |cons y r ih=>
   intro c e g;refine ih _ (λk i=>e k (zq _ i)) ?_;intro a hx;unfold dL at hx;simp only at hx;rcases List.mem_append.1 hx with hx|hx
   ·exact g a hx
   ·simp at hx;subst hx;exact aQ9 _ _ (e y (zn ..))
 exact j b ([],[]) d (λa hx=>by simp at hx)
theorem aH0(a:List Lt):aS (cW a).1=aS a:=by
 have c:∀(a:List Lt) (b:List Lt×List Int),aS (a.foldl dL b).1=aS b.1+aS a:=by
  intro a;induction a with
  |nil=>intro b;simp [aS]
  |cons y r ih=>
   intro b;rw [List.foldl_cons,ih];unfold dL;simp only;rw [rD];simp only [aS,List.map_cons,List.sum_cons];have:=(xR y.2 b.2).1;omega
 have:=c a ([],[]);simpa [cW,aS] using this
theorem aQb(a:List Lt)(g:∀b∈a,eF b.2):(∀b∈aV a,eF b.2)/\aS (aV a)<=aS a/\(aV a).length<=a.length:=by
 obtain ⟨c,d,e⟩:=mH a;refine ⟨aQa _ λb i=>g b (e b i),?_,?_⟩
 ·unfold aV;rw [aH0];exact d
 ·unfold aV;rw [(pF _).1];exact c
def qJ(b:List (Nat×List Lt))(a:Nat)(c:a<b.length):Prop:=40<=a\/bP (aV b[a].2)=false
def aA2(a:List (Nat×List Lt))(i:List (List Lt))(d e:Int):Prop:=
 (∃b c,qJ a b c/\(∀g j,g<b->¬qJ a g j)/\i=[]/\d=a[b].1/\e=4)\/((∀b c,¬qJ a b c)/\i=a.map (λk=>aV k.2)/\d=0/\e=0)
def nF(s:ByteArray)(c:List (List Lt))(a b:Int):Prop:=
 (3000<s.size/\c=[]/\a=0/\b=1)\/(s.size<=3000/\
  match uQ s with
  | .error p=>c=[]/\a=p/\b=2
  | .ok (st,cs)=>∃d,wO st.pz d/\((0<=d/\c=[]/\a=d/\b=3)\/(d<0/\aA2 cs c a b)))
abbrev TT:=Nat×ByteArray
def At(T:List Tk)(a:Nat)(b:List TT):Prop:=(T.drop a).map kt=b
theorem At.hd{b:Nat}{a:TT}{d:List TT}(c:At T b (a::d)):(aJ T b).kind=a.1/\(aJ T b).txt=a.2/\At T (b+1) d:=by
 unfold At at c ⊢;cases hd:T.drop b with
 |nil=>rw [hd] at c;simp at c
 |cons t u=>
  rw [hd] at c;simp only [List.map_cons,List.cons.injEq] at c;have e:T[b]?=some t:=by
   have:(T.drop b)[0]?=some t:=by rw [hd];rfl
   simpa using this
  have g:aJ T b=t:=by unfold aJ;rw [List.getD_eq_getElem?_getD,e];rfl
  have i:T.drop (b+1)=u:=by rw [<-List.drop_drop,hd];rfl
  rw [g,i,<-c.1];exact ⟨rfl,rfl,c.2⟩
theorem At.len{c:Nat}{b:List TT}(a:At T c b):b.length<=T.length:=by unfold At at a;rw [<-a,List.length_map,zl];omega
structure Lk where
 neg:Bool
 nm:ByteArray
 ts:List TT
def nG(b:List ByteArray)(a:TT):List ByteArray:=if a.1=118 then kP b a.2 else b
def pI(b:List ByteArray)(a:TT):Nd:=if a.1=118 then (⟨#[]⟩,jZ b a.2) else (a.2,0)
def mJ(b:List ByteArray)(a:List TT):List ByteArray:=a.foldl nG b
def qK:List ByteArray->List TT->List Nd
 |_,[]=>[]
 |vs,t::r=>pI vs t::qK (nG vs t) r
theorem aH1:∀(a:List TT) (b:List ByteArray),(qK b a).length=a.length
 |[],_=>rfl
 |t::r,b=>by simp [qK,aH1 r]
def rF:List TT->List TT
 |[]=>[]
 |[t]=>[t,(41,dP)]
 |t::u::r=>t::(44,dP)::rF (u::r)
def nH(a:Lk):List TT:=(110,a.nm)::(match a.ts with|[]=>[]|t::r=>(40,dP)::rF (t::r))
def vK(b:List ByteArray)(a:Lk):List Nd:=(a.nm,(a.ts.length:Int))::qK b a.ts
def nI(a:Lk):List TT:=(if a.neg then [(126,dP)] else [])++nH a
def jJ:List Lk->List TT
 |[]=>[]
 |[x]=>nI x
 |x::y::r=>nI x++(124,dP)::jJ (y::r)
def fK:List ByteArray->List Lk->List Lt
 |_,[]=>[]
 |vs,x::r=>(x.neg,vK vs x)::fK (mJ vs x.ts) r
def oL(a:List Lk):List TT:=(match a with|[]=>[(102,dP)]|x::r=>jJ (x::r))++[(46,dP)]
def qL(a:List (List Lk)):List TT:=a.flatMap oL++[(101,dP)]
def sM(b:List TT):Prop:=∀a∈b,a.1=118\/a.1=110
theorem aH2{st:bC}{l:List Nd}{a d:TT}{m:List TT}(ht:a.1=118\/a.1=110)(e:At T st.i (a::d::m))(j:d.1≠40):∃k,cJ T (f+1) false st l=.ok (⟨st.i+1,nG st.vars a,k⟩,l++[pI st.vars a]):=by
 obtain ⟨b,c,g⟩:=e.hd;obtain ⟨i,_,_⟩:=g.hd;rw [cJ];rcases ht with ht|ht
 ·rw [aI ⟨by rw [b,ht],rfl⟩];exact ⟨st.pz,by simp [nG,pI,ht,c]⟩
 ·rw [aH (by rw [b,ht];simp),aH (by rw [b,ht];simp),aH (by rw [i];exact j),c];exact ⟨_,by simp only [nG,pI,ht];rfl⟩
theorem aH3{T:List Tk}:∀(b:List TT) (f:Nat) (st:bC) (l:List Nd) (c:Nat) (a:List TT),sM b->b≠[]->b.length<f->At T (st.i+1) (rF b++a)->∃i g,dS T f st l c=.ok (⟨g,mJ st.vars b,i⟩,l++qK st.vars b,c+b.length)/\At T g a
 |[],f,st,l,c,a,_,h,_,_=>absurd rfl h
 |[t],f,st,l,c,a,hk,_,hf,h=>by
  obtain ⟨f,rfl⟩ : ∃j,f=j+2:=⟨f-2,by simp at hf;omega⟩;have d:At T (st.i+1) (t::(41,dP)::a):=h;obtain ⟨i,n⟩:=aH2 (f:=f) (st:=⟨st.i+1,st.vars,st.pz⟩) (l:=l) (hk t (by simp)) d (by simp);obtain ⟨_,_,k⟩:=d.hd;obtain ⟨e,_,m⟩:=k.hd;rw [dS,n];simp only;rw [aH (by rw [e];simp),aI e];exact ⟨_,_,rfl,m⟩
 |t::u::r,f,st,l,c,a,hk,_,hf,h=>by
  obtain ⟨f,rfl⟩ : ∃j,f=j+2:=⟨f-2,by simp at hf;omega⟩;have d:At T (st.i+1) (t::(44,dP)::(rF (u::r)++a)):=h;obtain ⟨i,n⟩:=aH2 (f:=f) (st:=⟨st.i+1,st.vars,st.pz⟩) (l:=l) (hk t (by simp)) d (by simp);obtain ⟨_,_,k⟩:=d.hd;obtain ⟨e,_,m⟩:=k.hd;rw [dS,n];simp only;rw [aI e];obtain ⟨v,g,o,p⟩:=aH3 (u::r) (f+1) ⟨st.i+1+1,nG st.vars t,i⟩ (l++[pI st.vars t]) (c+1) a (λw q=>hk w (by simp [q])) (by simp) (by simp at hf ⊢;omega) m;refine ⟨v,g,?_,p⟩;rw [o];simp [mJ,qK];omega
def aCx(c:List TT):Prop:=∃a b,c=a::b/\a.1≠40
theorem aQc{st:bC}{b:Lk}{d:List TT}(v:sM b.ts)(u:b.ts.length+1<f)(l:At T st.i (nH b++d))(w:aCx d):∃j c,cJ T f true st []=.ok (⟨c,mJ st.vars b.ts,j⟩,vK st.vars b)/\At T c d:=by
 obtain ⟨f,rfl⟩ : ∃p,f=p+1:=⟨f-1,by omega⟩;obtain ⟨z,i,y⟩:=b;unfold nH at l;obtain ⟨m,n,e⟩:=At.hd (a:=(110,i)) l;simp only at m n;rw [cJ,aH (by simp),aH (by rw [m];simp),n];cases y with
 |nil=>
  obtain ⟨A,k,rfl,x⟩:=w;obtain ⟨g,_,_⟩:=e.hd;rw [aH (by rw [g];exact x)];exact ⟨_,_,rfl,e⟩
 |cons t k=>
  obtain ⟨g,_,q⟩:=At.hd (a:=(40,dP)) e;rw [aI g];obtain ⟨j,c,o,r⟩:=aH3 (t::k) f ⟨st.i+1,st.vars,st.pz++[(i,true,0,((aJ T st.i).pos:Int))]⟩ ([]++[(i,0)]) 0 d v (by simp) (by simp at u ⊢;omega) q;rw [o];refine ⟨pT j st.pz.length (0+(t::k).length),c,?_,r⟩;simp [dR,vK,List.modify]
theorem aH4{a:TT}{b:List TT}(c:a.1≠40):aCx (a::b):=⟨a,b,rfl,c⟩
theorem aH5(e:Lk):e.ts.length<(nH e).length:=by
 have:∀b:List TT,b.length<=(rF b).length:=by
  intro b;induction b with
  |nil=>simp
  |cons d a ih=>
   cases a with
   |nil=>simp [rF]
   |cons u a=>simp [rF] at ih ⊢;omega
 unfold nH;split
 ·rename_i c;simp [c]
 ·rename_i d a c;have:=this (d::a);rw [c];simp at this ⊢;omega
theorem aH6{T:List Tk}:∀(g:List Lk) (f:Nat) (b:bC) (i:List Lt) (d:List TT),(∀x∈g,sM x.ts)->g≠[]->g.length<=f->At T b.i (jJ g++(46,dP)::d)->∃l,fS T f b i=.ok (l,i++fK b.vars g)/\At T l.i ((46,dP)::d)
 |[],f,b,i,d,_,h,_,_=>absurd rfl h
 |x::r,f,b,i,d,hk,_,hf,h=>by
  obtain ⟨f,rfl⟩ : ∃t,f=t+1:=⟨f-1,by simp at hf;omega⟩;obtain ⟨e,C,z,D⟩ : ∃e,jJ (x::r)++(46,dP)::d=nI x++e/\aCx e/\((r=[]/\e=(46,dP)::d)\/(r≠[]/\e=(124,dP)::(jJ r++(46,dP)::d))):=by
   cases r with
   |nil=>exact ⟨_,rfl,aH4 (by simp),Or.inl ⟨rfl,rfl⟩⟩
   |cons n r=>exact ⟨(124,dP)::(jJ (n::r)++(46,dP)::d),by simp [jJ],aH4 (by simp),Or.inr ⟨by simp,rfl⟩⟩
  rw [C] at h;have v:x.ts.length+1<T.length+1:=by have c:=h.len;have j:=aH5 x;unfold nI at c;simp only [zs] at c;omega
  obtain ⟨k,B,w,y⟩ : ∃k,(if (aJ T b.i).kind=126 then b.i+1 else b.i)=k/\decide ((aJ T b.i).kind=126)=x.neg/\At T k (nH x++e):=by
   unfold nI at h;cases hn:x.neg with
   |true=>
    rw [hn] at h;obtain ⟨c,_,j⟩:=At.hd (a:=(126,dP)) h;simp only at c;exact ⟨b.i+1,by rw [aI c],by simp [c],j⟩
   |false=>
    rw [hn] at h;have o:At T b.i (nH x++e):=h;unfold nH at o;obtain ⟨c,_,_⟩:=At.hd (a:=(110,x.nm)) o;simp only at c;exact ⟨b.i,by rw [aH (by rw [c];simp)],by simp [c],h⟩
  obtain ⟨G,F,p,m⟩:=aQc (st:=⟨k,b.vars,b.pz⟩) (hk x (by simp)) v y z;rw [fS,B,p,w];simp only;rcases D with ⟨rfl,rfl⟩|⟨A,rfl⟩
  ·obtain ⟨c,_,_⟩:=m.hd;rw [aH (by rw [c];simp)];exact ⟨_,rfl,m⟩
  ·obtain ⟨c,_,j⟩:=m.hd;rw [aI c];obtain ⟨l,q,u⟩:=aH6 r f ⟨F+1,mJ b.vars x.ts,G⟩ (i++[(x.neg,vK b.vars x)]) d (λn E=>hk n (by simp [E])) A (by simp at hf;omega) j;refine ⟨l,?_,u⟩;rw [q];simp [fK]
theorem aQd{e:List Lk}{g:bC}{j:List TT}(u:∀b∈e,sM b.ts)(v:e.length<=T.length+1)(d:At T g.i (oL e++j)):∃n,kQ T g=.ok (n,fK [] e)/\At T n.i j:=by
 unfold oL at d;cases e with
 |nil=>
  obtain ⟨k,_,l⟩:=At.hd (a:=(102,dP)) d;obtain ⟨m,_,q⟩:=At.hd (a:=(46,dP)) l;rw [kQ,lJ,aI k];simp only;rw [aI m];exact ⟨_,rfl,q⟩
 |cons b r=>
  rw [zv] at d;have p:(aJ T g.i).kind≠102:=by
   have:∃a i,jJ (b::r)++([(46,dP)]++j)=a::i/\a.1≠102:=by
    have w:∃a i,nI b=a::i/\a.1≠102:=by
     unfold nI;cases b.neg with
     |true=>exact ⟨_,_,rfl,by simp⟩
     |false=>exact ⟨(110,b.nm),_,rfl,by simp⟩
    obtain ⟨a,i,c,o⟩:=w;cases r with
    |nil=>exact ⟨a,_,by simp only [jJ,c,zu];rfl,o⟩
    |cons y r=>exact ⟨a,_,by simp only [jJ,c,zu];rfl,o⟩
   obtain ⟨a,i,c,t⟩:=this;rw [c] at d;rw [d.hd.1];exact t
  obtain ⟨n,c,k⟩:=aH6 (b::r) (T.length+1) ⟨g.i,[],g.pz⟩ [] j u (by simp) v d;rw [kQ,lJ,aH p,c];simp only;obtain ⟨l,_,m⟩:=k.hd;rw [aI l];exact ⟨_,rfl,m⟩
theorem aH7{T:List Tk}:∀(i:List (List Lk)) (f:Nat) (b:bC) (c:List (Nat×List Lt)),(∀L∈i,L.length<=T.length+1/\∀e∈L,sM e.ts)->i.length<f->At T b.i (qL i)->∃n g,iD T f b c=.ok (n,c++g)/\g.map Prod.snd=i.map (fK [])
 |[],f,b,c,_,hf,h=>by
  obtain ⟨f,rfl⟩ : ∃k,f=k+1:=⟨f-1,by simp at hf;omega⟩;obtain ⟨m,_,_⟩:=At.hd (a:=(101,dP)) h;rw [iD,aI m];exact ⟨b,[],by simp,rfl⟩
 |L::r,f,b,c,hk,hf,h=>by
  obtain ⟨f,rfl⟩ : ∃k,f=k+1:=⟨f-1,by simp at hf;omega⟩;have l:At T b.i (oL L++qL r):=by unfold qL at h ⊢;rw [List.flatMap_cons,zv] at h;exact h
  have u:(aJ T b.i).kind≠101:=by
   have:∃a d,oL L++qL r=a::d/\a.1≠101:=by
    unfold oL;cases L with
    |nil=>exact ⟨(102,dP),_,rfl,by simp⟩
    |cons e r=>
     have z:∃a d,nI e=a::d/\a.1≠101:=by
      unfold nI;cases e.neg with
      |true=>exact ⟨_,_,rfl,by simp⟩
      |false=>exact ⟨(110,e.nm),_,rfl,by simp⟩
     obtain ⟨a,d,j,o⟩:=z;cases r with
     |nil=>exact ⟨a,_,by simp only [jJ,j,zu];rfl,o⟩
     |cons y r=>exact ⟨a,_,by simp only [jJ,j,zu];rfl,o⟩
   obtain ⟨a,d,j,x⟩:=this;rw [j] at l;rw [l.hd.1];exact x
  obtain ⟨A,q,m⟩:=aQd (hk L (by simp)).2 (hk L (by simp)).1 l;obtain ⟨n,g,t,v⟩:=aH7 r f A (c++[((aJ T b.i).pos,fK [] L)]) (λp w=>hk p (by simp [w])) (by simp at hf;omega) m;rw [iD,aH u,q];simp only;rw [t];exact ⟨n,((aJ T b.i).pos,fK [] L)::g,by simp,by simp [v]⟩
