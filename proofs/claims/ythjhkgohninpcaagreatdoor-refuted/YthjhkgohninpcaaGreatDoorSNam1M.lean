import Derived.Test.YthjhkgohninpcaaGreatDoorStepAppM
import Derived.Deep.DeepCutAuto
open Nat renaming le_refl→zz
namespace Go.Proofs.YthjhkgohninpcaaGreatDoor
open World renaming setCell→zy
set_option maxHeartbeats 10000000
set_option maxRecDepth 100000
open Go.RowKit
theorem aV4{g i c:Nat}{u b:World}{n:List Tk}{a:aY}{r s q p t m:Value}{j:List Nd}(d:bN g b c n a (-1) r s q p t)(o:b.ownsRow i 106 2 m j.length (aP j))(x:bT g i u b)(f:ByteArray)(e:Nat):((b.alloc (.cells #[.int .u8 110,.string f,.int .i64 e] 100)).setCell ⟨c,1,none⟩ (.int .i64 ((a.i:Int)+1))).ownsRow i 106 2 m j.length (aP j)/\
  bN g ((b.alloc (.cells #[.int .u8 110,.string f,.int .i64 e] 100)).setCell ⟨c,1,none⟩ (.int .i64 ((a.i:Int)+1))) c n ⟨a.i+1,a.vars,a.pz⟩ (-1) r s q p t/\
  bT g i u ((b.alloc (.cells #[.int .u8 110,.string f,.int .i64 e] 100)).setCell ⟨c,1,none⟩ (.int .i64 ((a.i:Int)+1)))/\
  (∀k l,[Value.int .u8 110,.string f,.int .i64 e][k]?=some l->((b.alloc (.cells #[.int .u8 110,.string f,.int .i64 e] 100)).setCell ⟨c,1,none⟩ (.int .i64 ((a.i:Int)+1))).cell? ⟨b.heap.size,k,none⟩=some l)/\
  some b.heap.size≠m.ownBlock:=by
 have y:=d.box.lt;refine ⟨(d.alloc _).box.row (o.alloc _) (by decide) _ _,(d.alloc _).setI (a.i+1),(x.alloc _).grownBox (d.alloc _).box d.high (bX _ _ _),λk l w=>?_,λv=>absurd (bL o _ v.symm).2 (Nat.lt_irrefl _)⟩;rw [World.cell?_setCell_other _ _ _ _ (by first|(simp;done)|(simp;omega))];simpa using w
theorem aV5(e:World)(d x f g:Value)(k:TypeId)(c:Nat)(i:c=e.heap.size):∀j b,[d,x,f,g][j]?=some b->(e.alloc (.cells #[d,x,f,g] k)).cell? ((⟨c,0,none⟩ : Addr).add j)=some b:=by
 subst i;intro j b a;match j,a with
 |0,a=>simp at a;subst a;simp [Addr.add]
 |1,a=>simp at a;subst a;simp [Addr.add]
 |2,a=>simp at a;subst a;simp [Addr.add]
 |3,a=>simp at a;subst a;simp [Addr.add]
 |j+4,a=>simp at a
theorem aV6(d:ByteArray)(c:Bool)(x e:Int):∀b∈[Value.string d,.bool c,.int .i64 x,.int .i64 e],b.oneCell'=true:=by intro b a;simp at a;rcases a with rfl|rfl|rfl|rfl<;>rfl
theorem aV7(f k j:Nat)(a8:Int)(w:Bool)(a:aY)(u b9 t s E M:Value)(g i:List Tk)(b:List Nd)(v:World)(y:Nat)(p:TL g i a8)(h1:∀I,I<=y->aE6 f j a8 g i u t s I)(o:bN f v j g a (-1) u b9 t s E)(e1:v.ownsRow k 106 2 M b.length (aP b))(d6:f<=k)(p6:k<=v.heap.size)
  (C:(aH i a.i).kind=110) (i0:a.i<i.length) (p9:i.length<a.i+(y+1)) (q0:y+1<=2000000) (q5:b.length<=a.i) (q8:a.pz.length<=a.i) (r3:a.vars.length<=a.i):Calls Tryz.prog 76 #[.pointer (some ⟨j,0,none⟩),M,.bool w,.int .i64 a8] v λB o7=>aE5 f k j v g i (y+1) a b u t s (cJ i (y+1) w a b) B o7:=by
 have q1:=p.few;have k8:=aA h1;clear h1;have i1:a.i+1<i.length:=p.more _ i0 (by rw [C];decide) (by rw [C];decide);have P:=aA C;have l:aG ((aH i a.i).txt=(aH g a.i).txt/\(aH i a.i).pos=(aH g a.i).pos):=aA ⟨(p.txt _).symm,(p.pos a.i (by rw [C];decide)).symm⟩;rw [<-p.kind] at C;obtain ⟨n8,d7,m8,m9,n0⟩:=info_parts nB;obtain ⟨r6,r7,rfl⟩:=aW e1;obtain ⟨e7,e8,rfl⟩:=aW o.pz;have a9:=pA f j a.i (-1) u _ t s E g v o.box o.toks;have z:=aA o;have Q:=aA e1;clear o e1;obtain ⟨f0,k1⟩ : ∃f0,aH g a.i=f0:=⟨_,rfl⟩;rw [k1] at a9 C l;clear k1;obtain ⟨s2,c,q⟩:=f0;simp only at C;subst C;rw [show nU ⟨110,c,q⟩=.agg #[.int .u8 110,.string c,.int .i64 q] from rfl] at a9;go_enter Tryz.func76,Tryz.ntmps76;go_wp2_with (first
  |(go_at_call 43;refine a9.mono ?_;rintro B A ⟨rfl,S⟩;have a4:=aA (z.o.below S);have f7:=aA (bB Q.o S (zz _));have O:aG (bT f k v A):=aA (.of_below S);have r0:=S.size;have d4:∀d,(A.alloc d).cell? ⟨j,1,none⟩=some (.int .i64 a.i):=(λd=>(a4.o.alloc d).box.c1);have h2:∀d,(A.alloc d).frozen? ⟨j,1,none⟩=false:=(λd=>(a4.o.alloc d).box.soft 1);obtain ⟨b3,j5,i5,e5,j4⟩:=aV4 a4.o f7.o O.o c q;have h0:=aA j5;have f6:=aA i5;have l:=aA e5;have o3:=e5 1 _ rfl;have d0:=aA j4;clear S e5 j5 i5 j4)
  |(at_builtin;refine wpList_append_own _ rfl (.tmp 91) (.tmp 95) 53 rfl k 106 n8 (.agg #[.string ⟨#[]⟩,.int .i64 0]) 2 24 Tryz.underlying53 d7 m8 m9 n0 rfl (by decide) _ _ _ rfl (b3.alloc _) ⟨_,0,none⟩ 1 1 [.string c,.int .i64 0] rfl rfl ?c1 ?c2 ?c3 ?c4 ?c5 ?_)
  |go_in)
 try case c1=>exact fS _ _ _ _ _ (by simp [zy])
 case c2=>first|exact pU _ _|exact ⟨rfl,rfl⟩
 case c3=>unfold maxLen;omega
 case c4=>omega
 case c5=>first|omega|(simp [zy];omega)
 intro s3 e e3 L _;have R:=aA ((h0.o.alloc _).far (b3.alloc _) (by decide) L);have f4:=aA ((f6.o.alloc _).grownRow (b3.alloc _) d6 (Or.inr (Or.inr ⟨rfl,zz _⟩)) L);have j9:e.cell? ⟨A.heap.size,1,none⟩=some (.string c):=L.cell (aD ((Below.refl _ _).alloc (zz _) _) (l.o 1 _ rfl)) d0.o;have k0:e.cell? ⟨A.heap.size,2,none⟩=some (.int .i64 q):=L.cell (aD ((Below.refl _ _).alloc (zz _) _) (l.o 2 _ rfl)) d0.o;have j8:=L.size;have r4:A.heap.size<e.heap.size:=by simp [zy] at j8;omega
 obtain ⟨b8,c3,rfl⟩:=aW e3;have f8:aG (e.ownsRow k 106 2 (.slice b8 (b.length+1) c3) (b++[(c,0)]).length (aP (b++[(c,0)]))):=aA (by rw [pT,List.length_append];exact e3);have m1:=R.o.box.c3;have V:e.drew.ownsRow f 143 4 (.slice e7 a.pz.length e8) a.pz.length (jN a.pz):=R.o.pz;have g0:aG (bN f e.drew j g ⟨a.i+1,a.vars,a.pz⟩ (-1) u (.slice e7 a.pz.length e8) t s E):=aA (R.o.drawn 1);have f9:aG (e.drew.ownsRow k 106 2 (.slice b8 (b.length+1) c3) (b++[(c,0)]).length (aP (b++[(c,0)]))):=aA f8.o;have f5:aG (bT f k v e.drew):=aA (f4.o.drawn 1);have m3:∀d,(e.alloc d).cell? ⟨j,3,none⟩=some (.slice e7 a.pz.length e8):=λd=>(R.o.alloc d).box.c3
 have m4:∀d,(e.alloc d).cell? ⟨A.heap.size,1,none⟩=some (.string c):=λd=>aD ((Below.refl _ e).alloc (zz _) d) j9
 have m5:∀d,(e.alloc d).cell? ⟨A.heap.size,2,none⟩=some (.int .i64 q):=λd=>aD ((Below.refl _ e).alloc (zz _) d) k0
 generalize A.heap.size=tb at *;clear e3 L j8 R f4 f8 h0 f6 l d0 b3 d4 h2 o3 a4 f7 O z Q a9;go_upto_region 21 with (fail);go_cut [] (λZ=>∃e6 e9,bN f Z j g ⟨a.i+1,a.vars,a.pz++[(c,w,0,(q:Int))]⟩ (-1) u (.slice e6 (a.pz.length+1) e9) t s E/\Z.ownsRow k 106 2 (.slice b8 (b.length+1) c3) (b++[(c,0)]).length (aP (b++[(c,0)]))/\bT f k v Z);case first=>
  refine sG ?_;go_region_law (refine mC ?g1 (.tmp 106) (.tmp 113) 95 143 ?g2 (.agg #[.string ⟨#[]⟩,.bool false,.int .i64 0,.int .i64 0]) 4 40 Tryz.underlying95 aVd ?g3 ?g4 ?g5 f _ a.pz.length (jN a.pz) ?g6 (V.alloc _) ?g7 ?g8 e.heap.size 1 [.string c,.bool w,.int .i64 0,.int .i64 q] ?g9 ?g10 (aV5 e.drew _ _ _ _ 143 e.heap.size rfl) (aV6 c w 0 q) ?_;(case g1=>rfl);(case g2=>rfl);(case g3=>rfl);(case g4=>decide);(case g5=>decide);(case g6=>rfl);(case g7=>omega);(case g8=>simp;omega);(case g9=>rfl);(case g10=>rfl);intro s4 o9 e4 h9;obtain ⟨c4,s1,r1,F,D,U⟩:=aVn (x:=(c,w,0,(q:Int))) g0.o f9.o f5.o _ e4 h9;have a5:=aA F;have a2:=aA D;have a0:=aA U;obtain ⟨e6,e9,rfl⟩:=aW e4;clear e4 h9 F D U);all_goals
   refine qD ?_;go_wp2_with fail;go_meet;case rel=>exact ⟨_,_,a5.o,a2.o,a0.o⟩
 case rest=>
  obtain ⟨e6,e9,F,D,U⟩:=hcut;have f2:=aA (pA f j (a.i+1) (-1) u _ t s E g wc F.box F.toks);have a5:=aA F;have a2:=aA D;have a0:=aA U;clear F D U m1 m3 m4 m5 j9 k0 V g0 f9 f5;obtain ⟨b7,d9⟩ : ∃b7,(aH g (a.i+1)).kind=b7:=⟨_,rfl⟩;have f3:=aA (by have:=f2.o;unfold nU at this;rw [d9] at this;exact this);have c8:=aA d9;clear f2 d9;have r2:=aE8;go_upto_if 120 with (first
   |(go_at_call 43;refine (aB f3).mono ?_;rintro B p0 ⟨rfl,b2⟩;have a6:=aA (a5.o.below b2);have a3:=aA (bB a2.o b2 (zz _));have a1:=aA (a0.o.trans (.of_below b2));clear b2)
   |go_in)
  clear a5 a2 a0 f3;go_cut [1,14] (λM n Z=>∃Y:Nat,n=.int .i64 Y/\pC f k j v g i u t s y w a b M Y Z);case first=>
   by_cases h3:b7=40
   ·subst h3;have b1:(aH i (a.i+1)).kind=40:=by rw [<-p.kind,c8.o]
    have l3:aG (yV f k j v g i u t s y ⟨a.i+1,a.vars,a.pz++[(c,w,0,(q:Int))]⟩ (b++[(c,0)]) (.slice b8 (b.length+1) c3) 0 true p0):=aA ⟨_,_,_,-1,_,a6.o,a3.o,a1.o,by simp;omega,Nat.zero_le _,Or.inl ⟨rfl,i1,by simp,λ_=>p.more _ i1 (by rw [b1];decide) (by rw [b1];decide),y,zz _,by simp;omega,by simp⟩⟩;have a7:=aA b1;clear a6 a3 a1 b1 c8;go_wp2_with fail;go_loopw [1,14,15] (λM n o0 wr=>∃(Y:Nat) (X:Bool),n=.int .i64 Y/\o0=.bool X/\yV f k j v g i u t s y ⟨a.i+1,a.vars,a.pz++[(c,w,0,(q:Int))]⟩ (b++[(c,0)]) M Y X wr) (λ_ n _ _=>i.length+1-(intOf n).toNat);case atStart=>exact ⟨0,true,rfl,rfl,l3.o⟩
    case round=>
     obtain ⟨n,X,rfl,rfl,b9,E,G,p1,k2,J,e2,e0,h7,b4,n2⟩:=hrel;obtain ⟨h4,i8,i2⟩:=aE7 J e2 e0;have p4:=J.box.c1;have p5:=J.box.c2;have h2:=J.box.soft 1;have N:=aA h7;have z:=aA J;have Q:=aA e2;have c6:=aA e0;have d1:=aA h4;have c9:=aA i8;have c7:=aA i2;simp only [List.length_append,List.length_singleton] at h7;clear J e2 e0 h4 i8 i2;rcases n2 with ⟨rfl,n4,n6,j2,I,n3,n1,T⟩|⟨k3,rfl,T⟩
     ·have H:=aA T;clear T;have f1:=aA (pA f j G.i (-1) u b9 t s E g wr z.o.box z.o.toks);obtain ⟨W,d8⟩ : ∃W,(aH g G.i).kind=W:=⟨_,rfl⟩;have c0:=aA (by have:=f1.o;unfold nU at this;rw [d8] at this;exact this);have O:=aA d8;clear f1 d8;cases X with
      |true=>
       have j3:=j2 rfl;obtain ⟨b0,rfl⟩ : ∃b0,I=b0+1:=⟨I-1,by omega⟩;have k5:=aA (k8.o b0 (by omega) k false ⟨G.i+1,G.vars,G.pz⟩ b9 E _ k2 _ d1.o c9.o d6 (by have:=c6.o.size;simp [zy];omega) j3 (by simp;omega) (by omega) (by simp;omega) (by simp;omega) (by simp;omega));clear c0 j2;go_wp2_with (first
        |(go_at_call 76;refine (aB k5).mono ?_;rintro B o8 ⟨s6,o4,o5,o1,l9,r5,rfl,b5,j0,i6,h8,j7⟩;have k4:=aA (by have:=pA f j o1.i l9 u o4 t s o5 g o8 b5.box b5.toks;unfold nU at this;exact this);have l5:=aA b5;have l2:=aA j0;have l0:=aA i6;have k7:=aA h8;have l6:=aA j7;clear b5 j0 i6 h8 j7)
        |(go_at_call 43;refine (aB k4).mono ?_;rintro B e ⟨rfl,m⟩;have l8:=aA m;clear m)
        |go_in)
       go_roundw;case rel=>
        have m7:eA i y ⟨a.i+1,a.vars,a.pz++[(c,w,0,(q:Int))]⟩ (b++[(c,0)]) 0=eA i (b0+1) G k2 n:=by have o:=H.o;simpa using o
        have d7:=yV.next p N.o j3 n6 n3 n1 m7 c7.o l5.o l2.o l0.o k7.o l6.o l8.o
        repeat apply Exists.intro
        refine aVs rfl ?_;exact ⟨n+1,_,by go_num,rfl,d7⟩
       case measure=>simp [intOf];omega
      |false=>
       by_cases d5:W=41
       ·have n5:((W:Int) != 41)=false:=by rw [d5];rfl
        go_wp2_with (first
         |(go_at_call 43;refine (aB c0).mono ?_;rintro B e ⟨rfl,m⟩;have V:=aE7 (z.o.below m) (bB Q.o m (zz _)) (c6.o.trans (.of_below m));have d2:=aA V;have d4:=(z.o.below m).box.c1;have m2:=(z.o.below m).box.soft 1;clear m V)
         |go_in)
        go_meet;case rel=>exact ⟨n,rfl,pC.done P.o l.o.1 l.o.2 a7.o N.o b4 (by rw [H.o,aI (by decide),aJ (by rw [<-p.kind,O.o];exact d5)]) d2.o.1 d2.o.2.1 d2.o.2.2⟩
       ·have n5:((W:Int) != 41)=true:=by simp;omega
        go_wp2_with (first
         |(go_at_call 43;refine (aB c0).mono ?_;rintro B e ⟨rfl,m⟩;have k6:=aA (aVr (brk:=a8) (z.o.below m) (bB Q.o m (zz _)) (c6.o.trans (.of_below m)));clear m)
         |(go_at_call 44;refine (aB k6).mono ?_;rintro B o9 ⟨rfl,b6,D,i7⟩;have d4:=b6.box.c1;have m2:=b6.box.soft 1;have d3:=aA (aE7 b6 D i7);clear b6 D i7)
         |go_in)
        go_meet;case rel=>exact ⟨n,rfl,pC.err P.o l.o.1 l.o.2 a7.o N.o b4 (by rw [H.o,aI (by decide),aI (by rw [<-p.kind,O.o];exact d5)]) (p.bad _ n4) d3.o.1 d3.o.2.1 d3.o.2.2⟩
     ·have H:=aA T;clear T;have p7:decide ((k3:Int)<0)=false:=by simp
      cases X with
      |true=>
       go_wp2_with fail;go_meet;case rel=>exact ⟨n,rfl,pC.err P.o l.o.1 l.o.2 a7.o N.o b4 H.o rfl d1.o c9.o c7.o⟩
      |false=>
       go_wp2_with fail;go_meet;case rel=>exact ⟨n,rfl,pC.err P.o l.o.1 l.o.2 a7.o N.o b4 H.o rfl d1.o c9.o c7.o⟩
   ·have q2:((b7:Int)==40)=false:=by rw [beq_eq_false_iff_ne];omega
    go_wp2_with fail;go_meet;case rel=>exact ⟨0,rfl,pC.plain P.o l.o.1 l.o.2 (by rw [<-p.kind,c8.o];exact h3) i0 a6.o a3.o a1.o⟩
  case rest=>
   obtain ⟨n,rfl,m6⟩:=hcut;obtain ⟨s5,o6,o2,m0,n9,h6,j1,i4,q6,p8,j6⟩:=m6;obtain ⟨I,p2,r8,r9,rfl,rfl,c1,G,c2,p3,s0,h5,i9,i3⟩:=aVp h6 j1 d6 i4 b.length a.pz.length n (by omega) (by omega);have l4:=aA h5;have l1:=aA i9;have k9:=aA i3;have l7:=aA j6;have q4:(b.length:Int)<(n9.length:Int):=by omega
   have q9:(a.pz.length:Int)<(o2.pz.length:Int):=by omega
   have q3:(0:Int)<=(b.length:Int):=Int.natCast_nonneg _;have q7:(0:Int)<=(a.pz.length:Int):=Int.natCast_nonneg _;clear h6 j1 i4 h5 i9 i3 j6 a6 a3 a1;go_wp2_with fail;go_ret;refine ⟨_,_,o6,_,m0,_,rfl,l4.o,l1.o,k9.o,by simp [dR,jM];omega,?_⟩;have n7:=l7.o;revert n7;cases cJ i (y+1) w a b with
   |error k3=>exact λo=>o
   |ok r=>exact λo=>⟨o.1,o.2.1.symm,o.2.2.symm⟩
theorem aV8{g u:Nat}{d:Int}{c b:List Tk}{x w v:Value}(r:TL c b d):∀a,aE6 g u d c b x w v a:=by
 intro a;induction a using Nat.strongRecOn with
 |_ a ih=>
  intro i j f y z A t B k p l m n D E q F s;obtain ⟨e,rfl⟩ : ∃e,a=e+1:=⟨a-1,by omega⟩;by_cases o:(aH b f.i).kind=110
  ·exact aV7 g i u d j f x y w v z A c b t B e r (λC G=>ih C (by omega)) k p l m o n D E q F s
  ·exact aVm r i j f y z A t B k p l m n q s o
