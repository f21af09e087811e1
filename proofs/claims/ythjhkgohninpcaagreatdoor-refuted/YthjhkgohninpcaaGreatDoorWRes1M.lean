import Derived.Test.YthjhkgohninpcaaGreatDoorXIResM
open List renaming length_map→zy,length_eraseIdx_le→zw,length_append→zu,length_eraseIdx_of_lt→zt,take_succ_eq_append_getElem→zs,length_take→zr,take_length→zq,append_assoc→zo,eraseIdx_of_length_le→zn,map_append→zl,getElem_mem→zk,mem_append→zj,getElem?_append_left→zh,getElem?_eq_getElem→zg,mem_of_mem_eraseIdx→zf,mem_map→ze,mem_append_right→zd,mem_of_mem_take→zc,mem_append_left→zb
open Nat renaming le_refl→zv,le_trans→zi
open Or renaming inr→za,inl→z2
open Prod renaming fst→zz
namespace Go.Proofs.YthjhkgohninpcaaGreatDoor
open _root_.Go.Proofs.Tryz renaming ntmps79→zp,func79→zm,underlying182→z0
open Value renaming slice→zx
open Go.RowKit Go.Shelf Go.WideMaps
set_option maxHeartbeats 8000000
set_option maxRecDepth 100000
variable{ns:List Bool}{S rs:List Nat}{B:Nat}{g:Nat->Nat}{nv rv v:Value}{w w0 wr:World}
theorem vW{f:Nat}{a b:TypeId}{q r m n:Nat}{e:Value}{o p:List Value}(i:w.ownsRow B a q v m o)(j:w.ownsRow f b r e n p)(l:a≠b):v.ownBlock=none\/v.ownBlock≠e.ownBlock:=by
 obtain ⟨_,⟨rfl,_⟩|⟨g,s,u,rfl,_,k,_⟩⟩:=i
 ·exact z2 rfl
 ·refine za λc=>?_
  obtain ⟨_,⟨rfl,_⟩|⟨y,t,x,rfl,_,d,_⟩⟩:=j
  ·cases c
  ·cases c;rw [k] at d;cases d;exact l rfl
structure fO(w0:World)(B tp:Nat)(L:List (Int×Lt))(S rs:List Nat)(ns:List Bool)(rv nv:Value)(wr:World)(v:Value)(P:Tb)(g:Nat->Nat):Prop where
 tab:cU wr B tp v P
 rows:Rows (aK L) (P.map zz) g
 len:P.length<=(aK L).length
 pos:∀r∈L,0<r.2.2.length
 sts:(bE 0 L).map g=S
 orv:eC B wr rv rs
 onv:wr.ownsRow B 4 1 nv ns.length (ns.map Value.bool)
 apart:∀p∈P,p.2.ownBlock=none\/p.2.ownBlock≠rv.ownBlock
 low:Below B w0 wr
 big:B<=wr.heap.size
section
variable {w0:World}{B tp:Nat}{L:List (Int×Lt)}{S rs:List Nat}{ns:List Bool}{rv nv:Value}{wr:World}{v:Value}{P:Tb}{g:Nat->Nat}
theorem fO.put(a:fO w0 B tp L S rs ns rv nv wr v P g){o q:Int}{x:Lt}(y:q=60*o)(l:bA x.2 1=true){k:Nat}{C:List Nd}{s:World}{r:Value}{d:Tb}(b:mW wr B tp v P q x.2 k C s r d):∃t,fO w0 B tp (L++[(o,x)]) (S++[k]) rs ns rv nv s r d t:=by
 subst y;obtain ⟨D,m⟩:=b.put.inv;have hr:=a.rows.put (o:=o) l m;have f:aK (L++[(o,x)])=aK L++x.2.map λn=>(o,n):=by simp [aK]
 have j:=m.ps;simp [gD] at j;have F:=b.len;refine ⟨_,b.tab,by rw [f];exact hr,?_,?_,?_,?_,?_,λp c=>?_,?_,zi a.big b.far.size⟩
 ·rw [f];have:=a.len;simp;omega
 ·intro A hr;rcases zj.1 hr with hr|hr
  ·exact a.pos A hr
  ·simp at hr;subst hr;exact kA l
 ·rw [uC,zl,<-a.sts];congr 1
  ·apply List.map_congr_left;intro p c;have:=vU L 0 a.pos p c;exact lO (by omega)
  ·simp only [bE,List.map_cons,List.map_nil];rw [show 0+(aK L).length=0+(aK L).length from rfl,aBm,j]
 ·exact b.far.own a.orv (dY a.orv a.tab.box (by decide)) (vW a.orv a.tab.row (by decide))
 ·exact b.far.own a.onv (dY a.onv a.tab.box (by decide)) (vW a.onv a.tab.row (by decide))
 ·rcases b.old p c with ⟨z,u,e⟩|e|⟨g,e,E⟩
  ·rw [e];exact a.apart z u
  ·exact z2 e
  ·refine za λi=>?_
   rw [e] at i;have:=(bL a.orv g i.symm).2;omega
 ·exact a.low.trans (b.far.low a.tab.high (λk e=>(bL a.tab.row k e).1) a.big)
theorem fO.row(a:fO w0 B tp L S rs ns rv nv wr v P g){b:Nat}{k:Value}{w':World}{X:Obj}(s:w'.ownsRow B 3 1 k (rs.length+1) ((rs.map λb=>Value.int .i64 (b:Nat))++[.int .i64 (b:Nat)]))(d:(wr.alloc X).grownBy w' rv.ownBlock)(r:eU (wr.alloc X) rv k):fO w0 B tp L S (rs++[b]) ns k nv w' v P g:=by
 have c:aC wr (wr.alloc X):=(Below.refl _ wr).alloc (zv _) _;have j:=a.tab.below c;have i:=bB a.orv c (zv _);have m:=bB a.onv c (zv _);refine ⟨j.grown d (dY i j.box (by decide)) (vW j.row i (by decide)) a.apart,a.rows,a.len,a.pos,a.sts,?_,dW m d ?_,λp n=>?_,?_,?_⟩
 ·unfold eC;simpa using s
 ·rcases vW m i (by decide) with e|e
  ·exact z2 e
  ·exact za e
 ·rcases a.apart p n with e|e
  ·exact z2 e
  ·rcases r with f|⟨o,f,q⟩
   ·exact za (by rw [f];exact e)
   ·refine za λl=>?_
    rw [f] at l;have:=(bL (a.tab.parts p n) o l).2;simp at q;omega
 ·exact a.low.trans ((c.mono a.big).trans (zI (λb e=>(bL a.orv b e).1) (by simp;have:=a.big;omega) d))
 ·have:=a.big;exact zi this (zi (by simp) d.size)
theorem fO.sign(a:fO w0 B tp L S rs ns rv nv wr v P g){j:Bool}{l:Value}{f:World}{i:Obj}(n:f.ownsRow B 4 1 l (ns.length+1) (ns.map Value.bool++[.bool j]))(c:(wr.alloc i).grownBy f nv.ownBlock):fO w0 B tp L S rs (ns++[j]) rv l f v P g:=by
 have b:aC wr (wr.alloc i):=(Below.refl _ wr).alloc (zv _) _;have e:=a.tab.below b;have k:=bB a.orv b (zv _);have d:=bB a.onv b (zv _);refine ⟨e.grown c (dY d e.box (by decide)) (vW e.row d (by decide)) (λq o=>vW (e.parts q o) d (by decide)),a.rows,a.len,a.pos,a.sts,dW k c (vW k d (by decide)),?_,a.apart,?_,?_⟩
 ·simpa using n
 ·exact a.low.trans ((b.mono a.big).trans (zI (λp m=>(bL a.onv p m).1) (by simp;have:=a.big;omega) c))
 ·have:=a.big;exact zi this (zi (by simp) c.size)
end
theorem xM{d:Type}{b:List d}{c:d}{a:Nat}(e:a≠b.length):(b++[c]).eraseIdx a=b.eraseIdx a++[c]:=by
 rcases Nat.lt_or_ge a b.length with h1|h1
 ·rw [List.eraseIdx_append_of_lt_length h1]
 ·rw [zn (by simp;omega),zn h1]
theorem xN{c:Type}{b:List c}{e:c}{a:Nat}(d:a=b.length):(b++[e]).eraseIdx a=b.eraseIdx a:=by subst d;rw [zn (zv _),List.eraseIdx_append_of_length_le (zv _)];simp
structure aZl(P:Tb)(S:List Nat):Prop where
 ok:hH P
 few:P.length<=1000000
 pts:∀p∈P,p.1.parts.length<=1000000
 short:∀i (h:i<P.length),P[i].1.node.1.size<=1000000
 lt:∀r∈S,r<P.length
theorem aLr{b:List (Int×Lt)}{c:Tg}(d:c∈aK b):∃a∈b,c.2∈a.2.2:=by obtain ⟨a,f,i⟩:=List.mem_flatMap.1 d;obtain ⟨j,e,rfl⟩:=ze.1 i;exact ⟨a,f,e⟩
theorem fO.facts{s:Nat}{e:List (Int×Lt)}{n:Tb}(b:fO w0 B s e S rs ns rv nv wr v n g)(p:∀d∈e,bA d.2.2 1=true)(t:(aK e).length<=1000000):aZl n S:=by
 have o:∀a∈aK e,dU a.2=true:=λa f=>by
  obtain ⟨d,c,l⟩:=aLr f;exact aDh _ _ (p d c) _ l
 refine ⟨b.rows.tabOk rfl λj a i=>?_,by have:=b.len;omega,λj i=>?_,λq k=>?_,λd c=>?_⟩
 ·obtain ⟨d,c,l⟩:=aLr (List.mem_of_getElem? i);exact aXe (p d c) _ l
 ·obtain ⟨q,k,rfl⟩:=List.getElem_of_mem i;obtain ⟨a,f,_,m,r⟩:=b.rows.node rfl k;cases hv:aM a.2
  ·rw [r hv];have:=(aEh (o a f)).2;omega
  ·rw [m hv];simp
 ·obtain ⟨a,f,m,_⟩:=b.rows.node rfl k;rw [m];have:=aDg (o a f);omega
 ·rw [<-b.sts] at c;obtain ⟨j,i,rfl⟩:=ze.1 c;have:=vU e 0 b.pos j i;have:=b.rows.lt (p:=j) (by omega);simpa using this
theorem fO.start(w0:World):fO w0 w0.heap.size w0.heap.size [] [] [] [] (.slice none 0 0) (.slice none 0 0) (w0.alloc (.cells #[.slice none 0 0] 181)) (.slice none 0 0) [] id:=
 ⟨cU.new w0,Rows.start,by simp,by simp,rfl,World.ownsRow_nil _ _ _ _,World.ownsRow_nil _ _ _ _,by simp,(Below.refl _ w0).alloc (zv _) _,by simp⟩
def aFg(w0:World)(d:List Lt)(a b:Nat)(rv nv f:Value)(wr:World):Prop:=
 ∃(S:List Nat) (v:Value) (e:Tb) (g:Nat->Nat) (c:Nat),f=.int .i64 (c:Nat)/\(a<b->S[a]?=some c)/\S.length=b/\fO w0 w0.heap.size w0.heap.size ((d.take b).map λi=>((0:Int),i)) S (S.eraseIdx a) (((d.take b).map zz).eraseIdx a) rv nv wr v e g
def aC2(w0:World)(e k:List Lt)(f c d m:Nat)(rv nv n:Value)(wr:World):Prop:=
 ∃(a b:List Nat) (v:Value) (l:Tb) (g:Nat->Nat) (j:Nat),n=.int .i64 (j:Nat)/\a[f]?=some m/\a.length=e.length/\(c<d->b[c]?=some j)/\b.length=d/\fO w0 w0.heap.size w0.heap.size ((e.map λi=>((0:Int),i))++(k.take d).map λi=>((1:Int),i)) (a++b) (a.eraseIdx f++b.eraseIdx c) ((e.map zz).eraseIdx f++((k.take d).map zz).eraseIdx c) rv nv wr v l g
theorem fO.putT{d:Nat}{L0:List (Int×Lt)}{c:List Lt}{k:Nat}{e:Tb}{o up:Int}(m:fO w0 B d (L0++(c.take k).map λb=>(o,b)) S rs ns rv nv wr v e g)(p:k<c.length)(r:up=60*o)(s:kG c){i:Nat}{t:List Nd}{l:World}{j:Value}{f:Tb}(q:mW wr B d v e up c[k].2 i t l j f):∃a,fO w0 B d (L0++(c.take (k+1)).map λb=>(o,b)) (S++[i]) rs ns rv nv l j f a:=by obtain ⟨a,n⟩:=m.put (o:=o) (x:=c[k]) r (s.term c[k] (zk _)).1 q;refine ⟨a,?_⟩;rw [zs p,zl,<-zo];exact n
theorem fO.few{k:Nat}{a:List (Int×Lt)}{P:Tb}(c:fO w0 B k a S rs ns rv nv wr v P g)(f:∀b∈a,b.2.2.length<=60)(hl:a.length<=16):P.length<=1000:=by
 have j:∀a:List (Int×Lt),(∀b∈a,b.2.2.length<=60)->(aK a).length<=60*a.length:=by
  intro a;induction a with
  |nil=>intro _;simp [aK]
  |cons b a ih=>
   intro c;rw [rH];have d:=c b (by simp);have e:=ih λl i=>c l (by simp [i])
   simp [aQ];omega
 have d:=j a f;have e:=c.len;omega
theorem aFh{q:Option Addr}{c:List Lt}(C:bD w q c)(j:aC w w0)(I:kG c)(up:Int)(G:0<=up/\up<=1000){k:Nat}(E:k<c.length):∃b d f i,q=some ⟨b,d,none⟩/\∀wr v e,aC w0 wr->cU wr w0.heap.size w0.heap.size v e->e.length<=10000->w0.heap.size<=wr.heap.size->
  wr.cell? ⟨b,d+k*2,none⟩=some (.bool c[k].1)/\wr.cell? ⟨b,d+k*2+1,none⟩=some (.slice f c[k].2.length i)/\(∀a,aC w0 a->a.cell? ⟨b,d+k*2,none⟩=some (.bool c[k].1))/\
  Calls Tryz.prog 119 #[.pointer (some ⟨w0.heap.size,0,none⟩),.slice f c[k].2.length i,.int .i64 0,.int .i64 up] wr λr a=>∃(l o:Nat) (p:Value) (m:Tb) (L:List Nd),r=.returned (.tuple #[.int .i64 (l:Nat),.int .i64 (o:Nat)])/\mW wr w0.heap.size w0.heap.size v e up c[k].2 l L a p m:=by
 obtain ⟨b,d,f,i,rfl,z,A,u⟩:=C.cell k E;obtain ⟨y,M⟩:=I.term c[k] (zk _);refine ⟨b,d,f,i,rfl,λwr v e s F N H=>?_⟩;have t:aC w wr:=j.trans (s.mono j.size);have x:∀a,aC w0 a->a.cell? ⟨b,d+k*2,none⟩=some (.bool c[k].1):=λa D=>aD (j.trans (D.mono j.size)) z
 refine ⟨x wr s,aD t A,x,?_⟩;refine (aZg w0.heap.size w0.heap.size up G f i c[k].2 M (λJ n=>Nat.lt_of_lt_of_le (xK u y J n) j.size) c[k].2.length 0 0 v e wr (by simp) (by simpa using y) (u.below t (zv _)) F (by simp;omega) H).mono ?_;rintro r a ⟨l,o,rfl,_,_,_,p,m,n⟩;exact ⟨l,o,p,m,_,rfl,by simpa using n⟩
theorem aLs{a:List (Int×Lt)}(c:∀b∈a,b.2.2.length<=60):(aK a).length<=60*a.length:=by
 induction a with
 |nil=>simp [aK]
 |cons b a ih=>
  rw [rH];have f:=c b (by simp);have i:=ih λe d=>c e (by simp [d])
  simp [aQ];omega
def jT(S:List Lt->Bool->Int->Prop)(w:World)(f:Ending)(d:World):Prop:=
 ∃c i a e b,f=.returned (.tuple #[.slice c a.length i,.bool e,.int .i64 b])/\S a e b/\bD d c a/\a.length<=16/\aC w d
theorem jT.none{S:List Lt->Bool->Int->Prop}{w':World}{a:Int}(b:S [] false a)(c:aC w w'):jT S w (.returned (.tuple #[.slice none 0 0,.bool false,.int .i64 a])) w':=
 ⟨Option.none,0,[],false,a,rfl,b,aFf _,by simp,c⟩
theorem aZm(a2 a3:Option Addr)(X Y:Nat)(a c:List Lt)(x F:Int)(w:World)(N:bD w a2 a)(H:bD w a3 c):Calls Tryz.prog 79 #[.slice a2 a.length X,.int .i64 x,.slice a3 c.length Y,.int .i64 F] w λj p=>jT (gQ a c x F) w j p:=by
 have L:=aA (aDo a2 X a w N);have M:=aA (λwx (a7:aC w wx)=>aDo a3 Y c wx (H.below a7 (zv _)));have i8:=aA N;have i9:=aA H;clear N H;by_cases I:cG a=true/\cG c=true
 ·rw [I.1] at L;rw [I.2] at M;have f6:=aA I;have b2:aG ((¬∃d e,aC6 a c x F d e)->gQ a c x F [] false 6):=aA λn3=>za ⟨I.1,I.2,z2 ⟨n3,rfl,rfl,rfl⟩⟩
  clear I;by_cases c0:0<=x/\x<a.length
  ·by_cases e6:0<=F/\F<c.length
   ·obtain ⟨d,rfl⟩ : ∃d:Nat,x=d:=⟨x.toNat,by omega⟩;obtain ⟨e,rfl⟩ : ∃e:Nat,F=e:=⟨F.toNat,by omega⟩;have d1:d<a.length:=by omega
    have d2:e<c.length:=by omega
    have p3:(d:Int)<(a.length:Int):=by omega
    have p5:(e:Int)<(c.length:Int):=by omega
    have p4:(0:Int)<=(d:Int):=by omega
    have p6:(0:Int)<=(e:Int):=by omega
    have h9:decide ((d:Int)<0)=false:=by simp
    have i0:decide ((e:Int)<0)=false:=by simp
    have k0:decide (a.length<=d)=false:=by simp;omega
    have n0:decide (c.length<=e)=false:=by simp;omega
    obtain ⟨j2,l0,o7,o8,rfl,a4,_,_⟩:=i8.o.cell d d1;obtain ⟨j3,l1,o9,p0,rfl,f9,_,_⟩:=i9.o.cell e d2;by_cases d3:a[d].1=c[e].1
    ·have W:=aA (b2.o (λ⟨m0,m4,l2,l3,l4,l5,o2⟩=>by
      obtain rfl:d=m0:=by omega
      obtain rfl:e=m4:=by omega
      exact o2 d3))
     rw [d3] at a4;clear b2 c0 e6 d3;go_enter zm,zp;go_upto_region 5 with (first
      |(go_at_call_of 118 (zx (some ⟨j2,l0,none⟩) a.length X);refine (aB L).mono ?_;rintro j c8 ⟨rfl,i⟩;have n:=aA i;have u:=i.size;clear i)
      |(go_at_call_of 118 (zx (some ⟨j3,l1,none⟩) c.length Y);refine (aB M _ n.o).mono ?_;rintro j a0 ⟨rfl,k⟩;have r:=aA (n.o.trans (k.mono u));clear k))
     have f7:=aD r.o a4;have j4:=aD r.o f9;go_quiet (fail);go_wp2;go_returns;exact jT.none W.o (aV r.o (aL ⟨_,rfl⟩))
    ·have g1:(a[d].1==c[e].1)=false:=by simpa using d3
     obtain ⟨p1,h7⟩ : ∃q,a[d].1=q:=⟨_,rfl⟩;obtain ⟨p2,i2⟩ : ∃q,c[e].1=q:=⟨_,rfl⟩;rw [h7] at a4;rw [i2] at f9;rw [h7,i2] at g1;have l9:=aA d3;clear b2 c0 e6 h7 i2 d3;go_enter zm,zp;go_upto_region 5 with (first
      |(go_at_call_of 118 (zx (some ⟨j2,l0,none⟩) a.length X);refine (aB L).mono ?_;rintro j c8 ⟨rfl,i⟩;have n:=aA i;have u:=i.size;clear i)
      |(go_at_call_of 118 (zx (some ⟨j3,l1,none⟩) c.length Y);refine (aB M _ n.o).mono ?_;rintro j a0 ⟨rfl,k⟩;have r:=aA (n.o.trans (k.mono u));clear k))
     have f7:=aD r.o a4;have j4:=aD r.o f9;go_quiet (fail);have h8:aC w (a0.drewN nq):=aV r.o (aL (w1:=a0.drewN nq) ⟨nq,rfl⟩);generalize a0.drewN nq=w0 at *;have h0:=aA h8;have n5:=h8.size;clear a4 f9 f7 j4 h8 g1 L M n r u;have g4:=nL f6.o.1;have g5:=nL f6.o.2;have h1:=aA g4;have h2:=aA g5;have p7:=g4.len;have p9:=g5.len;have h3:aG (∀b l,l∈(a.take b).map (λJ=>((0:Int),J))->bA l.2.2 1=true/\l.2.2.length<=60):=aA λb l hr=>by
      obtain ⟨q,a7,rfl⟩:=ze.1 hr;exact g4.term q (zc a7)
     have j1:aG (∀b l,l∈(c.take b).map (λJ=>((1:Int),J))->bA l.2.2 1=true/\l.2.2.length<=60):=aA λb l hr=>by
      obtain ⟨q,a7,rfl⟩:=ze.1 hr;exact g5.term q (zc a7)
     obtain ⟨k7,I,j5,j6,j7⟩:=info_parts aDe;clear g4 g5;go_wp2;go_loopw [14,15,16,18] (λrv nv m3 c5 wr=>∃b:Nat,c5=.int .i64 b/\b<=a.length/\aFg w0 a d b rv nv m3 wr) (λ_ _ _ c5 _=>a.length-(intOf c5).toNat);case atStart=>exact ⟨0,rfl,Nat.zero_le _,[],_,_,_,0,rfl,λd9=>absurd d9 (Nat.not_lt_zero _),rfl,fO.start w0⟩
     case round=>
      obtain ⟨b,rfl,k2,S,v,A,g,R,rfl,O,Z,m⟩:=hrel;by_cases a9:b<a.length
      ·obtain ⟨m5,o1,m1,m2,e2,c3⟩:=aFh i8.o h0.o h1.o 0 (by omega) a9;simp at e2;obtain ⟨rfl,rfl⟩:=e2;have e1:A.length<=1000:=m.few (λl hr=>(h3.o b l hr).2) (by rw [zy,zr];omega);obtain ⟨a4,f7,b7,b0⟩:=c3 wr v A m.low m.tab (by omega) m.big;have n1:(b:Int)<(a.length:Int):=by omega
       obtain ⟨l6,l7,rfl⟩:=m.orv.shape;obtain ⟨k8,k9,rfl⟩:=aW m.onv;have g3:(S.eraseIdx d).length<=16:=by have:=zw S d;omega
       have g2:(((a.take b).map zz).eraseIdx d).length<=16:=by have:=zw ((a.take b).map zz) d;rw [zy,zr] at this;omega
       have V:=aA (λ(f:Nat) (t:Value) (s:Tb) (a8:List Nd) (p:World) (hr:mW wr w0.heap.size w0.heap.size v A 0 a[b].2 f a8 p t s)=>fO.putT (L0:=[]) (o:=0) (up:=0) (c:=a) (k:=b) m a9 rfl h1.o hr);simp only [List.nil_append] at V;have d4:=aA b0;have b3:=aA b7;have c4:(a.take (b+1)).map zz=(a.take b).map zz++[a[b].1]:=by rw [zs a9,zl];rfl
       have b4:=aA c4;have G:=aA Z;obtain ⟨d8,b9⟩ : ∃q,a[b].1=q:=⟨_,rfl⟩;rw [b9] at a4 b3 b4;have c1:((a.take b).map zz).length=b:=by rw [zy,zr];omega
       have d5:=aA c1;by_cases e7:b=d
       ·subst e7;have f5:=aA (λ(f:Nat) (t:Value) (s:Tb) (a8:List Nd) (p:World) (hr:mW wr w0.heap.size w0.heap.size v A 0 a[b].2 f a8 p t s)=>(show aFg w0 a b (b+1) _ _ (.int .i64 (f:Nat)) p from by
         obtain ⟨a5,b8⟩:=V.o f t s a8 p hr;refine ⟨S++[f],t,s,a5,f,rfl,λ_=>?_,by simp;exact G.o,?_⟩
         ·have:=G.o;simp [<-this]
         ·rw [b4.o,xN G.o.symm,xN d5.o.symm];exact b8))
        clear b0 b7 c4 Z b9 c1 O m c3 V e1;generalize (S.eraseIdx b).length=rl at *;generalize (((a.take b).map zz).eraseIdx b).length=nl at *;go_wp2_with (first
         |(go_at_call 119;refine (aB d4).mono ?_;rintro j U ⟨f,i4,c7,b5,c6,rfl,T⟩;have b1:=aA (f5.o f c7 b5 c6 U T);clear T)
         |go_in)
        exact ⟨⟨b+1,by go_num,by omega,b1.o⟩,by simp [intOf];omega⟩
       ·obtain ⟨i6,z⟩ : ∃q,S.eraseIdx d=q:=⟨_,rfl⟩;obtain ⟨i5,y⟩ : ∃q,((a.take b).map zz).eraseIdx d=q:=⟨_,rfl⟩;have c9:=aA (λ(f:Nat) (t:Value) (s:Tb) (a5:Nat->Nat) (f4 f2:Value) (p:World) (b8:fO w0 w0.heap.size w0.heap.size ((a.take (b+1)).map λJ=>((0:Int),J)) (S++[f]) (i6++[f]) (i5++[d8]) f4 f2 p t s a5)=>(show aFg w0 a d (b+1) f4 f2 (.int .i64 (R:Nat)) p from by
         refine ⟨S++[f],t,s,a5,R,rfl,λn2=>?_,by simp;exact G.o,?_⟩
         ·have N:=O (by omega);have H:=G.o;rw [zh (by omega)];exact N
         ·rw [b4.o,xM (by rw [G.o];omega),xM (by rw [d5.o];omega),z,y];exact b8))
        have g1:((b:Int)==(d:Int))=false:=by simp;omega
        rw [z,y] at V;rw [z] at g3;rw [y] at g2;rw [z,y];clear b0 b7 c4 Z b9 c1 O m c3 e1 e7 z y;go_wp2_with (first
         |(at_builtin;refine zN rfl (.tmp 87) (.tmp 89) rfl w0.heap.size _ _ _ rfl (d6.o.orv.alloc _) (by omega) (by simp;omega) U.heap.size 1 (f:Nat) rfl (by simp) ?_;intro o5 a1 c2 e4 e8;have D:=d6.o.row c2 e4 e8;have m8:=b3.o a1 D.low;have n7:=D.big;obtain ⟨o3,o4,rfl⟩:=aW c2;have d7:=aA D;clear c2 e4 e8 D)
         |(at_builtin;refine wpList_append_own _ rfl (.tmp 91) (.tmp 97) 182 rfl w0.heap.size 4 k7 (.bool false) 1 1 z0 I j5 j6 j7 rfl (by decide) _ _ _ rfl (d7.o.onv.alloc _) ⟨a1.heap.size,0,none⟩ 1 1 [.bool d8] rfl rfl (nC a1 _ _ _ rfl) (by intro o6 f0;simp at f0;subst f0;rfl) (by unfold maxLen;omega) (by omega) (by simp;omega) ?_;intro o0 i7 e9 e5 _;have b1:=aA (c9.o f _ _ _ _ _ i7 (d7.o.sign e9 e5));clear e9 e5)
         |(go_at_call 119;refine (aB d4).mono ?_;rintro j U ⟨f,i4,c7,b5,c6,rfl,T⟩;obtain ⟨m9,C⟩:=V.o f c7 b5 c6 U T;have m7:=b3.o U C.low;have n6:=C.big;have d6:=aA C;clear T C)
         |go_in)
        exact ⟨⟨b+1,by go_num,by omega,b1.o⟩,by simp [intOf];omega⟩
      ·obtain rfl:b=a.length:=by omega
       have E:=m;rw [zq] at E;have j0:aG (aC2 w0 a c d e 0 R _ _ (.int .i64 0) wr):=aA ⟨S,[],v,A,g,0,rfl,O d1,Z,λd9=>absurd d9 (Nat.not_lt_zero _),rfl,by simpa using E⟩;clear m E O Z a9 k2;go_wp2;go_loopw [14,15,17,21] (λrv nv m6 c5 wr=>∃b:Nat,c5=.int .i64 b/\b<=c.length/\aC2 w0 a c d e b R rv nv m6 wr) (λ_ _ _ c5 _=>c.length-(intOf c5).toNat);case atStart=>exact ⟨0,rfl,Nat.zero_le _,j0.o⟩
       case round=>
        clear j0;obtain ⟨b,rfl,k2,P,Q,v,A,g,b6,rfl,O,d0,e3,Z,m⟩:=hrel;by_cases a9:b<c.length
        ·obtain ⟨m5,o1,m1,m2,e2,c3⟩:=aFh i9.o h0.o h2.o 60 (by omega) a9;simp at e2;obtain ⟨rfl,rfl⟩:=e2;have e1:A.length<=1000:=m.few (λl hr=>by
          rcases zj.1 hr with hr|hr
          ·have:=h3.o a.length l (by rw [zq];exact hr);exact this.2
          ·exact (j1.o b l hr).2) (by rw [zu,zy,zy,zr];omega)
         obtain ⟨a4,f7,b7,b0⟩:=c3 wr v A m.low m.tab (by omega) m.big;have n1:(b:Int)<(c.length:Int):=by omega
         obtain ⟨l6,l7,rfl⟩:=m.orv.shape;obtain ⟨k8,k9,rfl⟩:=aW m.onv;have g3:(P.eraseIdx d++Q.eraseIdx e).length<=16:=by have N:=zw P d;have H:=zw Q e;rw [zu];omega
         have g2:((a.map zz).eraseIdx d++((c.take b).map zz).eraseIdx e).length<=16:=by have N:=zw (a.map zz) d;have H:=zw ((c.take b).map zz) e;rw [zy] at N;rw [zy,zr] at H;rw [zu];omega
         have V:=aA (λ(f:Nat) (t:Value) (s:Tb) (a8:List Nd) (p:World) (hr:mW wr w0.heap.size w0.heap.size v A 60 c[b].2 f a8 p t s)=>fO.putT (o:=1) (up:=60) (c:=c) (k:=b) m a9 rfl h2.o hr);have d4:=aA b0;have b3:=aA b7;have c4:(c.take (b+1)).map zz=(c.take b).map zz++[c[b].1]:=by rw [zs a9,zl];rfl
         have b4:=aA c4;have G:=aA Z;obtain ⟨d8,b9⟩ : ∃q,c[b].1=q:=⟨_,rfl⟩;rw [b9] at a4 b3 b4;have c1:((c.take b).map zz).length=b:=by rw [zy,zr];omega
         have d5:=aA c1;obtain ⟨i6,z⟩ : ∃q,P.eraseIdx d++Q.eraseIdx e=q:=⟨_,rfl⟩;obtain ⟨i5,y⟩ : ∃q,(a.map zz).eraseIdx d++((c.take b).map zz).eraseIdx e=q:=⟨_,rfl⟩;by_cases e7:b=e
         ·subst e7;have f5:=aA (λ(f:Nat) (t:Value) (s:Tb) (a8:List Nd) (p:World) (hr:mW wr w0.heap.size w0.heap.size v A 60 c[b].2 f a8 p t s)=>(show aC2 w0 a c d b (b+1) R _ _ (.int .i64 (f:Nat)) p from by
           obtain ⟨a5,b8⟩:=V.o f t s a8 p hr;refine ⟨P,Q++[f],t,s,a5,f,rfl,O,d0,λ_=>?_,by simp;exact G.o,?_⟩
           ·have:=G.o;simp [<-this]
           ·rw [b4.o,xN G.o.symm,xN d5.o.symm,<-zo];exact b8))
          rw [z,y] at f5;rw [z] at g3;rw [y] at g2;rw [z,y];clear b0 b7 c4 Z b9 c1 e3 m c3 V e1 z y O d0;go_wp2_with (first
           |(go_at_call 119;refine (aB d4).mono ?_;rintro j U ⟨f,i4,c7,b5,c6,rfl,T⟩;have b1:=aA (f5.o f c7 b5 c6 U T);clear T)
           |go_in)
          exact ⟨⟨b+1,by go_num,by omega,b1.o⟩,by simp [intOf];omega⟩
         ·have c9:=aA (λ(f:Nat) (t:Value) (s:Tb) (a5:Nat->Nat) (f4 f2:Value) (p:World) (b8:fO w0 w0.heap.size w0.heap.size ((a.map λJ=>((0:Int),J))++(c.take (b+1)).map λJ=>((1:Int),J)) (P++Q++[f]) (i6++[f]) (i5++[d8]) f4 f2 p t s a5)=>(show aC2 w0 a c d e (b+1) R f4 f2 (.int .i64 (b6:Nat)) p from by
           refine ⟨P,Q++[f],t,s,a5,b6,rfl,O,d0,λn2=>?_,by simp;exact G.o,?_⟩
           ·have N:=e3 (by omega);have H:=G.o;rw [zh (by omega)];exact N
           ·rw [b4.o,xM (by rw [G.o];omega),xM (by rw [d5.o];omega),<-zo,<-zo,<-zo,z,y];exact b8))
          have g1:((b:Int)==(e:Int))=false:=by simp;omega
          rw [z,y] at V;rw [z] at g3;rw [y] at g2;rw [z,y];clear b0 b7 c4 Z b9 c1 e3 m c3 e1 e7 z y O d0;go_wp2_with (first
           |(at_builtin;refine zN rfl (.tmp 119) (.tmp 121) rfl w0.heap.size _ _ _ rfl (d6.o.orv.alloc _) (by omega) (by simp;omega) U.heap.size 1 (f:Nat) rfl (by simp) ?_;intro o5 a1 c2 e4 e8;have D:=d6.o.row c2 e4 e8;have m8:=b3.o a1 D.low;have n7:=D.big;obtain ⟨o3,o4,rfl⟩:=aW c2;have d7:=aA D;clear c2 e4 e8 D)
           |(at_builtin;refine wpList_append_own _ rfl (.tmp 123) (.tmp 129) 182 rfl w0.heap.size 4 k7 (.bool false) 1 1 z0 I j5 j6 j7 rfl (by decide) _ _ _ rfl (d7.o.onv.alloc _) ⟨a1.heap.size,0,none⟩ 1 1 [.bool d8] rfl rfl (nC a1 _ _ _ rfl) (by intro o6 f0;simp at f0;subst f0;rfl) (by unfold maxLen;omega) (by omega) (by simp;omega) ?_;intro o0 i7 e9 e5 _;have b1:=aA (c9.o f _ _ _ _ _ i7 (d7.o.sign e9 e5));clear e9 e5)
           |(go_at_call 119;refine (aB d4).mono ?_;rintro j U ⟨f,i4,c7,b5,c6,rfl,T⟩;obtain ⟨m9,C⟩:=V.o f c7 b5 c6 U T;have m7:=b3.o U C.low;have n6:=C.big;have d6:=aA C;clear T C)
           |go_in)
          exact ⟨⟨b+1,by go_num,by omega,b1.o⟩,by simp [intOf];omega⟩
        ·obtain rfl:b=c.length:=by omega
         have E:=m;rw [zq] at E;have i3:∀l∈(a.map λJ=>((0:Int),J))++(c.map λJ=>((1:Int),J)),bA l.2.2 1=true/\l.2.2.length<=60:=λl hr=>by
          rcases zj.1 hr with hr|hr
          ·exact h3.o a.length l (by rw [zq];exact hr)
          ·exact j1.o c.length l (by rw [zq];exact hr)
         have k1:=aLs (λl hr=>(i3 l hr).2);rw [zu,zy,zy] at k1;have a6:=E.facts (λl hr=>(i3 l hr).1) (by omega);have h4:d<P.length:=by omega
         have k:e<Q.length:=by omega
         have h5:P[d]=R:=by have:=O;rw [zg h4] at this;simpa using this
         have h6:Q[e]=b6:=by have:=e3 d2;rw [zg k] at this;simpa using this
         have j8:R<A.length:=a6.lt R (by rw [<-h5];exact zb _ (zk _));have j9:b6<A.length:=a6.lt b6 (by rw [<-h6];exact zd _ (zk _));have k3:(P.eraseIdx d++Q.eraseIdx e).length=a.length-1+(c.length-1):=by rw [zu,zt h4,zt k];omega
         have k4:((a.map zz).eraseIdx d++(c.map zz).eraseIdx e).length=a.length-1+(c.length-1):=by rw [zu,zt (by simpa using d1),zt (by simpa using d2)];simp
         have g9:=aA (aLq w0.heap.size w0.heap.size v A R b6 _ _ _ _ wr E.tab a6.ok a6.few a6.pts a6.short j8 j9 E.orv E.onv (by rw [k3,k4]) (by omega) (λl hr=>a6.lt l (by
          rcases zj.1 hr with hr|hr
          ·exact zb _ (zf hr)
          ·exact zd _ (zf hr))) E.big)
         have c9:aG (∀j p,aC1 A R b6 (P.eraseIdx d++Q.eraseIdx e) ((a.map zz).eraseIdx d++(c.map zz).eraseIdx e) w0.heap.size wr j p->jT (gQ a c d e) w j p):=aA λj p ⟨g6,g7,f3,g8,f8,N,H,C,D,g0⟩=>by
          have k6:=E.sts;rw [uC,zl,Nat.zero_add] at k6;obtain ⟨n8,n9⟩:=List.append_inj k6 (by rw [zy,vH,zy];exact d0.symm);refine ⟨g6,g7,f3,g8,f8,N,za ⟨f6.o.1,f6.o.2,za ⟨d,e,⟨d1,d2,rfl,rfl,l9.o⟩,?_⟩⟩,C,D,h0.o.trans (((E.low.trans g0)).mono n5)⟩;have:=bAc d1 d2 (λq a7=>(h1.o.term q a7).1) (λq a7=>(h2.o.term q a7).1) E.rows a6.ok n8 n9 h4 k (by rw [h5,h6];exact H);simpa [d1,d2] using this
         obtain ⟨l6,l7,rfl⟩:=m.orv.shape;obtain ⟨k8,k9,rfl⟩:=aW m.onv;rw [zq] at g9 ⊢;clear m E a6 k1 i3 O e3 d0 Z h5 h6 k3 k4 j8 j9;generalize (P.eraseIdx d++Q.eraseIdx e).length=rl at *;generalize ((a.map zz).eraseIdx d++(c.map zz).eraseIdx e).length=nl at *;go_wp2_with (first
          |(go_at_call 120;refine (aB g9).mono ?_)
          |go_in)
         intro j a1 k5;have n4:=c9.o j a1 k5;obtain ⟨g6,g7,f3,g8,f8,rfl,H,C,D,g0⟩:=n4;have l8:aG (jT (gQ a c d e) w (.returned (.tuple #[.slice g6 f3.length g7,.bool g8,.int .i64 f8])) a1):=aA ⟨g6,g7,f3,g8,f8,rfl,H,C,D,g0⟩;clear k5 H C D g0 g9 c9;generalize f3.length=ol at *;go_wp2;go_returns;exact l8.o
   ·have W:=aA (b2.o (λ⟨d,e,l2,l3,l4,l5,_⟩=>e6 (by omega)));have h9:decide (x<0)=false:=by simp;omega
    have k0:decide ((a.length:Int)<=x)=false:=by simp;omega
    clear b2;by_cases e0:F<0
    ·have i0:decide (F<0)=true:=by simpa using e0
     clear c0 e6;go_enter zm,zp;go_upto_region 5 with (first
      |(go_at_call_of 118 (zx a2 a.length X);refine (aB L).mono ?_;rintro j c8 ⟨rfl,i⟩;have n:=aA i;have u:=i.size;clear i)
      |(go_at_call_of 118 (zx a3 c.length Y);refine (aB M _ n.o).mono ?_;rintro j a0 ⟨rfl,k⟩;have r:=aA (n.o.trans (k.mono u));clear k))
     go_quiet (fail);go_wp2;go_returns;exact jT.none W.o (aV r.o (aL ⟨_,rfl⟩))
    ·have i0:decide (F<0)=false:=by simpa using e0
     have n0:decide ((c.length:Int)<=F)=true:=by simp;omega
     have p8:(c.length:Int)<=F:=by omega
     clear c0 e6;go_enter zm,zp;go_upto_region 5 with (first
      |(go_at_call_of 118 (zx a2 a.length X);refine (aB L).mono ?_;rintro j c8 ⟨rfl,i⟩;have n:=aA i;have u:=i.size;clear i)
      |(go_at_call_of 118 (zx a3 c.length Y);refine (aB M _ n.o).mono ?_;rintro j a0 ⟨rfl,k⟩;have r:=aA (n.o.trans (k.mono u));clear k))
     go_quiet (fail);go_wp2;go_returns;exact jT.none W.o (aV r.o (aL ⟨_,rfl⟩))
  ·have W:=aA (b2.o (λ⟨d,e,l2,l3,l4,l5,_⟩=>c0 (by omega)));clear b2;by_cases e0:x<0
   ·have h9:decide (x<0)=true:=by simpa using e0
    clear c0;go_enter zm,zp;go_upto_region 5 with (first
     |(go_at_call_of 118 (zx a2 a.length X);refine (aB L).mono ?_;rintro j c8 ⟨rfl,i⟩;have n:=aA i;have u:=i.size;clear i)
     |(go_at_call_of 118 (zx a3 c.length Y);refine (aB M _ n.o).mono ?_;rintro j a0 ⟨rfl,k⟩;have r:=aA (n.o.trans (k.mono u));clear k))
    go_quiet (fail);go_wp2;go_returns;exact jT.none W.o (aV r.o (aL ⟨_,rfl⟩))
   ·have h9:decide (x<0)=false:=by simpa using e0
    have k0:decide ((a.length:Int)<=x)=true:=by simp;omega
    have i0:(a.length:Int)<=x:=by omega
    clear c0;go_enter zm,zp;go_upto_region 5 with (first
     |(go_at_call_of 118 (zx a2 a.length X);refine (aB L).mono ?_;rintro j c8 ⟨rfl,i⟩;have n:=aA i;have u:=i.size;clear i)
     |(go_at_call_of 118 (zx a3 c.length Y);refine (aB M _ n.o).mono ?_;rintro j a0 ⟨rfl,k⟩;have r:=aA (n.o.trans (k.mono u));clear k))
    go_quiet (fail);go_wp2;go_returns;exact jT.none W.o (aV r.o (aL ⟨_,rfl⟩))
 ·have W:aG (gQ a c x F [] false 5):=aA (z2 ⟨I,rfl,rfl,rfl⟩);cases i1:cG a with
  |false=>
   rw [i1] at L;clear i1 I;cases f1:cG c<;>rw [f1] at M<;>clear f1;all_goals
    go_enter zm,zp;go_wp2_with (first
     |(go_at_call_of 118 (zx a2 a.length X);refine (aB L).mono ?_;rintro j c8 ⟨rfl,i⟩;have n:=aA i;have u:=i.size;clear i)
     |(go_at_call_of 118 (zx a3 c.length Y);refine (aB M _ n.o).mono ?_;rintro j a0 ⟨rfl,k⟩;have r:=aA (n.o.trans (k.mono u));clear k))
    go_returns;exact jT.none W.o r.o
  |true=>
   have f1:cG c=false:=by
    cases d9:cG c
    ·rfl
    ·exact absurd ⟨i1,d9⟩ I
   rw [i1] at L;rw [f1] at M;clear i1 f1 I;go_enter zm,zp;go_wp2_with (first
    |(go_at_call_of 118 (zx a2 a.length X);refine (aB L).mono ?_;rintro j c8 ⟨rfl,i⟩;have n:=aA i;have u:=i.size;clear i)
    |(go_at_call_of 118 (zx a3 c.length Y);refine (aB M _ n.o).mono ?_;rintro j a0 ⟨rfl,k⟩;have r:=aA (n.o.trans (k.mono u));clear k))
   go_returns;exact jT.none W.o r.o
