import Derived.Test.YtenobhkjiebhaaaGreatDoorText0S18
import Derived.Shelf.Strings.Runes
import Derived.Shelf.Strings.Prefix
import Derived.Test.YtenobhkjiebhaaaGreatDoorProg
import Derived.Lib.OthersKept
import Derived.Laws.Runes
import Derived.Shelf.Small.Utf8
import Derived.Shelf.Small.Strs
import Derived.Deep.RegionWith
import Derived.WalkMore
import Derived.Lib.IndexBytes
import Derived.Shelf.Strings.BuilderK
import Derived.Shelf.Strings.BuilderRune
import Derived.Shelf.Strings.Search3
import Derived.Shelf.Utf8.RuneCount
import Derived.Shelf.Unicode.ValidAny
import Derived.Shelf.Strconv.Itoa3
open Bool renaming false->Y,true->U
open List renaming length->zw,length_append->yt
open Nat renaming le_refl->z7,zero_le->ym
open Option renaming some->Z
namespace Go.Proofs.YtenobhkjiebhaaaGreatDoor
open Calls renaming quiet_of_same->zh
open Exit renaming inBlock->yq,noGoto->yn
open Go renaming World->zs,Value->zp
open _root_.Go.Proofs.Tryz renaming prog->zu,underlying84->zr,underlying68->zq,underlying3->zo,underlying4->zn,underlying9->zm,zeroValue3->zl,zeroValue4->zk,zeroValue9->zj,ntmps147->zi,sizeOf3->zg,sizeOf4->zf,sizeOf9->ze,func147->zd,underlying222->zc,isAgg3->za,isAgg4->z1,isAgg9->z2,zeroValue222->z6,underlying0->yz,underlying5->yy,zeroValue0->yx,zeroValue5->yw,sizeOf222->yv,isAgg222->yu,sizeOf0->ys,sizeOf5->yr,isAgg0->yp,isAgg5->yo
open Utf8 renaming decode->V
open Value renaming ownBlock->zb
open World renaming ownsRow->zt,iterPos->z8,iter_heap->yl
set_option maxHeartbeats 4000000
set_option maxRecDepth 100000
variable{s:ByteArray}{l:List Tk}{f k p:Nat}{w:zs}
section
open Go.RowKit
abbrev Gl:=Int×Nat
def oA(s:ByteArray)(p:Nat):Int:=if (V s p).1=65533/\(V s p).2=1 then -2 else ((V s p).1:Int)
theorem zK(s:ByteArray)(p:Nat):1<=(V s p).2/\(V s p).2<=4:=by
 rw[Lib.decode_N];unfold Lib.decodeN;repeat' split
 all_goals simp
theorem aLi(s:ByteArray)(p:Nat)(a:p<s.size):p+(V s p).2<=s.size:=by
 rw[Lib.decode_N,<-pP];unfold Lib.decodeN;repeat' split
 all_goals (simp only;omega)
def yA(s:ByteArray):Nat->Nat->List Gl
 |0,_=>[(-1,s.size)]
 |f+1,p=>if p<s.size then (oA s p,p)::yA s f (p+(V s p).2) else [(-1,s.size)]
theorem aVi(s:ByteArray):∀f p,s.size-p<=f->yA s f p=yA s (s.size-p) p:=by
 intro f;induction f using Nat.strongRecOn with
 |_ f ih=>
  intro p e;by_cases d:p<s.size
  .obtain⟨a,rfl⟩:∃a,f=a+1:=⟨f-1,by omega⟩;obtain⟨b,g⟩:∃b,s.size-p=b+1:=⟨s.size-p-1,by omega⟩;grind[zK,yA]
  have c:s.size-p=0:=by omega
  rw[c];cases f with
  |zero=>rfl
  |succ f=>simp only[yA];rw[aS d]
def dL(s:ByteArray)(p:Nat):List Gl:=yA s (s.size-p) p
theorem wK(b:p<s.size):dL s p=(oA s p,p)::dL s (p+(V s p).2):=by unfold dL;obtain⟨a,c⟩:∃a,s.size-p=a+1:=⟨s.size-p-1,by omega⟩;grind[zK,yA,aVi]
theorem aGa(a:¬p<s.size):dL s p=[(-1,s.size)]:=by unfold dL;rw[show s.size-p=0 by omega];rfl
theorem aCz(s:ByteArray):∀a p,s.size-p<=a->1<=zw (dL s p)/\zw (dL s p)<=a+1:=by
 intro a;induction a using Nat.strongRecOn with
 |_ a ih=>
  intro p c;by_cases b:p<s.size
  .rw[wK b];have d:=(zK s p).1;have:=ih (a-1) (by omega) (p+(V s p).2) (by omega);simp only[List.length_cons];omega
  rw[aGa b];simp
theorem aVj(l:List UInt8)(p:Nat)(a b c:UInt8):[a,b,c].isPrefixOf (l.drop p)=U↔l[p]?=Z a/\l[p+1]?=Z b/\l[p+2]?=Z c:=by
 have d:(l.drop p)[0]?=l[p]?:=by simp
 have e:(l.drop p)[1]?=l[p+1]?:=by simp
 have g:(l.drop p)[2]?=l[p+2]?:=by simp
 rw[<-d,<-e,<-g];generalize l.drop p=m;match m with
 |[]=>simp
 |[x]=>simp
 |[x,y]=>simp
 |x::y::z::r=>simp;constructor<;>(rintro⟨rfl,rfl,rfl⟩;exact⟨rfl,rfl,rfl⟩)
theorem aVk(s:ByteArray)(p:Nat)(a:(V s p).1=65533):Lib.hasPrefix (s.data.toList.drop p) [239,191,189] = !decide ((V s p).2=1):=by
 have e:=aVj s.data.toList p 239 191 189;have g:(s.data.toList[p]?=Z 239/\s.data.toList[p+1]?=Z 191/\s.data.toList[p+2]?=Z 189)↔aG s p=239/\aG s (p+1)=191/\aG s (p+2)=189:=by
  have q:∀b (c:UInt8),c.toNat≠0->(s.data.toList[b]?=Z c↔aG s b=c.toNat):=by
   intro b c o;rw[oE];cases hq:s.data.toList[b]? with
   |none=>
    simp only[List.getD,hq,Option.getD_none];grind
   |some x=>
    simp only[List.getD,hq,Option.getD_some,Option.some.injEq];exact⟨λa=>by rw[a],λa=>UInt8.toNat_inj.1 a⟩
  grind
 rw[g]at e;unfold Lib.hasPrefix;have d:=Lib.decode_N s p;rw[<-oE,<-oE,<-oE,<-oE,<-pP]at d;have i:=xD s p;have j:=xD s (p+1);have m:=xD s (p+2);have n:aG s (p+2)≠0->2<s.size-p:=by grind[aG]
 generalize aG s p=x0 at *;generalize aG s (p+1)=x1 at *;generalize aG s (p+2)=x2 at *;generalize aG s (p+3)=x3 at *;rw[d]at a ⊢;unfold Lib.decodeN at a ⊢;grind
def qN(l:List Gl):List zp:=l.flatMap λa=>[.int .i32 a.1,iQ a.2]
theorem aLj(l:List Gl)(a:Gl):qN (l++[a])=qN l++[.int .i32 a.1,iQ a.2]:=by simp[qN]
theorem aGb(l:List Gl):∀k (a:k<zw l),(qN l)[k*2]?=Z (.int .i32 l[k].1)/\(qN l)[k*2+1]?=Z (iQ l[k].2):=by
 induction l with
 |nil=>intro k a;simp at a
 |cons x r ih=>
  grind[qN]
theorem aB2:(Tryz.prog.info? 149).map (λa=>(a.zero,a.size,a.bytes))=Z (Z (.agg #[.int .i32 0,iQ 0]),2,16):=by kernel_rfl
end
section
open Go.Shelf Go.Proofs
def aLk:Go.Shelf.Ren:=⟨fun|99=>78|119=>161|137=>160|151=>121|152=>147|206=>116|217=>175|224=>162|225=>163|266=>185|n=>n,fun|0=>0|3=>3|4=>4|5=>5|9=>9|21=>21|46=>222|n=>n,fun|n=>n⟩
theorem aVl:Lays.n99 zu aLk:={
 mixed:=by kernel_rfl
 f99:=Tryz.func78.trans (congrArg Z (by kernel_rfl))
 f206:=Tryz.func116.trans (congrArg Z (by kernel_rfl))
 t3:=zo
 a3:=za
 z3:=zg
 v3:=zl
 t4:=zn
 a4:=z1
 z4:=zf
 v4:=zk
 t9:=zm
 a9:=z2
 z9:=ze
 v9:=zj}
theorem aD0:Lays.n151 zu aLk:={
 mixed:=by kernel_rfl
 f119:=Tryz.func161.trans (congrArg Z (by kernel_rfl))
 f137:=Tryz.func160.trans (congrArg Z (by kernel_rfl))
 f151:=Tryz.func121.trans (congrArg Z (by kernel_rfl))
 f152:=Tryz.func147.trans (congrArg Z (by kernel_rfl))
 f217:=Tryz.func175.trans (congrArg Z (by kernel_rfl))
 f224:=Tryz.func162.trans (congrArg Z (by kernel_rfl))
 f225:=Tryz.func163.trans (congrArg Z (by kernel_rfl))
 f266:=Tryz.func185.trans (congrArg Z (by kernel_rfl))
 t0:=yz
 a0:=yp
 z0:=ys
 v0:=yx
 t3:=zo
 a3:=za
 z3:=zg
 v3:=zl
 t4:=zn
 a4:=z1
 z4:=zf
 v4:=zk
 t5:=yy
 a5:=yo
 z5:=yr
 v5:=yw
 t9:=zm
 a9:=z2
 z9:=ze
 v9:=zj
 t21:=Tryz.underlying21
 a21:=Tryz.isAgg21
 z21:=Tryz.sizeOf21
 v21:=Tryz.zeroValue21
 t46:=zc
 a46:=yu
 z46:=yv
 v46:=z6}
end
section
open Go.RowKit Go.Shelf
def uP(a:Int):Bool:=decide (a=124) || decide (a=126) || decide (a=40) || decide (a=41) || decide (a=44) || decide (a=46)
abbrev gB:ByteArray:=⟨#[124,126,40,41,44,46]⟩
theorem aVm(a:Int)(d:0<=a)(i:a<128):decide (0<=Lib.indexByte gB.data.toList a.toNat.toUInt8)=uP a:=by
 obtain⟨c,rfl⟩:=Int.eq_ofNat_of_zero_le d;have e:c<128:=by omega
 have g:∀b:Fin 128,decide (0<=Lib.indexByte gB.data.toList ((b.1:Int).toNat.toUInt8))=uP (b.1:Int):=by decide
 exact g ⟨c,e⟩
def aGc(a:Int):Prop:=a=-1\/a=-2\/Utf8.valid a=U
theorem aVn(a:Int)(w:zs)(i:a<0):Calls zu 147 #[.string gB,.int .i32 a] w λc e=>c=.returned (iQ (-1))/\aB w e:=by
 have j:¬(0:Int)<=a:=by omega
 have n:(a==65533)=false:=by rw[beq_eq_false_iff_ne];omega
 have m:decide (0<=a)=false:=by simp;omega
 have d:Lib.validRune a=false:=by simp[Lib.validRune];omega
 have b:=O (λg=>Any.utf8_ValidRune {aD0 with} a g);rw[d]at b;go_enter zd,zi;go_wp2_with(first
  |(go_at_call 161;refine(aD b _).mono ?_;rintro c o ⟨rfl,rfl⟩)
  |go_in)
 go_ret;exact⟨rfl,dP⟩
theorem aVo(w:zs):Calls zu 147 #[.string gB,.int .i32 65533] w λo u=>o=.returned (iQ (-1))/\aB w u:=by
 go_enter zd,zi;go_wp2;go_loopw[] (λwr=>∃a:Nat,a<=6/\wr.heap[w.heap.size]?=Z (.stringIter gB a)/\aB w wr) (λwr=>6-wr.iterPos w.heap.size);exact⟨0,by omega,by have:=yl w gB 0;simpa using this,aI w _⟩;obtain⟨a,x,c,e⟩:=hrel;have j:=O e;have n:=O c;by_cases d:a<gB.size
 .have t:a<6:=d;have q:(gB[a]'d).toNat<128:=by
   have:∀g:Fin 6,(gB[g.1]'(by have:=g.2;show g.1<6;omega)).toNat<128:=by decide
   exact this ⟨a,t⟩
  have r:∀b,(Instr.next (pQ w.heap.size) U b).run zu wr=_:=λb=>Lib.run_next_ascii_at wr w.heap.size gB a b c d q
  have i:=O (Lib.iterAt_heap wr w.heap.size gB a (a+1) c);have m:=O (Lib.below_iterAt e (k:=w.heap.size) (z7 _) gB (a+1));generalize (gB[a]'d).toNat=cc at *;have v:((cc:Int)==65533)=false:=by rw[beq_eq_false_iff_ne];omega
  clear c e;go_wp2;go_roundw;·exact⟨a+1,by omega,i.o,m.o⟩
  simp only[z8,n.o,i.o];omega
 have r:∀b,(Instr.next (pQ w.heap.size) U b).run zu wr=_:=λb=>Lib.run_next_end_at wr w.heap.size gB a b c d
 clear c e;go_wp2;go_ret;exact⟨rfl,j.o⟩
theorem aVp(b:UInt8):∀l:List UInt8,(∀a∈l,a≠b)->Lib.indexByte l b=-1:=by
 intro l;induction l with
 |nil=>intro _;rfl
 |cons x r ih=>
  intro c;have d:=ih λa g=>c a (List.mem_cons_of_mem _ g)
  have e:(x==b)=false:=yV (c x (List.mem_cons_self ..));rw[Lib.indexByte,e,d];rfl
theorem aGd(c:Nat)(b:UInt8)(g:128<=b.toNat):Lib.indexByte (gB.extract c 6).data.toList b=-1:=by
 refine aVp b _ λd i e=>?_
 subst e;have a:=mem_extract i;have a:d∈[124,126,40,41,44,46]:=a;simp at a;rcases a with rfl|rfl|rfl|rfl|rfl|rfl<;>simp at g
theorem aVq(c:Int)(w:zs)(z:Utf8.valid c=U)(C:128<=c)(D:c≠65533):Calls zu 147 #[.string gB,.int .i32 c] w λd j=>d=.returned (iQ (-1))/\aB w j:=by
 have I:(0:Int)<=c:=by omega
 have J:¬c<128:=by omega
 have L:(c==65533)=false:=by rw[beq_eq_false_iff_ne];exact D
 have E:Lib.validRune c=true:=by rw[<-z,validRune_eq];rfl
 have v:=O (λb=>Any.utf8_ValidRune {aD0 with} c b);rw[E]at v;obtain⟨G,H,n⟩:=encode_facts c z C;have m:=O (λ(F:ByteArray) (B:Int) b=>Any.strings_IndexByte {aD0 with} F B b);generalize hr:Utf8.encode c=rs at *;rcases(show rs.size=2\/rs.size=3\/rs.size=4 by omega)with hs|hs|hs
 .have r:128<=(rs[1]'(by omega)).toNat:=by have:=n (by omega);simpa[hs]using this
  have a:1<rs.size:=by omega
  have y:(rs.size:Int)=2:=by omega
  have g:=aGd 2 (rs[1]'a) r;have i:((rs[1]'a).toNat:Int).toNat.toUInt8=(rs[1]'a):=by simp
  have x:(((gB[1]'(by decide)).toNat:Int) != ((rs[1]'a).toNat:Int))=true:=by have:(gB[1]'(by decide)).toNat=126:=rfl;rw[this];simp;omega
  have A:IntKind.i64.wrap 2=2:=by decide
  have o:aE (∀b,Calls zu 160 #[.string (gB.extract 2 6),.int .u8 ((rs[1]'a).toNat:Int)] b λd j=>d=.returned (iQ (-1))/\j=b):=O λb=>by
   have:=m.o (gB.extract 2 6) ((rs[1]'a).toNat:Int) b;rw[i,g]at this;exact this
  clear i g n m;go_enter zd,zi;go_wp2_with(first
   |(go_at_call 161;refine(aD v _).mono ?_;rintro d u ⟨rfl,rfl⟩)
   |go_in)
  go_step3;go_wp2;go_loopw[9] (λt wr=>t=iQ 1/\wr=u) (λ_ _=>0);exact⟨rfl,rfl⟩;obtain⟨rfl,rfl⟩:=hrel;go_wp2;go_step3;go_wp2;go_quiet (fail);go_wp2;have e:aB wr (wr.drewN nq):=aN ⟨_,rfl⟩;have q:=O e;clear e;generalize wr.drewN nq=wq at *;go_quiet ((go_at_call 160;exact zh (aD o _)));go_wp2;simp +zetaDelta only[yq,Exit.then,yn];go_ret;exact⟨rfl,bE q.o (aN ⟨_,rfl⟩)⟩
 .have r:128<=(rs[2]'(by omega)).toNat:=by have:=n (by omega);simpa[hs]using this
  have a:2<rs.size:=by omega
  have y:(rs.size:Int)=3:=by omega
  have g:=aGd 3 (rs[2]'a) r;have i:((rs[2]'a).toNat:Int).toNat.toUInt8=(rs[2]'a):=by simp
  have x:(((gB[2]'(by decide)).toNat:Int) != ((rs[2]'a).toNat:Int))=true:=by have:(gB[2]'(by decide)).toNat=40:=rfl;rw[this];simp;omega
  have A:IntKind.i64.wrap 3=3:=by decide
  have o:aE (∀b,Calls zu 160 #[.string (gB.extract 3 6),.int .u8 ((rs[2]'a).toNat:Int)] b λd j=>d=.returned (iQ (-1))/\j=b):=O λb=>by
   have:=m.o (gB.extract 3 6) ((rs[2]'a).toNat:Int) b;rw[i,g]at this;exact this
  clear i g n m;go_enter zd,zi;go_wp2_with(first
   |(go_at_call 161;refine(aD v _).mono ?_;rintro d u ⟨rfl,rfl⟩)
   |go_in)
  go_step3;go_wp2;go_loopw[9] (λt wr=>t=iQ 2/\wr=u) (λ_ _=>0);exact⟨rfl,rfl⟩;obtain⟨rfl,rfl⟩:=hrel;go_wp2;go_step3;go_wp2;go_quiet (fail);go_wp2;have e:aB wr (wr.drewN nq):=aN ⟨_,rfl⟩;have q:=O e;clear e;generalize wr.drewN nq=wq at *;go_quiet ((go_at_call 160;exact zh (aD o _)));go_wp2;simp +zetaDelta only[yq,Exit.then,yn];go_ret;exact⟨rfl,bE q.o (aN ⟨_,rfl⟩)⟩
 have r:128<=(rs[3]'(by omega)).toNat:=by have:=n (by omega);simpa[hs]using this
 have a:3<rs.size:=by omega
 have y:(rs.size:Int)=4:=by omega
 have g:=aGd 4 (rs[3]'a) r;have i:((rs[3]'a).toNat:Int).toNat.toUInt8=(rs[3]'a):=by simp
 have x:(((gB[3]'(by decide)).toNat:Int) != ((rs[3]'a).toNat:Int))=true:=by have:(gB[3]'(by decide)).toNat=41:=rfl;rw[this];simp;omega
 have A:IntKind.i64.wrap 4=4:=by decide
 have o:aE (∀b,Calls zu 160 #[.string (gB.extract 4 6),.int .u8 ((rs[3]'a).toNat:Int)] b λd j=>d=.returned (iQ (-1))/\j=b):=O λb=>by
  have:=m.o (gB.extract 4 6) ((rs[3]'a).toNat:Int) b;rw[i,g]at this;exact this
 clear i g n m;go_enter zd,zi;go_wp2_with(first
  |(go_at_call 161;refine(aD v _).mono ?_;rintro d u ⟨rfl,rfl⟩)
  |go_in)
 go_step3;go_wp2;go_loopw[9] (λt wr=>t=iQ 3/\wr=u) (λ_ _=>0);exact⟨rfl,rfl⟩;obtain⟨rfl,rfl⟩:=hrel;go_wp2;go_step3;go_wp2;go_quiet (fail);go_wp2;have e:aB wr (wr.drewN nq):=aN ⟨_,rfl⟩;have q:=O e;clear e;generalize wr.drewN nq=wq at *;go_quiet ((go_at_call 160;exact zh (aD o _)));go_wp2;simp +zetaDelta only[yq,Exit.then,yn];go_ret;exact⟨rfl,bE q.o (aN ⟨_,rfl⟩)⟩
theorem aLl(a:Int)(w:zs)(h:aGc a):Calls zu 85 #[.int .i32 a] w λb c=>b=.returned (.bool (uP a))/\aB w c:=by
 have i:Calls zu 121 #[.string gB,.int .i32 a] w λb c=>b=.returned (.bool (uP a))/\aB w c:=by
  by_cases d:0<=a/\a<128
  .refine(Any.strings_ContainsRune_ascii aD0 gB a w d.1 d.2).mono ?_;rintro b c ⟨rfl,rfl⟩;exact⟨by rw[aVm a d.1 d.2],dP⟩
  have m:uP a=false:=by
   unfold uP;simp only[Bool.or_eq_false_iff,decide_eq_false_iff_not];omega
  have j:Calls zu 147 #[.string gB,.int .i32 a] w λb c=>b=.returned (iQ (-1))/\aB w c:=by
   by_cases n:a<0
   .exact aVn a w n
   by_cases g:a=65533
   .subst g;exact aVo w
   refine aVq a w ?_ (by omega) g;rcases h with h|h|h
   .omega
   .omega
   exact h
  rw[m];go_enter Tryz.func121,Tryz.ntmps121;go_wp2_with(go_at_call 147;refine j.mono ?_;rintro b o ⟨rfl,e⟩);go_ret;exact⟨rfl,e⟩
 go_enter Tryz.func85,Tryz.ntmps85;go_wp2_with(go_at_call 121;refine i.mono ?_;rintro b o ⟨rfl,e⟩);go_ret;exact⟨rfl,e⟩
theorem aVr(s:ByteArray)(p:Nat):aGc (oA s p):=by
 unfold oA;split
 .exact Or.inr (Or.inl rfl)
 right;right;rw[validRune_eq];unfold validRune;rw[decide_eq_true_eq,Lib.decode_N];unfold Lib.decodeN;repeat' split
 all_goals (simp only;omega)
theorem aLm{b:Nat}{c:TypeId}{g:Nat}{i:zp}{e:Nat}{j:List zp}(q:zt w b c g i e j){k A:Nat}{s:ByteArray}(v:w.heap[k]?=Z (.stringIter s A))(B:Nat):zt (w.iterAt k s B) b c g i e j:=by
 obtain⟨d,⟨rfl,r⟩|⟨o,m,n,rfl,t,a,u,x,z,y⟩⟩:=q
 .exact⟨d,Or.inl ⟨rfl,r⟩⟩
 refine⟨d,Or.inr ⟨o,m,n,rfl,t,?_,u,x,z,y⟩⟩;rw[Lib.iterAt_other _ _ _ _ _ (by rintro rfl;rw[v]at a;cases a)];exact a
theorem aVs{d:Nat}{i:TypeId}{m:Nat}{c:zp}{b:Nat}{n:List zp}(j:zt w d i m c (b+1) n):∃a e,c=sQ a (b+1) e:=by
 obtain⟨_,⟨rfl,q⟩|⟨a,g,o,rfl,_⟩⟩:=j
 .omega
 exact⟨a,g,rfl⟩
structure aB3(w:zs)(s:ByteArray)(it:Nat)(v:zp)(pos:Nat)(G:List Gl)(wr:zs):Prop where
 le:pos<=s.size
 iter:wr.heap[it]?=Z (.stringIter s pos)
 row:zt wr w.heap.size 149 2 v (zw G) (qN G)
 low:aB w wr
 high:w.heap.size<=it
 few:zw G<=pos
 eq:G++dL s pos=dL s 0
theorem aB3.next{c:Nat}{q:zp}{a:Nat}{d:List Gl}{wr:zs}(b:aB3 w s c q a d wr)(n:a<s.size){v':zp}{w1:zs}{X:Obj}(u:zt w1 w.heap.size 149 2 v' (zw d+1) (qN d++[.int .i32 (oA s a),iQ a]))(j:World.grownBy ((wr.iterAt c s (a+(V s a).2)).alloc X) w1 (zb q)):aB3 w s c v' (a+(V s a).2) (d++[(oA s a,a)]) w1:=by
 have z:=(zK s a).1;have g:=Lib.iterAt_heap wr c s a (a+(V s a).2) b.iter;have t:=(bA g);have o:=aLm b.row b.iter (a+(V s a).2);have i:=Lib.below_iterAt b.low b.high s (a+(V s a).2);refine⟨aLi s a n,?_,by rw[aLj,yt];exact u,?_,b.high,by have:=b.few;simp;omega,?_⟩
 .rw[j.block c (by simp;omega) ?_]
  .have r:=(Below.refl _ (wr.iterAt c s (a+(V s a).2))).alloc (z7 _) X;rw[r.block c t];exact g
  intro e;obtain⟨_,⟨rfl,_⟩|⟨y,v,x,rfl,_,m,_⟩⟩:=o
  .simp[zb]at e
  simp[zb]at e;subst e;rw[g]at m;cases m
 .exact(i.alloc i.size X).grown j (by have:=i.size;simp;omega) (λk e=>(bS o k e).1)
 rw[List.append_assoc,<-b.eq,wK n];rfl
theorem aVt(s:ByteArray)(w:zs)(d2:s.size<=3000):Calls zu 48 #[.string s] w λm a7=>∃R Q,m=.returned (sQ R (zw (dL s 0)) Q)/\zt a7 w.heap.size 149 2 (sQ R (zw (dL s 0)) Q) (zw (dL s 0)) (qN (dL s 0))/\aB w a7:=by
 obtain⟨c0,b4,b5,b6,b7⟩:=info_parts aB2;go_enter Tryz.func48,Tryz.ntmps48;go_wp2_with(first
  |(at_make;refine wpList_make_own _ rfl _ _ 68 rfl w.heap.size 149 c0 (.agg #[.int .i32 0,iQ 0]) 2 zq b4 b5 b6 .i64 .i64 _ (s.size+1) rfl rfl (by simp) (by rw[b7];omega) (by unfold maxLen;omega) (z7 _) ?_;intro e a1 T;have N:=O a1;have A:aE (aB w e):=O ((Below.refl _ w).grown T (z7 _) (λk m=>by cases m));clear a1 T)
  |go_in)
 have a3:=A.o.size;have L:aE (aB3 w s e.heap.size (sQ w.heap.size 0 (s.size+1)) 0 [] (e.iter s 0)):=O ⟨ym _,by have:=yl e s 0;simpa using this,N.o.alloc _,A.o.alloc a3 _,a3,z7 _,rfl⟩;clear N A;generalize e.heap.size=it at *;go_loopw[3] (λc1 wr=>∃(a:Nat) (u:List Gl),aB3 w s it c1 a u wr) (λ_ wr=>s.size-wr.iterPos it);exact⟨0,[],L.o⟩;clear L;obtain⟨a,u,c⟩:=hrel;have M:=O c;have n:=c.iter;have c7:=c.few;have c8:=c.le;have c9:=c.low.size;by_cases z:a<s.size
 .have a0:∀o,(Instr.next (pQ it) U o).run zu wr=_:=λo=>Lib.run_next_any_at wr it s a o n z
  have X:=Lib.iterAt_heap wr it s a (a+(V s a).2) n;have C:=O n;have a9:=O X;have x:=O (aLm c.row n (a+(V s a).2));have a4:(wr.iterAt it s (a+(V s a).2)).heap.size=wr.heap.size:=Lib.iterAt_size _ _ _ _;have v:=O (λ(c2:zp) (e:zs) (b1:Obj) ho hg=>M.o.next z (v':=c2) (w1:=e) (X:=b1) ho hg);obtain⟨c3,c4,rfl⟩:=aZ c.row;have d1:(0:Int)<=(a:Int):=by omega
  have d0:(a:Int)<=(s.size:Int):=by omega
  have b8:=(zK s a).1;obtain⟨j,q⟩:∃j,(V s a).2=j:=⟨_,rfl⟩;obtain⟨i,y⟩:∃i,(V s a).1=i:=⟨_,rfl⟩;have G:=aVk s a;have B:aE (oA s a=if i=65533/\j=1 then -2 else (i:Int)):=O (by unfold oA;rw[y,q]);rw[q,y]at a0;rw[q]at X a9 x a4 v b8;rw[q,y]at G;generalize oA s a=gc at *;clear n c M q y;have d3:w.heap.size<=(wr.iterAt it s (a+j)).heap.size:=by omega
  clear a4;generalize hW:wr.iterAt it s (a+j)=W at *;by_cases S:i=65533
  .subst S;have a2:Lib.hasPrefix (s.extract a s.size).data.toList [239,191,189] = !decide (j=1):=by
    have:=G rfl;rw[<-this];congr 1
    exact Lib.extract_to_end s a
   have t:=O (λc5=>Any.strings_HasPrefix aVl (s.extract a s.size) ⟨#[239,191,189]⟩ c5);rw[show (⟨#[239,191,189]⟩:ByteArray).data.toList=[239,191,189] from rfl,a2]at t;clear a2 G;by_cases F:j=1
   .subst F;have r:gc=-2:=by rw[B.o,aT ⟨rfl,rfl⟩]
    subst r;go_wp2_with(first
     |(go_at_call 78;refine(aD t _).mono ?_;rintro m e ⟨rfl,rfl⟩)
     |(at_builtin;refine eU aB2 zq (x.o.alloc _) ?_;intro H I b d _;have g:=O (v.o _ _ _ b d);obtain⟨a5,a6,rfl⟩:=aZ b;clear b d)
     |go_in)
    go_roundw;·exact⟨_,_,g.o⟩
    simp only[z8,C.o,g.o.iter];omega
   have r:gc=((65533:Nat):Int):=by rw[B.o,aS (λE=>F E.2)]
   subst r;rw[gG F]at t;go_wp2_with(first
    |(go_at_call 78;refine(aD t _).mono ?_;rintro m e ⟨rfl,rfl⟩)
    |(at_builtin;refine eU aB2 zq (x.o.alloc _) ?_;intro H I b d _;have g:=O (v.o _ _ _ b d);obtain⟨a5,a6,rfl⟩:=aZ b;clear b d)
    |go_in)
   go_roundw;·exact⟨_,_,g.o⟩
   simp only[z8,C.o,g.o.iter];omega
  have c6:((i:Int)==65533)=false:=by rw[beq_eq_false_iff_ne];omega
  have r:gc=(i:Int):=by rw[B.o,aS (λE=>S E.1)]
  subst r;go_wp2_with(first
   |(at_builtin;refine eU aB2 zq (x.o.alloc _) ?_;intro H I b d _;have g:=O (v.o _ _ _ b d);obtain⟨a5,a6,rfl⟩:=aZ b;clear b d)
   |go_in)
  go_roundw;·exact⟨_,_,g.o⟩
  simp only[z8,C.o,g.o.iter];omega
 have a0:∀o,(Instr.next (pQ it) U o).run zu wr=_:=λo=>Lib.run_next_end_at wr it s a o n z
 obtain⟨c3,c4,rfl⟩:=aZ c.row;have P:=O c.row;have D:=O c.low;have J:aE (dL s 0=u++[(-1,s.size)]):=O (by rw[<-c.eq,aGa z]);clear c n;go_wp2_with(first
  |(at_builtin;refine eU aB2 zq (P.o.alloc _) ?_;intro H I b d _;have b0:=O b;have a8:=O d;obtain⟨b3,b2,rfl⟩:=aVs b;clear b d)
  |go_in)
 go_ret;have b9:zw (dL s 0)=zw u+1:=by rw[J.o];simp
 rw[b9,J.o,aLj];exact⟨b3,b2,rfl,b0.o,(D.o.alloc D.o.size _).grown a8.o (by have:=D.o.size;simp;omega) (λk m=>(bS P.o k m).1)⟩
end
section
open Go.RowKit
theorem aB4(a:p<s.size)(b:aG s p=37):p<jD s p:=by grind[aPx,jD,aEj]
theorem aD1(a:p<=s.size):jD s p<=s.size:=(aPx s _ p).2 a
theorem aVu(s:ByteArray):∀f c p b a,gJ s f c p=Z (b,a)->p<a/\a<=s.size/\fS b=true:=by
 intro f;induction f with
 |zero=>intro c p b a d;simp[gJ]at d
 |succ f ih=>
  grind[gJ]
theorem aLn{b:ByteArray}{a:Nat}(c:mZ s p=Z (b,a)):p+1<a/\a<=s.size/\fS b=true:=aVu s _ _ _ _ _ c
theorem aLo(a:p<s.size)(b:(fC (aG s p) || eZ (aG s p))=U):p<fG s p:=by grind[iE,aPw,aBn]
def mT(l:List Tk):List zp:=l.flatMap λa=>[.int .u8 a.kind,.string a.txt,iQ a.pos]
theorem aVv(l:List Tk)(a:Tk):mT (l++[a])=mT l++[.int .u8 a.kind,.string a.txt,iQ a.pos]:=by simp[mT]
theorem aVw(l:List Tk):∀k (a:k<zw l),(mT l)[k*3]?=Z (.int .u8 l[k].kind)/\(mT l)[k*3+1]?=Z (.string l[k].txt)/\(mT l)[k*3+2]?=Z (iQ l[k].pos):=by
 induction l with
 |nil=>intro k a;simp at a
 |cons x r ih=>
  grind[mT,List.getElem?_cons_succ]
theorem zL:(Tryz.prog.info? 93).map (λa=>(a.zero,a.size,a.bytes))=Z (Z (.agg #[.int .u8 0,.string ⟨#[]⟩,iQ 0]),3,32):=by kernel_rfl
theorem aVx(w:zs)(s d e:zp)(i:TypeId)(c:Nat)(g:c=w.heap.size):∀j b,[s,d,e][j]?=Z b->World.cell? (w.alloc (.cells #[s,d,e] i)) (((aQ c 0):Addr).add j)=Z b:=by
 subst g;intro j b a;match j,a with
 |0,a=>simp at a;subst a;simp[Addr.add]
 |1,a=>simp at a;subst a;simp[Addr.add]
 |2,a=>simp at a;subst a;simp[Addr.add]
 |j+3,a=>simp at a
theorem zM{c b:zs}{d e:zp}(a:Tk)(j:zt c w.heap.size 93 3 d (zw l) (mT l))(i:eS w.heap.size 93 w c)
  (m:zt b w.heap.size 93 3 e (zw l+1) (mT l++[.int .u8 a.kind,.string a.txt,iQ a.pos])) (g:World.grownBy c b (zb d)):zt b w.heap.size 93 3 e (zw (l++[a])) (mT (l++[a]))/\eS w.heap.size 93 w b:=by
 grind[eS.grownNew,aVv,yt]
def aD2:Option Nat->Int
 |none=>-1
 |some p=>p
def lY(s:ByteArray)(l:List Tk)(f k:Nat):List Tk×Option Nat:=(l++(cW s f k).1,(cW s f k).2)
theorem aVy(a:k<s.size)(b:lE (aG s k)=U):lY s l (f+1) k=lY s l f (k+1):=by simp[lY,cW,a,b]
theorem aVz(a:k<s.size)(b:aG s k=37):lY s l (f+1) k=lY s l f (jD s k):=by simp[lY,cW,a,b,lE]
theorem aW0{a:Nat}{b:Tk}(c:k<s.size)(e:lE (aG s k)=Y)(d:aG s k≠37)(g:fT s k=.tok b a):lY s l (f+1) k=lY s (l++[b]) f a:=by simp[lY,cW,c,e,d,g]
theorem aW1(a:k<s.size)(c:lE (aG s k)=Y)(b:aG s k≠37)(d:fT s k=.bad p):lY s l (f+1) k=(l,Z k):=by simp[lY,cW,a,c,b,d]
theorem aW2(a:¬k<s.size):lY s l (f+1) k=(l++[⟨101,⟨#[]⟩,k⟩],none):=by simp[lY,cW,a]
theorem aLp(a:(fC (aG s k) || eZ (aG s k))=U):fT s k=if fG s k-k > 20 then .bad k else .tok ⟨if eZ (aG s k) then 118 else 110,s.extract k (fG s k),k⟩ (fG s k):=by unfold fT;rw[aT a]
theorem aGe(b:(fC (aG s k) || eZ (aG s k))=false)(a:aG s k=39):fT s k=match mZ s k with|some (n,e)=>.tok ⟨110,n,k⟩ e|none=>.bad k:=by grind[mZ,fT]
theorem aLq(c:(fC (aG s k) || eZ (aG s k))=Y)(b:aG s k≠39)(a:aG s k=36):fT s k=if k+6<=s.size/\s.extract k (k+6)=⟨#[36,102,97,108,115,101]⟩ then .tok ⟨102,⟨#[]⟩,k⟩ (k+6) else .bad k:=by
 grind[fT]
theorem aGf(c:(fC (aG s k) || eZ (aG s k))=Y)(b:aG s k≠39)(a:aG s k≠36):fT s k=if oU (aG s k) then .tok ⟨aG s k,⟨#[]⟩,k⟩ (k+1) else .bad k:=by
 grind[fT]
end
section
open Go.Shelf Go.Proofs
def ren:Go.Shelf.Ren:=⟨fun|143=>177|144=>167|195=>168|196=>166|217=>175|219=>186|224=>162|225=>163|259=>176|266=>185|267=>189|314=>190|n=>n,fun|0=>0|3=>3|4=>4|5=>5|9=>9|12=>12|46=>222|51=>240|53=>237|119=>228|138=>230|139=>231|146=>241|n=>n,fun|1=>0|3=>1|4=>2|n=>n⟩
theorem aW3:Lays.n144 zu ren:={
 mixed:=by kernel_rfl
 f143:=Tryz.func177.trans (congrArg Z (by kernel_rfl))
 f144:=Tryz.func167.trans (congrArg Z (by kernel_rfl))
 f217:=Tryz.func175.trans (congrArg Z (by kernel_rfl))
 f219:=Tryz.func186.trans (congrArg Z (by kernel_rfl))
 f224:=Tryz.func162.trans (congrArg Z (by kernel_rfl))
 f225:=Tryz.func163.trans (congrArg Z (by kernel_rfl))
 f266:=Tryz.func185.trans (congrArg Z (by kernel_rfl))
 f267:=Tryz.func189.trans (congrArg Z (by kernel_rfl))
 f314:=Tryz.func190.trans (congrArg Z (by kernel_rfl))
 t3:=zo
 a3:=za
 z3:=zg
 v3:=zl
 t4:=zn
 a4:=z1
 z4:=zf
 v4:=zk
 t5:=yy
 a5:=yo
 z5:=yr
 v5:=yw
 t9:=zm
 a9:=z2
 z9:=ze
 v9:=zj
 t46:=zc
 a46:=yu
 z46:=yv
 v46:=z6
 t51:=Tryz.underlying240
 a51:=Tryz.isAgg240
 z51:=Tryz.sizeOf240
 v51:=Tryz.zeroValue240
 t146:=Tryz.underlying241
 a146:=Tryz.isAgg241
 z146:=Tryz.sizeOf241
 v146:=Tryz.zeroValue241
 g1:=by kernel_rfl}
theorem aW4:Lays.n195 zu ren:={
 mixed:=by kernel_rfl
 f195:=Tryz.func168.trans (congrArg Z (by kernel_rfl))
 t0:=yz
 a0:=yp
 z0:=ys
 v0:=yx
 t3:=zo
 a3:=za
 z3:=zg
 v3:=zl
 t4:=zn
 a4:=z1
 z4:=zf
 v4:=zk
 t9:=zm
 a9:=z2
 z9:=ze
 v9:=zj}
theorem aLr:Lays.n196 zu ren:={
 mixed:=by kernel_rfl
 f196:=Tryz.func166.trans (congrArg Z (by kernel_rfl))
 f259:=Tryz.func176.trans (congrArg Z (by kernel_rfl))
 t0:=yz
 a0:=yp
 z0:=ys
 v0:=yx
 t3:=zo
 a3:=za
 z3:=zg
 v3:=zl
 t4:=zn
 a4:=z1
 z4:=zf
 v4:=zk
 t5:=yy
 a5:=yo
 z5:=yr
 v5:=yw
 t9:=zm
 a9:=z2
 z9:=ze
 v9:=zj
 t12:=Tryz.underlying12
 a12:=Tryz.isAgg12
 z12:=Tryz.sizeOf12
 v12:=Tryz.zeroValue12
 t46:=zc
 a46:=yu
 z46:=yv
 v46:=z6
 t53:=Tryz.underlying237
 a53:=Tryz.isAgg237
 z53:=Tryz.sizeOf237
 v53:=Tryz.zeroValue237
 t119:=Tryz.underlying228
 a119:=Tryz.isAgg228
 z119:=Tryz.sizeOf228
 t138:=Tryz.underlying230
 a138:=Tryz.isAgg230
 z138:=Tryz.sizeOf230
 v138:=Tryz.zeroValue230
 t139:=Tryz.underlying231
 a139:=Tryz.isAgg231
 z139:=Tryz.sizeOf231
 v139:=Tryz.zeroValue231
 g3:=by kernel_rfl
 g4:=by kernel_rfl}
end
section
open Go.RowKit
theorem aLs{a:Int}(b:a<97\/122<a):fC a=false:=by unfold fC;simp;omega
theorem aLt{a:Int}(b:a<65\/90<a):eZ a=false:=by unfold eZ;simp;omega
def aLu(w:zs)(a:List Tk×Option Nat)(d:Ending)(c:zs):Prop:=
 ∃b,d=.returned (.tuple #[b,iQ (aD2 a.2)])/\zt c w.heap.size 93 3 b (zw a.1) (mT a.1)/\eS w.heap.size 93 w c
theorem aW5(s:ByteArray)(w:zs)(b7:s.size<=1000000):Calls zu 37 #[.string s] w λb e=>aLu w (cW s (s.size+1) 0) b e:=by
 go_enter Tryz.func37,Tryz.ntmps37;go_wp2;go_loopw[4,5] (λd3 F wr=>∃(k f:Nat) (l:List Tk),k<=s.size/\F=iQ k/\zw l<=k/\s.size<k+f/\cW s (s.size+1) 0=lY s l f k/\
   zt wr w.heap.size 93 3 d3 (zw l) (mT l)/\eS w.heap.size 93 w wr) (λ_ F _=>s.size-(intOf F).toNat)
 exact⟨0,s.size+1,[],ym _,rfl,ym _,by omega,by simp[lY],World.ownsRow_nil _ _ _ _,eS.refl _ _ _⟩;obtain⟨k,f,l,a8,rfl,e8,e6,J,d,a9⟩:=hrel;obtain⟨f,rfl⟩:∃c2,f=c2+1:=⟨f-1,by omega⟩;have A:=O a9;have e7:=a9.size;clear a9;by_cases a:k<s.size
 .have c8:(k:Int)<(s.size:Int):=by omega
  have x:=gH s k a;have m:=aPu ((s[k]'a).toNat:Int) wr;have j:=aPv ((s[k]'a).toNat:Int) wr;by_cases Q:lE (aG s k)=U
  .have c:=O (J.trans (aVy a Q));have u:=O d;have i:aG s k=32\/aG s k=9\/aG s k=10:=by unfold lE at Q;simp at Q;omega
   have z:fC ((s[k]'a).toNat:Int)=false:=aLs (by omega);have r:eZ ((s[k]'a).toNat:Int)=false:=aLt (by omega);have N:(((s[k]'a).toNat:Int)==32)=U\/(((s[k]'a).toNat:Int)==32)=Y/\(((s[k]'a).toNat:Int)==9)=U\/(((s[k]'a).toNat:Int)==32)=Y/\(((s[k]'a).toNat:Int)==9)=Y/\(((s[k]'a).toNat:Int)==10)=true:=by simp only[beq_iff_eq,beq_eq_false_iff_ne];omega
   rw[z]at m;rw[r]at j;clear J d Q i z r x;rcases N with N|⟨N,c5⟩|⟨N,c5,e5⟩;all_goals
    go_wp2_with(first
     |(go_at_call 67;refine m.mono ?_;rintro b e ⟨rfl,rfl⟩)
     |(go_at_call 68;refine j.mono ?_;rintro b e ⟨rfl,rfl⟩))
    exact⟨⟨k+1,f,l,by omega,by go_num,by omega,by omega,c.o,u.o,A.o⟩,by simp[intOf];omega⟩
  have R:lE (aG s k)=false:=by simpa using Q
  have d0:aG s k≠32/\aG s k≠9/\aG s k≠10:=by unfold lE at R;simp at R;omega
  have d8:(((s[k]'a).toNat:Int)==32)=false:=by rw[beq_eq_false_iff_ne];omega
  have e3:(((s[k]'a).toNat:Int)==9)=false:=by rw[beq_eq_false_iff_ne];omega
  have d5:(((s[k]'a).toNat:Int)==10)=false:=by rw[beq_eq_false_iff_ne];omega
  clear Q d0;by_cases M:aG s k=37
  .have c:=O (J.trans (aVz a M));have u:=O d;have z:fC ((s[k]'a).toNat:Int)=false:=aLs (by omega);have r:eZ ((s[k]'a).toNat:Int)=false:=aLt (by omega);have b9:(((s[k]'a).toNat:Int)==37)=true:=by rw[beq_iff_eq];omega
   have c6:=aB4 a M;have c7:=aD1 (Nat.le_of_lt a);rw[z]at m;rw[r]at j;clear J d R z r x M;go_wp2_with(first
    |(go_at_call 67;refine m.mono ?_;rintro b e ⟨rfl,rfl⟩)
    |(go_at_call 68;refine j.mono ?_;rintro b e ⟨rfl,rfl⟩))
   go_loop [5] (λF=>∃B:Nat,B<=s.size/\F=iQ B/\jD s B=jD s k) (λF=>s.size-(intOf F).toNat);exact⟨k,a8,rfl,rfl⟩;obtain⟨B,e9,rfl,b6⟩:=hrel;have L:=O b6;clear b6;by_cases X:B<s.size
   .have c9:(B:Int)<(s.size:Int):=by omega
    have b5:=gH s B X;by_cases a5:aG s B=10
    .have c4:(((s[B]'X).toNat:Int) != 10)=false:=by simp;omega
     have D:=O (L.o.symm.trans (aEk (λE=>E.2 a5)));clear L b5 a5;go_wp2;go_roundw;·exact⟨B,f,l,by omega,rfl,by have:=D.o;omega,by have:=D.o;omega,by rw[c.o,D.o],u.o,A.o⟩
     have:=D.o;simp[intOf];omega
    have c4:(((s[B]'X).toNat:Int) != 10)=true:=by simp;omega
    have D:=O (L.o.symm.trans (aEj X a5));clear L b5 a5;go_wp2;go_round;·exact⟨B+1,by omega,by go_num,D.o.symm⟩
    simp[intOf];omega
   have c9:¬(B:Int)<(s.size:Int):=by omega
   have D:=O (L.o.symm.trans (aEk (λE=>X E.1)));clear L;go_wp2;go_roundw;·exact⟨B,f,l,by omega,rfl,by have:=D.o;omega,by have:=D.o;omega,by rw[c.o,D.o],u.o,A.o⟩
   have:=D.o;simp[intOf];omega
  have b9:(((s[k]'a).toNat:Int)==37)=false:=by rw[beq_eq_false_iff_ne];omega
  have v:aE (∀b2 b,fT s k=.tok b2 b->lY s l (f+1) k=lY s (l++[b2]) f b):=O (λb2 b E=>aW0 a R M E);have o:aE (∀p,fT s k=.bad p->lY s l (f+1) k=(l,Z k)):=O (λp E=>aW1 a R M E);have g:=O J;clear J R M;by_cases H:(fC (aG s k) || eZ (aG s k))=U
  .have n:=O (aLp H);have a3:=bDo s k wr b7 a8;have c6:=aLo a H;have c7:=aI4 (s:=s) a8;generalize fG s k=b at *;by_cases r:eZ (aG s k)=U
   .have z:fC (aG s k)=false:=by unfold eZ at r;unfold fC;simp at r ⊢;omega
    rw[r]at n;rw[x]at r z;rw[z]at m;rw[r]at j;clear H z r x;by_cases T:b-k > 20
    .have c:=O (g.o.trans (o.o k (by rw[n.o,aT T])));have a7:(20:Int)<(b:Int)-(k:Int):=by omega
     have u:=O d;clear g o v n d;go_wp2_with(first
      |(go_at_call 67;refine m.mono ?_;rintro b e ⟨rfl,rfl⟩)
      |(go_at_call 68;refine j.mono ?_;rintro b e ⟨rfl,rfl⟩)
      |(go_at_call 69;refine a3.mono ?_;rintro b e ⟨rfl,rfl⟩))
     go_ret2;exact⟨_,by rw[c.o];rfl,by rw[c.o];exact u.o,A.o⟩
    have c:=O (g.o.trans (v.o ⟨118,s.extract k b,k⟩ b (by rw[n.o,aS T];rfl)));have a7:¬(20:Int)<(b:Int)-(k:Int):=by omega
    clear g o v n;go_wp2_with(first
     |(go_at_call 67;refine m.mono ?_;rintro b e ⟨rfl,rfl⟩)
     |(go_at_call 68;refine j.mono ?_;rintro b e ⟨rfl,rfl⟩)
     |(go_at_call 69;refine a3.mono ?_;rintro b e ⟨rfl,rfl⟩)
     |(at_builtin;refine eU zL zr ((d.alloc _).alloc _) ?_)
     |go_in)
    intro a0 a1 t i _;have q:=zM ⟨118,s.extract k b,k⟩ ((d.alloc _).alloc _) ((A.o.alloc _).alloc _) t i;clear t i d;go_wp2;exact⟨⟨b,f,l++[⟨118,s.extract k b,k⟩],by omega,by first|rfl|go_num,by simp;omega,by omega,c.o,q.1,q.2⟩,by simp[intOf];omega⟩
   have W:eZ (aG s k)=false:=by simpa using r
   have z:fC (aG s k)=true:=by rw[W]at H;simpa using H
   rw[W]at n;rw[x]at W z;rw[z]at m;rw[W]at j;clear H z r W x;by_cases T:b-k > 20
   .have c:=O (g.o.trans (o.o k (by rw[n.o,aT T])));have a7:(20:Int)<(b:Int)-(k:Int):=by omega
    have u:=O d;clear g o v n d;go_wp2_with(first
     |(go_at_call 67;refine m.mono ?_;rintro b e ⟨rfl,rfl⟩)
     |(go_at_call 68;refine j.mono ?_;rintro b e ⟨rfl,rfl⟩)
     |(go_at_call 69;refine a3.mono ?_;rintro b e ⟨rfl,rfl⟩))
    go_ret2;exact⟨_,by rw[c.o];rfl,by rw[c.o];exact u.o,A.o⟩
   have c:=O (g.o.trans (v.o ⟨110,s.extract k b,k⟩ b (by rw[n.o,aS T];rfl)));have a7:¬(20:Int)<(b:Int)-(k:Int):=by omega
   clear g o v n;go_wp2_with(first
    |(go_at_call 67;refine m.mono ?_;rintro b e ⟨rfl,rfl⟩)
    |(go_at_call 68;refine j.mono ?_;rintro b e ⟨rfl,rfl⟩)
    |(go_at_call 69;refine a3.mono ?_;rintro b e ⟨rfl,rfl⟩)
    |(at_builtin;refine eU zL zr ((d.alloc _).alloc _) ?_)
    |go_in)
   intro a0 a1 t i _;have q:=zM ⟨110,s.extract k b,k⟩ ((d.alloc _).alloc _) ((A.o.alloc _).alloc _) t i;clear t i d;go_wp2;exact⟨⟨b,f,l++[⟨110,s.extract k b,k⟩],by omega,by first|rfl|go_num,by simp;omega,by omega,c.o,q.1,q.2⟩,by simp[intOf];omega⟩
  have y:(fC (aG s k) || eZ (aG s k))=false:=by simpa using H
  have z:fC ((s[k]'a).toNat:Int)=false:=by rw[x]at y;exact(Bool.or_eq_false_iff.1 y).1
  have r:eZ ((s[k]'a).toNat:Int)=false:=by rw[x]at y;exact(Bool.or_eq_false_iff.1 y).2
  rw[z]at m;rw[r]at j;clear H z r;by_cases C:aG s k=39
  .have c0:(((s[k]'a).toNat:Int)==39)=true:=by rw[beq_iff_eq];omega
   have a2:=bDp s k wr b7 a;cases hqp:mZ s k with
   |none=>
    have c:=O (g.o.trans (o.o k (by rw[aGe y C,hqp])));rw[hqp]at a2;have u:=O d;clear g o v x C y hqp d;go_wp2_with(first
     |(go_at_call 67;refine m.mono ?_;rintro b e ⟨rfl,rfl⟩)
     |(go_at_call 68;refine j.mono ?_;rintro b e ⟨rfl,rfl⟩)
     |(go_at_call 70;refine a2.mono ?_;rintro b e ⟨rfl,rfl⟩;simp only[aI5]))
    go_ret2;exact⟨_,by rw[c.o];rfl,by rw[c.o];exact u.o,A.o⟩
   |some F=>
    obtain⟨b1,b⟩:=F;have c:=O (g.o.trans (v.o ⟨110,b1,k⟩ b (by rw[aGe y C,hqp])));obtain⟨f0,f1,d4⟩:=aLn hqp;rw[hqp]at a2;clear g o v x C y hqp d4;go_wp2_with(first
     |(go_at_call 67;refine m.mono ?_;rintro b e ⟨rfl,rfl⟩)
     |(go_at_call 68;refine j.mono ?_;rintro b e ⟨rfl,rfl⟩)
     |(go_at_call 70;refine a2.mono ?_;rintro b e ⟨rfl,rfl⟩;simp only[aI5])
     |(at_builtin;refine eU zL zr (d.alloc _) ?_)
     |go_in)
    intro a0 a1 t i _;have q:=zM ⟨110,b1,k⟩ (d.alloc _) (A.o.alloc _) t i;clear t i d;go_wp2;exact⟨⟨b,f,l++[⟨110,b1,k⟩],by omega,by first|rfl|go_num,by simp;omega,by omega,c.o,q.1,q.2⟩,by simp[intOf];omega⟩
  have c0:(((s[k]'a).toNat:Int)==39)=false:=by rw[beq_eq_false_iff_ne];omega
  by_cases G:aG s k=36
  .have b8:(((s[k]'a).toNat:Int)==36)=true:=by rw[beq_iff_eq];omega
   have n:=O (aLq y C G);by_cases b4:k+6<=s.size
   .have c3:¬(s.size:Int)<(k:Int)+6:=by omega
    by_cases P:s.extract k (k+6)=⟨#[36,102,97,108,115,101]⟩
    .have d1:((s.extract k (k+6)).toList==[36,102,97,108,115,101])=true:=by rw[P,ByteArray.toList_eq];rfl
     have c:=O (g.o.trans (v.o ⟨102,⟨#[]⟩,k⟩ (k+6) (by rw[n.o,aT ⟨b4,P⟩])));clear g o v x C G y n P;go_wp2_with(first
      |(go_at_call 67;refine m.mono ?_;rintro b e ⟨rfl,rfl⟩)
      |(go_at_call 68;refine j.mono ?_;rintro b e ⟨rfl,rfl⟩)
      |(at_builtin;refine eU zL zr (d.alloc _) ?_)
      |go_in)
     intro a0 a1 t i _;have q:=zM ⟨102,⟨#[]⟩,k⟩ (d.alloc _) (A.o.alloc _) t i;clear t i d;go_wp2;exact⟨⟨k+6,f,l++[⟨102,⟨#[]⟩,k⟩],by omega,by first|rfl|go_num,by simp;omega,by omega,c.o,q.1,q.2⟩,by simp[intOf];omega⟩
    have d1:((s.extract k (k+6)).toList==[36,102,97,108,115,101])=false:=by
     rw[beq_eq_false_iff_ne];exact λd2=>P (xT.1 (d2.trans (by rw[ByteArray.toList_eq])))
    have c:=O (g.o.trans (o.o k (by rw[n.o,aS (λE=>P E.2)])));have u:=O d;clear g o v x C G y d n P;go_wp2_with(first
     |(go_at_call 67;refine m.mono ?_;rintro b e ⟨rfl,rfl⟩)
     |(go_at_call 68;refine j.mono ?_;rintro b e ⟨rfl,rfl⟩))
    go_ret2;exact⟨_,by rw[c.o];rfl,by rw[c.o];exact u.o,A.o⟩
   have c3:(s.size:Int)<(k:Int)+6:=by omega
   have c:=O (g.o.trans (o.o k (by rw[n.o,aS (λE=>b4 E.1)])));have u:=O d;clear g o v x C G y d n;go_wp2_with(first
    |(go_at_call 67;refine m.mono ?_;rintro b e ⟨rfl,rfl⟩)
    |(go_at_call 68;refine j.mono ?_;rintro b e ⟨rfl,rfl⟩))
   go_ret2;exact⟨_,by rw[c.o];rfl,by rw[c.o];exact u.o,A.o⟩
  have b8:(((s[k]'a).toNat:Int)==36)=false:=by rw[beq_eq_false_iff_ne];omega
  by_cases I:oU (aG s k)=U
  .have c:=O (g.o.trans (v.o ⟨(s[k]'a).toNat,⟨#[]⟩,k⟩ (k+1) (by rw[aGf y C G,aT I,x])));have b0:aG s k=124\/aG s k=126\/aG s k=40\/aG s k=41\/aG s k=44\/aG s k=46:=by unfold oU at I;simp at I;omega
   have N:((((s[k]'a).toNat:Int)==124)=U)\/((((s[k]'a).toNat:Int)==124)=Y/\(((s[k]'a).toNat:Int)==126)=U)\/((((s[k]'a).toNat:Int)==124)=Y/\(((s[k]'a).toNat:Int)==126)=Y/\(((s[k]'a).toNat:Int)==40)=U)\/((((s[k]'a).toNat:Int)==124)=Y/\(((s[k]'a).toNat:Int)==126)=Y/\(((s[k]'a).toNat:Int)==40)=Y/\(((s[k]'a).toNat:Int)==41)=U)\/((((s[k]'a).toNat:Int)==124)=Y/\(((s[k]'a).toNat:Int)==126)=Y/\(((s[k]'a).toNat:Int)==40)=Y/\(((s[k]'a).toNat:Int)==41)=Y/\(((s[k]'a).toNat:Int)==44)=U)\/((((s[k]'a).toNat:Int)==124)=Y/\(((s[k]'a).toNat:Int)==126)=Y/\(((s[k]'a).toNat:Int)==40)=Y/\(((s[k]'a).toNat:Int)==41)=Y/\(((s[k]'a).toNat:Int)==44)=Y/\(((s[k]'a).toNat:Int)==46)=U):=by simp only[beq_iff_eq,beq_eq_false_iff_ne];omega
   clear g o v x C G y I b0;rcases N with S|⟨S,a4⟩|⟨S,a4,a6⟩|⟨S,a4,a6,b3⟩|⟨S,a4,a6,b3,c1⟩|⟨S,a4,a6,b3,c1,e4⟩;all_goals
    go_wp2_with(first
     |(go_at_call 67;refine m.mono ?_;rintro b e ⟨rfl,rfl⟩)
     |(go_at_call 68;refine j.mono ?_;rintro b e ⟨rfl,rfl⟩)
     |(at_builtin;refine eU zL zr (d.alloc _) ?_)
     |go_in)
    intro a0 a1 t i _;have q:=zM ⟨(s[k]'a).toNat,⟨#[]⟩,k⟩ (d.alloc _) (A.o.alloc _) t i;clear t i d;go_wp2;exact⟨⟨k+1,f,l++[⟨(s[k]'a).toNat,⟨#[]⟩,k⟩],by omega,by first|rfl|go_num,by simp;omega,by omega,c.o,q.1,q.2⟩,by simp[intOf];omega⟩
  have c:=O (g.o.trans (o.o k (by rw[aGf y C G];simp[I])));have b0:aG s k≠124/\aG s k≠126/\aG s k≠40/\aG s k≠41/\aG s k≠44/\aG s k≠46:=by unfold oU at I;simp at I;omega
  have d6:(((s[k]'a).toNat:Int)==124)=false:=by rw[beq_eq_false_iff_ne];omega
  have d7:(((s[k]'a).toNat:Int)==126)=false:=by rw[beq_eq_false_iff_ne];omega
  have d9:(((s[k]'a).toNat:Int)==40)=false:=by rw[beq_eq_false_iff_ne];omega
  have e0:(((s[k]'a).toNat:Int)==41)=false:=by rw[beq_eq_false_iff_ne];omega
  have e1:(((s[k]'a).toNat:Int)==44)=false:=by rw[beq_eq_false_iff_ne];omega
  have e2:(((s[k]'a).toNat:Int)==46)=false:=by rw[beq_eq_false_iff_ne];omega
  have u:=O d;clear g o v x C G y I b0 d;go_wp2_with(first
   |(go_at_call 67;refine m.mono ?_;rintro b e ⟨rfl,rfl⟩)
   |(go_at_call 68;refine j.mono ?_;rintro b e ⟨rfl,rfl⟩))
  go_ret2;exact⟨_,by rw[c.o];rfl,by rw[c.o];exact u.o,A.o⟩
 have c8:¬(k:Int)<(s.size:Int):=by omega
 have c:=O (J.trans (aW2 a));clear J;go_wp2_with(first
  |(at_builtin;refine eU zL zr (d.alloc _) ?_)
  |go_in)
 intro a0 a1 t i _;have q:=zM ⟨101,⟨#[]⟩,k⟩ (d.alloc _) (A.o.alloc _) t i;clear t i d;go_wp2;go_ret2;exact⟨_,by rw[c.o];rfl,by rw[c.o];exact q.1,q.2⟩
end
