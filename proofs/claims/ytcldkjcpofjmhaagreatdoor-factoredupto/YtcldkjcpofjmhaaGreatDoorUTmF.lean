import Derived.Test.YtcldkjcpofjmhaaGreatDoorBMarkF
import Derived.Test.YtcldkjcpofjmhaaGreatDoorUEnds0F
import Derived.RangeFuncNested
import Derived.RangeFuncBound
import Derived.RangeFuncCalls
import Derived.RangeFuncLeaves
import Derived.Lib.AppendZerosOnto
import Derived.DeepKeys4
import Derived.Deep.RegionLaw
import Derived.Shelf.RegionOpen
import Derived.OwnWalkIn
import Derived.TacticsInMore
import Derived.LoopNIn
import Derived.LoopIn
import Derived.Sort.QuietIn
open Array renaming getElem?_eq_some_iff→zx
open List renaming replicate→zw,drop_drop→zs,getElem?_eq_some_iff→zr
open Nat renaming le_refl→zy
namespace Go.Proofs.YtcldkjcpofjmhaaGreatDoor
open _root_.Go.Proofs.Tryz renaming prog→zz,underlying168→zu,underlying135→zt,underlying3→zq,underlying25→zm
open Value renaming int→zv,ownBlock→zn
open World renaming cell?→zo
set_option maxHeartbeats 2000000
set_option maxRecDepth 100000
open Go.RowKit Go.Shelf Go.WideMaps
variable{n:Nat}{k:TypeId}{v:Value}{a:World}
def eG(L:List Nd):List Nat:=(List.range L.length).map λp=>p+aH (L.drop p) 1
theorem gV(L:List Nd):(eG L).length=L.length:=by simp [eG]
theorem vQ(L:List Nd)(p:Nat)(h:p<L.length):(eG L)[p]?=some (p+aH (L.drop p) 1):=by simp [eG,h]
abbrev iP(l:List Nat):List Value:=l.map λx:Nat=>zv .i64 x
structure bF(w:World)(B tb:Nat)(vn ve vl vs vm:Value)(L:List Nd)(F:List Nat)(S:List Int):Prop where
 box:w.heap[tb]?=some (.cells #[vn,ve,vl,vs,vm] 137)
 high:B<=tb
 rn:w.ownsRow B 36 2 vn L.length (aG L)
 re:w.ownsRow B 3 1 ve L.length (iP (eG L))
 rl:w.ownsRow B 3 1 vl L.length (iP F)
 rs:w.ownsRow B 3 1 vs L.length (S.map (zv .i64))
 lf:F.length=L.length
 ls:S.length=L.length
 few:L.length<=1000000
 short:∀n∈L,n.1.size<=140737488355328
 ab:ve.ownBlock≠vl.ownBlock
 ac:ve.ownBlock≠vs.ownBlock
 bc:vl.ownBlock≠vs.ownBlock
section
variable {w:World}{B tb:Nat}{vn ve vl vs vm:Value}{L:List Nd}{F:List Nat}{S:List Int}
theorem bF.c0(h:bF w B tb vn ve vl vs vm L F S):w.cell? ⟨tb,0,none⟩=some vn:=by simp [zo,h.box]
theorem bF.c1(h:bF w B tb vn ve vl vs vm L F S):w.cell? ⟨tb,1,none⟩=some ve:=by simp [zo,h.box]
theorem bF.c2(h:bF w B tb vn ve vl vs vm L F S):w.cell? ⟨tb,2,none⟩=some vl:=by simp [zo,h.box]
theorem bF.c3(h:bF w B tb vn ve vl vs vm L F S):w.cell? ⟨tb,3,none⟩=some vs:=by simp [zo,h.box]
theorem aD7{w:World}{B:Nat}{l:List Nat}(h:w.ownsRow B 3 1 v n (iP l))(hl:l.length=n) :
  ∃a cap,v=.slice a n cap/\∀k (h:k<l.length),∃g,a=some ⟨g,0,none⟩/\w.cell? ⟨g,k,none⟩=some (.int .i64 l[k]):=by
 subst hl;exact sO h
theorem aW2{w:World}{B:Nat}{l:List Int}(h:w.ownsRow B 3 1 v n (l.map (zv .i64)))(hl:l.length=n) :
  ∃a cap,v=.slice a n cap/\∀k (h:k<l.length),∃g,a=some ⟨g,0,none⟩/\w.cell? ⟨g,k,none⟩=some (.int .i64 l[k]):=by
 subst hl;exact aB9 h
theorem bF.below(h:bF w B tb vn ve vl vs vm L F S){wx:World}(k:Below w.heap.size w wx):bF wx B tb vn ve vl vs vm L F S:=
 ⟨by rw [k.block tb (zx.1 h.box).1,h.box],h.high,aU h.rn k (zy _),aU h.re k (zy _),aU h.rl k (zy _),aU h.rs k (zy _),h.lf,h.ls,h.few,h.short,h.ab,h.ac,h.bc⟩
theorem bF.drewN(h:bF w B tb vn ve vl vs vm L F S)(d:Nat):bF (w.drewN d) B tb vn ve vl vs vm L F S:=h.below (aI ⟨d,rfl⟩)
theorem bF.grown(h:bF w B tb vn ve vl vs vm L F S){wx:World}{o:Option Nat}(hg:w.grownBy wx o)(h0:o≠some tb)(h1:vn.ownBlock=none\/vn.ownBlock≠o)(h2:ve.ownBlock=none\/ve.ownBlock≠o)(h3:vl.ownBlock=none\/vl.ownBlock≠o)(h4:vs.ownBlock=none\/vs.ownBlock≠o):bF wx B tb vn ve vl vs vm L F S:=
 ⟨by rw [hg.block tb (zx.1 h.box).1 (λe=>h0 e.symm),h.box],h.high,cH h.rn hg h1,cH h.re hg h2,cH h.rl hg h3,cH h.rs hg h4,h.lf,h.ls,h.few,h.short,h.ab,h.ac,h.bc⟩
theorem xN{w:World}{B:Nat}{e:TypeId}{size:Nat}{xs:List Value}(h:w.ownsRow B e size v n xs){r:Nat}(hr:v.ownBlock=some r):∃o:Obj,w.heap[r]?=some o/\o.isCells=true:=by
 obtain ⟨_,⟨rfl,_⟩ | ⟨g,cap,cur,rfl,_,hg,_⟩⟩:=h
 ·simp [zn] at hr
 ·simp [zn] at hr;subst hr;exact ⟨_,hg,rfl⟩
theorem xO{w:World}{B:Nat}{e:TypeId}{size:Nat}{xs:List Value}(h:w.ownsRow B e size v n xs){o:Option Nat}(ho:∀r,o=some r->∃x:Obj,w.heap[r]?=some x/\x.isCells=false):v.ownBlock=none\/v.ownBlock≠o:=by
 cases hv:v.ownBlock with
 | none=>exact Or.inl rfl
 | some g=>
  right;intro e;obtain ⟨x,h1,h2⟩:=ho g e.symm;obtain ⟨y,h3,h4⟩:=xN h hv;rw [h1] at h3;simp at h3;subst h3;rw [h2] at h4;cases h4
theorem bF.others(h:bF w B tb vn ve vl vs vm L F S){wx:World}{o:Option Nat}(hg:w.grownBy wx o)(ho:∀r,o=some r->∃x:Obj,w.heap[r]?=some x/\x.isCells=false):bF wx B tb vn ve vl vs vm L F S:=
 h.grown hg (λe=>by obtain ⟨x,h1,h2⟩:=ho tb e;rw [h.box] at h1;simp at h1;subst h1;cases h2) (xO h.rn ho) (xO h.re ho) (xO h.rl ho) (xO h.rs ho)
theorem aJo(F:List Nat)(a b:Nat):(iP F).set a (.int .i64 b)=iP (F.set a b):=by rw [<-List.map_set]
theorem bF.lead{gl cl:Nat}(h:bF w B tb vn ve (.slice (some ⟨gl,0,none⟩) L.length cl) vs vm L F S)(a b:Nat):bF (w.setCell ⟨gl,a,none⟩ (.int .i64 b)) B tb vn ve (.slice (some ⟨gl,0,none⟩) L.length cl) vs vm L (F.set a b) S/\w.grownBy (w.setCell ⟨gl,a,none⟩ (.int .i64 b)) (some gl):=by
 have hg:=bR w ⟨gl,a,none⟩ (.int .i64 b);refine ⟨⟨?_,h.high,cH h.rn hg ?_,cH h.re hg (Or.inr h.ab),?_,cH h.rs hg (Or.inr λe=>h.bc e.symm),by rw [List.length_set];exact h.lf,h.ls,h.few,h.short,h.ab,h.ac,h.bc⟩,hg⟩
 ·rw [hg.block tb (zx.1 h.box).1 (λe=>cE h.rl h.box (by decide) e.symm),h.box]
 ·rcases bW h.rn h.rl (by decide) with e | e
  ·exact Or.inl e
  ·exact Or.inr e
 ·have r:=(h.rl.stored a (.int .i64 b)).1;rw [aJo] at r;exact r
end
theorem aD8(B tb:Nat)(vn ve vl vs vm:Value)(L:List Nd)(F:List Nat)(S:List Int)(rt d:Nat->Nat)(p:Nat)(w:World)(h:bF w B tb vn ve vl vs vm L F S)(hF:gB F rt d)(hp:p<L.length) :
  Calls zz 114 #[.pointer (some ⟨tb,0,none⟩),.int .i64 p] w λe w'=>e=.returned (.int .i64 (rt p))/\w'=w:=by
 obtain ⟨al,cl,rfl,hl⟩:=aD7 h.rl h.lf;have c2:=h.c2;have HL:=aA hl;have HF:=aA hF;have hlf:=h.lf;have hfew:=h.few;have HLF:=aA hlf;clear hl hF h hlf;go_enter Tryz.func114,Tryz.ntmps114;go_wp2;go_loop [1] (λq=>∃k:Nat,k<L.length/\rt k=rt p/\q=.int .i64 k) (λq=>d (intOf q).toNat);case atStart=>exact ⟨p,hp,rfl,rfl⟩
 case round=>
  obtain ⟨k,hk,hr,rfl⟩:=hrel;obtain ⟨g,rfl,e1⟩:=HL.out k (by rw [HLF.out];exact hk);have hki:(k:Int)<(L.length:Int):=by omega
  have hkf:k<F.length:=by rw [HLF.out];exact hk
  have hq:F[k]?=some F[k]:=List.getElem?_eq_getElem hkf;have hql:=HF.out.lt k _ hq;have hst:=HF.out.step k _ hq;have hro:=HF.out.root k;generalize F[k]=q at *;by_cases e:q=k
  ·have HR:Hid (rt p=k):=aA (by rw [<-hr];exact hro (by rw [hq,e]));have hb:((q:Int) != (k:Int))=false:=by rw [e];simp
   clear hst hro hq hr;subst e;clear hb;go_wp2;go_ret;exact ⟨kM (by rw [HR.out]),rfl⟩
  ·have hb:((q:Int) != (k:Int))=true:=by rw [bne_iff_ne];omega
   have HS:=aA (hst e);have HR:=aA hr;have HQ:=aA (show q<L.length by rw [<-HLF.out];exact hql);clear hst hro hq hr hql;go_wp2;go_round;case rel=>exact ⟨q,HQ.out,by rw [<-HS.out.1];exact HR.out,rfl⟩
   case measure=>have:=HS.out.2;simpa [intOf] using this
theorem aW3:laidOutB zz=true:=by kernel_rfl
theorem xP:Maps.Keyed zz 168:=Maps.Keyed.of_law (deep_law_laid aW3 (m:=2) (by decide) (of_decide_eq_true (by kernel_rfl)) (by kernel_rfl) (by kernel_rfl))
def oQ(o x:Int):Value:=.agg #[.int .i64 o,.int .i64 x]
theorem aW4(n:Nat)(o x:Int)(wo:(Lit.int .i64 o).wf=true)(wx:(Lit.int .i64 x).wf=true):zz.keyLits (n+1+1) 168 [.int .i64 o,.int .i64 x]=some [.int .i64 o,.int .i64 x]:=by
 have hc:zz.cellsOf 168=2:=by kernel_rfl
 have hci:zz.cellsOf 3=1:=by kernel_rfl
 unfold Program.keyLits;simp only [zu,hc];simp [List.mapM_cons,Program.keyLits,zq,hci,wo,wx]
theorem aW5(o x:Int)(ho : -1000000000<=o/\o<=1000000000)(hx : -1000000000<=x/\x<=1000000000):∃kl,keyOf zz 168 (oQ o x)=some kl:=by
 have hk:zz.keyType 168=true:=by kernel_rfl
 have hc:zz.cellsOf 168=2:=by kernel_rfl
 have hs:zz.types.size+1=(zz.types.size-1)+1+1:=by have:0<zz.types.size:=of_decide_eq_true (by kernel_rfl);omega
 have hform:(oQ o x).formed zz 168=true:=by unfold Value.formed oQ;simp only [zu,hc];rfl
 unfold keyOf;simp only [zu,hk,hform,Bool.and_self,if_true];rw [hs];have:=aW4 (zz.types.size-1) o x (aCc ho.1 ho.2) (aCc hx.1 hx.2);exact ⟨_,by rw [show (oQ o x).cells.toList=[.int .i64 o,.int .i64 x] from rfl,this];rfl⟩
theorem aJp(k:Nat):(Builtin.zeroCells (zv .i64 0).cells k).toList=zw k (.int .i64 0):=by
 apply List.ext_getElem?;intro j;have h1:(zv .i64 0).cells=#[.int .i64 0]:=rfl;rw [h1];by_cases hj:j<k
 ·simp [Builtin.zeroCells,hj,Nat.mod_one]
 ·simp [Builtin.zeroCells,hj]
theorem aJq(w:World)(ty:TypeId)(base:Nat)(v:Value)(n k:Nat)(xs:List Value)(hown:w.ownsRow base 3 1 v n xs)(hv:v.ownBlock≠none)(hk:0<k)(hb:n+k<=1000000)(hbase:base<=w.heap.size) :
  ∃v' w',(Builtin.append_ #[25,3] ty #[v,.int .i64 k]).run zz w=.ok v' w'/\w'.ownsRow base 3 1 v' (n+k) (xs++zw k (.int .i64 0))/\w.grownBy w' v.ownBlock/\(v'.ownBlock=v.ownBlock\/v'.ownBlock=some w.heap.size):=by
 obtain ⟨i,hi,hz,hs,hy⟩:=info_parts pB;have hlen:(xs++zw k (zv .i64 0)).length=(n+k)*1:=by rw [List.length_append,hown.1];simp
 rcases hown.2 with ⟨rfl,rfl⟩ | ⟨g,cap,cur,rfl,hbg,hg,hnc,hcm,hcs,htake⟩
 ·exact absurd rfl hv
 ·by_cases hroom:n+k<=cap
  ·have hst:=run_storeCells_at zz g n 3 (zw k (zv .i64 0)) 0 cur w hg (by simp;omega) (by intro u hu;rw [List.eq_of_mem_replicate hu];rfl);have hw:IntKind.i64.wrap (k:Int)=k:=by rw [IntKind.wrap_i64];omega
   have hneg:¬((k:Int)<0):=by omega
   have h48i:¬(281474976710656<(k:Int)*8):=by omega
   have hk0:k≠0:=by omega
   refine ⟨.slice (some ⟨g,0,none⟩) (n+k) cap,w.setRow g (cur.toList.take n++zw k (zv .i64 0)++cur.toList.drop (n+k)).toArray,?_,⟨hlen,.inr ⟨g,cap,_,rfl,hbg,setRow_heap w g cur _ 3 _ hg,hroom,hcm,?_,?_⟩⟩,⟨rfl,rfl,rfl,by simp,λj _ hj=>setRow_other w g j _ (λe=>hj (by simp [zn,e]))⟩,Or.inl rfl⟩
   ·simp [Builtin.append_,run_underlying zm,run_underlying zq,sizeOf,typeInfo,zeroValue,hi,hz,hs,hy,asInt,asIntOf,hw,hneg,h48i,hroom,hk0,Addr.add_lit,aJp];rw [hst];simp
   ·simp;omega
   ·rw [Nat.mul_one] at htake ⊢;have hx:xs.length=n:=by have:=hown.1;omega
    rw [htake,<-show (xs++zw k (zv .i64 0)).length=n+k by simp [hx]];exact List.take_left
  ·have holds:∀j u,xs[j]?=some u->w.cell? ((⟨g,0,none⟩ : Addr).add j)=some u:=hown.cells (g:=g) rfl;have hf:=run_firstCells_some (P:=zz) w.drew i.size n ⟨g,0,none⟩ n cap xs (by rw [hs];exact hown.1) (λj u hu=>holds j u hu);have hr:=Go.Lib.run_append_grow_zeros (P:=zz) w 25 3 ty 3 i (.int .i64 0) .i64 .i64 zm zq hi hz (some ⟨g,0,none⟩) n cap xs hf k hk (by omega) (by omega) (by omega) (by rw [hy];omega) (growslice_fits (by omega) (by rw [hy];omega));have hge:=grownCap_ge w (n+k) cap 3;have hcm':grownCap w (n+k) cap 3<=maxLen:=grownCap_le_maxLen w (n+k) cap 3 (by unfold maxLen;omega);refine ⟨_,_,hr,⟨hlen,.inr ⟨w.heap.size,_,_,rfl,hbase,heap_alloc_new w.drew _,hge,hcm',?_,?_⟩⟩,⟨rfl,rfl,rfl,by simp,λj hj _=>Below.heap_alloc w.drew _ j hj⟩,Or.inr rfl⟩
   ·simp [size_zeroCells,hown.1,Value.cells];omega
   ·rw [Nat.mul_one];simp only [Array.toList_append,aJp];rw [<-show (xs++zw k (zv .i64 0)).length=n+k by rw [hlen];omega];exact List.take_left
abbrev Tg:=Int×Nd
def fF(o x:Int)(p:Tg):Bool:=aF p.2 && (decide (p.1=o) && decide (p.2.2=x))
def jA(M:List Tg)(o x:Int):Option Nat:=M.findIdx? (fF o x)
theorem aD9(M:List Tg)(p:Tg)(o x:Int):jA (M++[p]) o x=(jA M o x).or (if fF o x p then some M.length else none):=by
 unfold jA;rw [List.findIdx?_append];congr 1
 by_cases h:fF o x p=true <;> simp [h]
def mO(M:List Tg)(o:Int)(n:Nd):Nat:=if aF n then (jA M o n.2).getD M.length else M.length
structure mP(D:DataW Unit)(M:List Tg):Prop where
 tidy:Maps.Tidy D
 old:∀o x kl p,keyOf zz 168 (oQ o x)=some kl->jA M o x=some p->Maps.has D kl=true/\∀z,D.atKey kl z=.lit (.int .i64 p)
 new:∀o x kl,keyOf zz 168 (oQ o x)=some kl->jA M o x=none->Maps.has D kl=false
theorem mP.start:mP (.map []) []:=⟨⟨[],rfl,by simp⟩,λo x kl p _ h=>by simp [jA] at h,λ_ _ _ _ _=>rfl⟩
theorem mP.skip{D:DataW Unit}{M:List Tg}(h:mP D M){p:Tg}(hp:aF p.2=false\/jA M p.1 p.2.2≠none):mP D (M++[p]):=by
 have key:∀o x,jA (M++[p]) o x=jA M o x:=by
  intro o x;rw [aD9];cases hf:jA M o x with
  | some q=>rfl
  | none=>
   have:fF o x p=false:=by
    rcases hp with hp | hp
    ·simp [fF,hp]
    ·by_cases e:fF o x p=true
     ·simp [fF] at e;rw [e.2.1,e.2.2] at hp;exact absurd hf hp
     ·simpa using e
   simp [this]
 exact ⟨h.tidy,λo x kl q hk hq=>h.old o x kl q hk (by rw [<-key];exact hq),λo x kl hk hq=>h.new o x kl hk (by rw [<-key];exact hq)⟩
theorem aW6{o x o' x':Int}(h:oQ o x=oQ o' x'):o=o'/\x=x':=by simpa [oQ] using h
theorem mP.put{D:DataW Unit}{M:List Tg}(h:mP D M){o:Int}{n:Nd}(hv:aF n=true)(hf:jA M o n.2=none){kl:Lit}(hk:keyOf zz 168 (oQ o n.2)=some kl) :
  mP (D.put kl (.lit (.int .i64 M.length))) (M++[(o,n)]):=by
 have hkey:=xP.key hk;have hne:∀o' x' kl',keyOf zz 168 (oQ o' x')=some kl'->¬(o'=o/\x'=n.2)->kl'≠kl:=by rintro o' x' kl' hk' hn rfl;exact hn (aW6 (xP.inj hk' hk))
 have hiv:∀o' x',fF o' x' (o,n)=true↔(o'=o/\x'=n.2):=by
  intro o' x';simp [fF,hv];constructor
  ·rintro ⟨rfl,rfl⟩;exact ⟨rfl,rfl⟩
  ·rintro ⟨rfl,rfl⟩;exact ⟨rfl,rfl⟩
 refine ⟨h.tidy.put hkey _,λo' x' kl' q hk' hq=>?_,λo' x' kl' hk' hq=>?_⟩
 ·rw [aD9] at hq;by_cases he:o'=o/\x'=n.2
  ·obtain ⟨rfl,rfl⟩:=he;rw [hf,(hiv _ _).2 ⟨rfl,rfl⟩] at hq;simp at hq;subst hq;rw [hk] at hk';simp at hk';subst hk';exact ⟨Maps.has_put_same h.tidy.isMap hkey _,λz=>Maps.atKey_put_same h.tidy.isMap hkey _ _⟩
  ·have hq':jA M o' x'=some q:=by
    cases hfo:jA M o' x' with
    | some r=>rw [hfo] at hq;simpa using hq
    | none=>
     rw [hfo] at hq;have:fF o' x' (o,n)=false:=by rw [<-Bool.not_eq_true,hiv];exact he
     simp [this] at hq
   have ho:=h.old o' x' kl' q hk' hq';have hn:=hne o' x' kl' hk' he;exact ⟨by rw [Maps.has_put_other hn];exact ho.1,λz=>by rw [Maps.atKey_put_other hn];exact ho.2 z⟩
 ·rw [aD9] at hq;by_cases he:o'=o/\x'=n.2
  ·rw [(hiv _ _).2 he] at hq;cases hfo:jA M o' x' with
   | some r=>rw [hfo] at hq;simp at hq
   | none=>rw [hfo] at hq;simp at hq
  ·have hq':jA M o' x'=none:=by
    cases hfo:jA M o' x' with
    | some r=>rw [hfo] at hq;simp at hq
    | none=>rfl
   rw [Maps.has_put_other (hne o' x' kl' hk' he)];exact h.new o' x' kl' hk' hq'
theorem aDa{mp:Nat}{D:DataW Unit}{b:World}(h:a.ownsMap zz k fW mp n D)(hb:b.heap[mp]?=a.heap[mp]?):b.ownsMap zz k fW mp n D:=by obtain ⟨es,clock,hh,hr⟩:=h;exact ⟨es,clock,by rw [hb];exact hh,hr⟩
theorem aDb{mp:Nat}{D:DataW Unit}(h:a.ownsMap zz k fW mp n D):mp<a.heap.size:=by obtain ⟨es,clock,hh,_⟩:=h;exact (zx.1 hh).1
theorem rD{mp:Nat}{D:DataW Unit}{b:World}(h:a.ownsMap zz k fW mp n D)(hb:Below a.heap.size a b):b.ownsMap zz k fW mp n D:=aDa h (hb.block mp (aDb h))
theorem aW7(tb mp nm cn:Nat)(an:Option Addr)(D:DataW Unit)(M:List Tg)(o:Int)(s:ByteArray)(x:Int)(w:World)(c0:w.cell? ⟨tb,0,none⟩=some (.slice an M.length cn))(c4:w.cell? ⟨tb,4,none⟩=some (.map (some mp)))
  (hown:w.ownsMap zz 168 fW mp nm D) (hD:mP D M) (hn:nm<=M.length) (hM:M.length<=1000000) (ho : -1000000000<=o/\o<=1000000000) (hx : -1000000000<=x/\x<=1000000000) :
  Calls zz 90 #[.pointer (some ⟨tb,0,none⟩),.int .i64 o,.agg #[.string s,.int .i64 x]] w λe w'=>∃nm' D',e=.returned (.int .i64 (mO M o (s,x)))/\w'.ownsMap zz 168 fW mp nm' D'/\mP D' (M++[(o,(s,x))])/\nm'<=M.length+1/\w.grownBy w' (some mp):=by
 have htb:tb<w.heap.size:=World.block_lt_of_cell? w _ c4;have CV:=aA (λwx=>qS s x wx);by_cases hv:s.toList.isEmpty=true
 ·have hvb:aF (s,x)=true:=hv;rw [hv] at CV;obtain ⟨kl,hkey⟩:=aW5 o x ho hx;have HO:=aA hown;have HD:=aA hD;have HK:=aA hkey;clear hown hD hv ho hx;go_enter Tryz.func90,Tryz.ntmps90;go_wp2_with (first
   | (go_at_call 83;refine (aB CV _).mono ?_;rintro e w1 ⟨rfl,hb1⟩;have hb:Below w.heap.size w w1:=((Below.refl _ _).alloc (zy _) _).trans (hb1.mono (by simp));have k0:=Below.at' hb (zy _) c0;have k4:=Below.at' hb (zy _) c4;have x1:w1.cell? ⟨w.heap.size,1,none⟩=some (.int .i64 x):=Below.at' hb1 (zy _) (by simp);have HB:=aA hb;clear hb hb1)
   | go_in)
  have hbk:Below w1.heap.size w1 (w1.alloc (.cells #[.int .i64 o,.int .i64 x] 168)):=(Below.refl _ _).alloc (zy _) _;have q0:=Below.at' hbk (zy _) k0;have q4:=Below.at' hbk (zy _) k4;have hwk:w.heap.size<=w1.heap.size:=HB.out.size;have HB2:=aA (HB.out.trans (hbk.mono hwk));have v0:(w1.alloc (.cells #[.int .i64 o,.int .i64 x] 168)).cell? ⟨w1.heap.size,0,none⟩=some (.int .i64 o):=by simp
  have v1:(w1.alloc (.cells #[.int .i64 o,.int .i64 x] 168)).cell? ⟨w1.heap.size,1,none⟩=some (.int .i64 x):=by simp
  generalize w1.alloc (.cells #[.int .i64 o,.int .i64 x] 168)=w2 at *;have HO2:=aA (rD HO.out HB2.out);clear k0 k4 x1 hbk hkey c0 c4;cases hf:jA M o x with
  | some p=>
   have hol:=HD.out.old o x kl p HK.out hf;have HR:Hid (mO M o (s,x)=p):=aA (by unfold mO;rw [hvb];simp [hf]);have HD2:=aA (HD.out.skip (p:=(o,(s,x))) (Or.inr (by simp [hf])));have hrun:∀wx:World,wx.ownsMap zz 168 fW mp nm D->(Instr.lookup 135 (.map (some mp)) (.agg #[.int .i64 o,.int .i64 x]) true).run zz wx=.ok (.tuple #[.int .i64 p,.bool true]) wx:=λwx hx=>by
    obtain ⟨v,ps,h1,h2⟩:=hx.look_ok xP zt (Tryz.zeroValue3 _) (zd:=.lit (.int .i64 0)) (zp:=[]) rfl HK.out;rw [hol.2] at h2;have h3:=zL h2;subst h3;rw [hol.1] at h1;exact h1
   have hr0:=hrun w2 HO2.out;have hr1:=λd=>hrun (w2.drewN d) (rD HO2.out (aI ⟨d,rfl⟩))
   clear hol hf hvb hrun;go_quiet (fail);go_wp2;go_ret;have hb3:=HB2.out.trans ((aI (w1:=w2.drewN nq) ⟨nq,rfl⟩).mono HB2.out.size);exact ⟨nm,D,kM (by rw [HR.out]),rD HO.out hb3,HD2.out,by omega,fV hb3⟩
  | none=>
   have hnw:=HD.out.new o x kl HK.out hf;have HR:Hid (mO M o (s,x)=M.length):=aA (by unfold mO;rw [hvb];simp [hf]);have HD2:=aA (HD.out.put hvb hf HK.out);have hrun:∀wx:World,wx.ownsMap zz 168 fW mp nm D->(Instr.lookup 135 (.map (some mp)) (.agg #[.int .i64 o,.int .i64 x]) true).run zz wx=.ok (.tuple #[.int .i64 0,.bool false]) wx:=λwx hx=>by
    obtain ⟨v,ps,h1,h2⟩:=hx.look_ok xP zt (Tryz.zeroValue3 _) (zd:=.lit (.int .i64 0)) (zp:=[]) rfl HK.out;rw [zH HD.out.tidy.isMap hnw] at h2;have h3:=zL h2;subst h3;rw [hnw] at h1;exact h1
   have hr0:=hrun w2 HO2.out;have hr1:=λd=>hrun (w2.drewN d) (rD HO2.out (aI ⟨d,rfl⟩))
   clear hnw hf hvb hrun;go_quiet (fail);go_wp2;obtain ⟨w3,hr3,hown3,hg3⟩:=(rD HO2.out (aI (w1:=w2.drewN (nq+1)) ⟨_,rfl⟩)).update xP zt (by unfold maxLen;omega) (key:=.agg #[.int .i64 o,.int .i64 x]) (val:=.int .i64 M.length) (aB HK) (d:=.lit (.int .i64 M.length)) (ps:=[]) rfl;have HO3:=aA hown3;have HG3:=aA hg3;clear hown3 hg3 hr0 hr1;go_region;all_goals
    go_wp2;go_ret;exact ⟨nm+1,_,kM (by rw [HR.out]),HO3.out,HD2.out,by omega,(fV (HB2.out.trans ((aI (w1:=w2.drewN (nq+1)) ⟨_,rfl⟩).mono HB2.out.size))).trans HG3.out⟩
 ·have hvb:aF (s,x)=false:=by simpa [aF] using hv
  rw [show s.toList.isEmpty=false by simpa using hv] at CV;have HR:Hid (mO M o (s,x)=M.length):=aA (by unfold mO;rw [hvb];rfl);have HD:=aA (hD.skip (p:=(o,(s,x))) (Or.inl hvb));have HO:=aA hown;clear hown hD hv hvb ho hx;go_enter Tryz.func90,Tryz.ntmps90;go_wp2_with (first
   | (go_at_call 83;refine (aB CV _).mono ?_;rintro e w1 ⟨rfl,hb1⟩;have HB1:=aA hb1;clear hb1)
   | go_in)
  go_ret;have hb:Below w.heap.size w w1:=((Below.refl _ _).alloc (zy _) _).trans (HB1.out.mono (by simp));exact ⟨nm,D,kM (by rw [HR.out]),rD HO.out hb,HD.out,by omega,fV hb⟩
attribute [local go_sem] Oper.semAt_some
def dE(L:List Nd):Prop:=∀(i:Nat) (n:Nd),L[i]?=some n->fA (L.drop (i+1)) (bJ n)
def iQ(ks:List Nat)(W W':World):Prop:=∀k∈ks,W'.heap[k]?=W.heap[k]?
theorem iQ.trans{ks:List Nat}{A B C:World}(h:iQ ks A B)(k:iQ ks B C):iQ ks A C:=λi hi=>(k i hi).trans (h i hi)
theorem iQ.put{ks:List Nat}{w:World}(hk:∀k∈ks,k<w.heap.size)(W:World)(l:Nat)(o o':Obj)(hl:w.heap.size<=l)(_:W.heap[l]?=some o)(_:o.isCells=false)(_:o.isWalk=false):iQ ks W (W.putObj l o'):=λk hm=>World.putObj_heap_other (by have:=hk k hm;omega)
theorem iQ.cell{ks:List Nat}{A B:World}(h:iQ ks A B){p:Addr}{v:Value}(hp:p.block∈ks)(hc:A.cell? p=some v):B.cell? p=some v:=(World.cell?_of_block (h _ hp)).trans hc
abbrev nW(C:List Nat):={x:Nat // x∈C}
structure kW(W:World)(ba bt tb ge:Nat)(L:List Nd)(a:Nat):Prop where
 ca:W.cell? ⟨ba,0,none⟩=some (.int .i64 a)
 ct:W.cell? ⟨bt,0,none⟩=some (.pointer (some ⟨tb,0,none⟩))
 ce:∃cap,W.cell? ⟨tb,1,none⟩=some (.slice (some ⟨ge,0,none⟩) L.length cap)
 en:∀p,p<L.length->W.cell? ⟨ge,p,none⟩=some (.int .i64 (p+aH (L.drop p) 1))
theorem kW.kept{W W':World}{ba bt tb ge:Nat}{L:List Nd}{a:Nat}(h:kW W ba bt tb ge L a)(k:iQ [ba,bt,tb,ge] W W'):kW W' ba bt tb ge L a:=by obtain ⟨cap,hc⟩:=h.ce;exact ⟨k.cell (by simp) h.ca,k.cell (by simp) h.ct,⟨cap,k.cell (by simp) hc⟩,λp hp=>k.cell (by simp) (h.en p hp)⟩
theorem aJr{α:Type}{N:Nat}{J:List α->World->Prop}(h:AbidesFrom N J){s:List α}{w:World}(hJ:J s w)(d:Nat):J s (w.drewN d):=
 h s w _ none hJ ⟨rfl,rfl,rfl,zy _,λ_ _ _=>rfl⟩ (λr e=>by cases e)
theorem aDc(n l ba bt tb ge:Nat)(L:List Nd)(a:Nat)(nd:Nd)(C:List Nat)(hC:(aC L).ch a=C)(hn:1<=n)(hL:dE L)(hf:L.length<=1000000)(ha:L[a]?=some nd)(J Jx:List (nW C)->World->Prop)(N:Nat)(hJ:AbidesFrom N J)
  (hY:∀pre x W,J pre W->pre.length<C.length->YieldAt Fence.wide (n-1) zz l #[.int .i64 (x.1:Nat)] W λe W'=>
   (e=.returned (.bool true)/\J (pre++[x]) W'/\iQ [ba,bt,tb,ge] W W')\/(e=.returned (.bool false)/\Jx (pre++[x]) W'))
  (W:World) (hW:kW W ba bt tb ge L a) (h0:J [] W) :
  CallsIn Fence.wide n zz 133 #[.func (.yield l) #[] #[],.pointer (some ⟨ba,0,none⟩),.pointer (some ⟨bt,0,none⟩)] W λe W'=>(∃v,e=.returned v)/\
   ((∃ys:List (nW C),ys.map (λx=>x.1)=C/\J ys W')\/(∃pre:List (nW C),pre.map (λx=>x.1) <+: C/\Jx pre W')):=by
 have hal:=(zr.1 ha).1;have hch:=fM ha;rw [hC] at hch;have hfu:=hL a nd ha;have hend:aH (L.drop a) 1=1+aH (L.drop (a+1)) (bJ nd):=by rw [List.drop_eq_getElem_cons hal,(zr.1 ha).2];simp [aH]
 have hle:a+1+aH (L.drop (a+1)) (bJ nd)<=L.length:=by have:=mD (L.drop (a+1)) (bJ nd);simp at this;omega
 have HCH:=aA hch;generalize hE:aH (L.drop (a+1)) (bJ nd)=E at *;have HE:=aA hE;have HY:=aA hY;have HEND:=aA hend;clear hch hE hY hC hend;refine callsIn_of_wp Tryz.func133 rfl trivial ?_;simp only [Tryz.ntmps133,List.size_toArray,List.length_cons,List.length_nil,Nat.reduceAdd,Nat.reduceSub,Array.replicate_succ,Array.replicate_zero,List.push_toArray,List.append_toArray,List.nil_append,List.cons_append];have ca:=hW.ca;gi_wp2
 clear ca;gi_loopw [4] (λp wr=>∃(pre:List (nW C)) (q m:Nat),p=.int .i64 q/\C=pre.map (λx=>x.1)++fK (L.drop q) m q/\q+aH (L.drop q) m=a+1+E/\fA (L.drop q) m/\kW wr ba bt tb ge L a/\J pre wr)
  (λp _=>a+1+E-(intOf p).toNat)
 case atStart=>exact ⟨[],a+1,bJ nd,by go_num,by rw [HCH.out];rfl,by rw [HE.out],hfu,hW,h0⟩
 case round=>
  obtain ⟨pre,q,m,rfl,hx,hq,hfq,hI,hJs⟩:=hrel;have ca:=hI.ca;have ct:=hI.ct;obtain ⟨cap,ce⟩:=hI.ce;have hea:=hI.en a hal;rw [HEND.out] at hea;have hai:(a:Int)<(L.length:Int):=by omega
  have HX:=aA hx;cases m with
  | zero=>
   simp at hq;have HQ:=aA hJs;have hqe:¬((q:Int)<(a:Int)+((1+E:Nat):Int)):=by omega
   clear hx hq hI hJs hfq;gi_wp2
   gi_quiet (fail)
   gi_wp2
   go_end0;exact ⟨⟨_,rfl⟩,.inl ⟨pre,by have:=HX.out;simpa using this.symm,aJr hJ HQ.out _⟩⟩
  | succ m=>
   have hfs:=(uP (L.drop q) 1 m).1 (by rw [Nat.add_comm];exact hfq);have hpos:=aB1 (q:=0) hfs.1;rw [Nat.zero_add] at hpos;have hadd:=tC (L.drop q) 1 m;rw [Nat.add_comm 1 m,zs] at hadd;have hqi:(q:Int)<(a:Int)+((1+E:Nat):Int):=by omega
   have hql:(q:Int)<(L.length:Int):=by omega
   have hmem:q∈C:=by rw [hx];simp [kL]
   have hlen:pre.length<C.length:=by have:=congrArg List.length hx;simp [kL] at this;omega
   have hnext:=hI.en q (by omega);have HI:=aA hI;have HADD:=aA hadd;have HF2:=aA hfs.2;have hY1:=λ(d:Nat)=>HY.out pre ⟨q,hmem⟩ (wr.drewN d) (aJr hJ hJs d) hlen
   have HQ:=aA hq;clear hx hI hfq hJs hq hfs hadd hnext;gi_wp2
   gi_quiet (fail)
   obtain ⟨fn,tmps,assign,body,hy,hR⟩:=hY1 nq;clear hY1;gi_wp2
   refine hR.mono ?_;rintro e W3 (⟨rfl,hJ3,hk3⟩ | ⟨rfl,hJx3⟩)
   ·have hI3:kW W3 ba bt tb ge L a:=kW.kept (W:=wr) HI.out hk3;have ct3:=hI3.ct;obtain ⟨cap3,ce3⟩:=hI3.ce;have en3:=hI3.en q (by omega);generalize hst:aH (L.drop q) 1=st at *;have HST:=aA hst;have HI3:=aA hI3;have HJ3:=aA hJ3;clear hI3 hJ3 hk3 hst;gi_wp2
    go_roundw;case rel=>exact ⟨pre++[⟨q,hmem⟩],q+st,m,by go_num,by refine HX.out.trans ?_;rw [kL,HST.out,zs];simp,by have h1:=HQ.out;have h2:=HADD.out;omega,by have:=HF2.out;rw [zs] at this;exact this,HI3.out,HJ3.out⟩
    case measure=>simp [intOf];omega
   ·gi_wp2
    refine bodyPost_ret (results_none rfl _ _ _) rfl ?_;exact ⟨⟨_,rfl⟩,.inr ⟨pre++[⟨q,hmem⟩],⟨fK (L.drop (q+aH (L.drop q) 1)) m (q+aH (L.drop q) 1),by refine Eq.trans ?_ HX.out.symm;rw [kL,zs];simp⟩,hJx3⟩⟩
end Go.Proofs.YtcldkjcpofjmhaaGreatDoor
