import Derived.Deep.AppendLies
import Derived.Test.YtcldkjcpofjmhaaGreatDoorXSr3F
import Derived.Deep.SlicePairs
import Derived.SizedLaws
import Derived.Test.YtcldkjcpofjmhaaGreatDoorRows
open List renaming range→zx,mem_map→zs,mem_cons→zn,mem_append→zl,mem_range→zj,mem_filterMap→zh,mem_cons_self→zg,getElem_mem→zd,length→zc
open Nat renaming le_refl→zz,add_assoc→zo,le_trans→zm
open Prod renaming fst→zt,snd→zf
namespace Go.Proofs.YtcldkjcpofjmhaaGreatDoor
open _root_.Go.Proofs.Tryz renaming prog→zy,underlying37→zv,underlying22→zu,underlying36→zq,underlying39→zp
open Value renaming ownBlock→zr
open World renaming ownsRow_nil→zw,alloc_heap_new→zk
set_option maxHeartbeats 4000000
set_option maxRecDepth 100000
variable{fuel len:Nat}{a:Option Addr}{H:Type}{v:Value}{w:World}
section
open Go.RowKit
theorem aRr(l:List Nd)(j:Nat)(u:Value)(h:(aG l)[j]?=some u):∃k,∃hk:k<l.length,(j=k*2/\u=.string l[k].1)\/(j=k*2+1/\u=.int .i64 l[k].2):=by
 have hj:j<(aG l).length:=(List.getElem?_eq_some_iff.1 h).1;rw [qC] at hj;have hk:j / 2<l.length:=by omega
 obtain ⟨h1,h2⟩:=tK l (j / 2) hk;refine ⟨j / 2,hk,?_⟩;rcases Nat.mod_two_eq_zero_or_one j with h0 | h0
 ·left;have e:j=j / 2*2:=by omega
  rw [e] at h;rw [h1] at h;exact ⟨e,by simpa using h.symm⟩
 ·right;have e:j=j / 2*2+1:=by omega
  rw [e] at h;rw [h2] at h;exact ⟨e,by simpa using h.symm⟩
theorem aRs{ad:Addr}{l:List Nd}(h:cU w (some ad) l):∀j u,(aG l)[j]?=some u->w.cell? (ad.add j)=some u:=by
 intro j u hu;obtain ⟨k,hk,hc⟩:=aRr l j u hu;obtain ⟨b,o,ha,e,f⟩:=h.cell k hk;obtain rfl:ad=⟨b,o,none⟩:=by simpa using ha
 have hadd:∀q,(⟨b,o,none⟩ : Addr).add q=⟨b,o+q,none⟩:=λq=>by unfold Addr.add;split <;> simp_all
 rw [hadd];rcases hc with ⟨rfl,rfl⟩ | ⟨rfl,rfl⟩
 ·exact e
 ·rw [<-zo];exact f
theorem aRt{ty:TypeId}{aa:Option Addr}{c:Nat}{l:List Nd}(hn:cU w aa l)(hz:aa=none->c=0) :
  ∃v w',(Builtin.append_ #[37,37] ty #[.slice none 0 0,.slice aa l.length c]).run zy w=.ok v w'/\w'.ownsRow w.heap.size 36 2 v l.length (aG l)/\w.grownBy w' none:=by
 obtain ⟨iN,hN,hN0,hN1,hN2⟩:=info_parts nB;have h0:=zw w w.heap.size 36 2;have hfew:=hn.few;cases aa with
 | none=>
  have hl:l=[]:=by
   cases l with
   | nil=>rfl
   | cons x r=>obtain ⟨b,o,ha,_⟩:=hn.cell 0 (by simp);simp at ha
  subst hl;rw [hz rfl];exact ⟨_,w,run_append_owned_none w w.heap.size 37 ty 36 iN 2 zv hN _ 0 [] h0,h0,⟨rfl,rfl,rfl,zz _,λ_ _ _=>rfl⟩⟩
 | some ad=>
  obtain ⟨v,w',hr,ho,hg,_⟩:=run_append_own_at (P:=zy) w w.heap.size 37 ty 36 iN (.agg #[.string ⟨#[]⟩,.int .i64 0]) 2 24 zv hN hN0 hN1 hN2 rfl (by decide) _ 0 [] h0 ad l.length c (aG l) (qC l) (aRs hn) (aGv l) (by unfold maxLen;omega) (by omega) (zz _);refine ⟨v,w',hr,?_,hg⟩;simpa using ho
theorem aRu{ops:Array Oper}{o:Oper}{a:Act}{w:World}{K:Act->World->Prop}{Q:Exit->Act->World->Prop}{E:Prop}(hgd:o.guard=none)(s x:Operand)
  (ho:o.op=.call {callee:=.builtin .append,args:=#[s,x],argTypes:=#[37,37]}) (aa:Option Addr) (c:Nat) (l:List Nd) (hs:a.eval s=.slice none 0 0) (hx:a.eval x=.slice aa l.length c) (hn:cU w aa l) (hz:aa=none->c=0)
  (h:∀v w',w'.ownsRow w.heap.size 36 2 v l.length (aG l)->w.grownBy w' none->K (a.put o.dst v) w') :
  if Region.wanted o (yielded ops a.tmps)=true then Oper.wp zy o a w K Q else E:=by
 have hw:Region.wanted o (yielded ops a.tmps)=true:=by simp [Region.wanted,hgd]
 rw [if_pos hw];obtain ⟨v,w',hr,h1,h2⟩:=aRt (ty:=o.type) hn hz;unfold Oper.wp execOp;simp only [ho,resolve,invoke,builtin,Sem.run_bind,Sem.run_pure,Result.andThen_ok,List.map_toArray,List.map_cons,List.map_nil,hs,hx,hr];exact h v w' h1 h2
def qM(w:World)(a:Option Addr)(c:List Lt):Prop:=∀k,k<c.length->∀b o aa n cap,a=some ⟨b,o,none⟩->w.cell? ⟨b,o+k*2+1,none⟩=some (.slice aa n cap)->aa=none->cap=0
theorem qM.below{w1:World}{c:List Lt}(h:qM w a c)(hl:bE w a c)(k:Below w.heap.size w w1):qM w1 a c:=by
 intro i hi b o aa n cap ha hc;obtain ⟨b',o',aa',cap',ha',_,hc',_⟩:=hl.cell i hi;obtain ⟨rfl,rfl⟩ : b=b'/\o=o':=by rw [ha] at ha';simpa using ha'
 have:=Below.at' k (zz _) hc';rw [this] at hc;obtain ⟨rfl,rfl,rfl⟩ : aa'=aa/\_=n/\cap'=cap:=by simpa using hc
 exact h i hi b o aa' _ cap' ha hc'
theorem aRv{wr w0 w1:World}{xb:Bool}{va:Option Addr}{vcp:Nat}{xl:List Nd}(hd:Below wr.heap.size wr w0)(hw0:w0.heap[wr.heap.size]?=some (.cells #[.bool xb,.slice none 0 0] 39))(hown:w1.ownsRow w0.heap.size 36 2 (.slice va xl.length vcp) xl.length (aG xl))(hgrow:w0.grownBy w1 none) :
  (w1.setCell ⟨wr.heap.size,1,none⟩ (.slice va xl.length vcp)).cell? ⟨wr.heap.size,0,none⟩=some (.bool xb)/\(w1.setCell ⟨wr.heap.size,1,none⟩ (.slice va xl.length vcp)).cell? ⟨wr.heap.size,1,none⟩=some (.slice va xl.length vcp)/\
   (w1.setCell ⟨wr.heap.size,1,none⟩ (.slice va xl.length vcp)).ownsRow wr.heap.size 36 2 (.slice va xl.length vcp) xl.length (aG xl)/\Below wr.heap.size wr (w1.setCell ⟨wr.heap.size,1,none⟩ (.slice va xl.length vcp)):=by
 have hlt:wr.heap.size<w0.heap.size:=(Array.getElem?_eq_some_iff.1 hw0).1;have h1:w1.heap[wr.heap.size]?=some (.cells #[.bool xb,.slice none 0 0] 39):=by rw [hgrow.block _ hlt (by simp),hw0]
 obtain ⟨c0,c1⟩:=aBy h1;refine ⟨?_,World.cell?_setCell_same w1 _ _ c1,?_,(hd.grown hgrow hd.size (λk e=>by simp at e)).setCell (zz _) _⟩
 ·rw [World.cell?_setCell_other w1 _ _ _ (by simp),c0]
 ·refine dN (hown.kept (bR w1 _ _) ?_) (Nat.le_of_lt hlt);right;intro e;have:=(aT hown _ e).1;simp at this;omega
theorem aRw{Q:List (Lt×Value)}{x:Lt}{N:Nat}(h:((Q.map zf).filterMap zr).Nodup)(h1:∀q∈Q,∀k,q.2.ownBlock=some k->k<N)(h2:∀k,v.ownBlock=some k->N<=k):(((Q++[(x,v)]).map zf).filterMap zr).Nodup:=by
 rw [List.map_append,List.filterMap_append,List.nodup_append];refine ⟨h,?_,λa ha b hb=>?_⟩
 ·simp only [List.map_cons,List.map_nil];cases hv:v.ownBlock <;> simp [List.filterMap,hv]
 ·obtain ⟨u,hu,hua⟩:=zh.1 ha;obtain ⟨q,hq,rfl⟩:=zs.1 hu;obtain ⟨u',hu',hub⟩:=zh.1 hb;simp at hu';subst hu';have:=h1 q hq a hua;have:=h2 b hub;omega
theorem aRx(a:Option Addr)(cp:Nat)(c:List Lt)(w:World)(h:bE w a c)(hz:qM w a c) :
  Calls zy 12 #[.slice a c.length cp] w λe w'=>∃v Q,e=.returned v/\Q.map zt=c/\w'.ownsRow w.heap.size 39 2 v Q.length (bA Q)/\(∀q∈Q,w'.ownsRow w.heap.size 36 2 q.2 q.1.2.length (aG q.1.2))/\Below w.heap.size w w'/\((Q.map zf).filterMap zr).Nodup:=by
 obtain ⟨iL,hL,hL0,hL1,hL2⟩:=info_parts sF;have hf:=h.few;go_enter Tryz.func12,Tryz.ntmps12;go_wp2;go_loopw [3,4] (λo i wr=>∃(k:Nat) (Q:List (Lt×Value)),k<=c.length/\i=.int .i64 k/\Q.map zt=c.take k/\wr.ownsRow w.heap.size 39 2 o Q.length (bA Q)/\(∀q∈Q,wr.ownsRow w.heap.size 36 2 q.2 q.1.2.length (aG q.1.2))/\Below w.heap.size w wr/\((Q.map zf).filterMap zr).Nodup)
  (λ_ i _=>c.length-(intOf i).toNat)
 case atStart=>exact ⟨0,[],Nat.zero_le _,rfl,rfl,zw _ _ _ _,λq hq=>by simp at hq,Below.refl _ _,by simp⟩
 case round=>
  obtain ⟨k,Q,hk,rfl,hQ,ho,hA,hb,hnd⟩:=hrel;have hQl:Q.length<=k/\k<=Q.length:=by have h1:=congrArg zc hQ;simp at h1;omega
  by_cases hlt:k<c.length
  ·obtain ⟨b,q,aa,acp,rfl,e1,f1,g1⟩:=h.cell k hlt;have hzz:=hz k hlt b q aa _ acp rfl f1;have e2:=Below.at' hb (zz _) e1;have f2:=Below.at' hb (zz _) f1;have hst:c.take (k+1)=c.take k++[c[k]]:=List.take_succ_eq_append_getElem hlt;rw [<-hQ] at hst;have HN:=aA (g1.below hb (zz _));generalize c[k]=x at *;obtain ⟨xb,xl⟩:=x;simp only at e2 f2 HN;have HST:=aA hst;have HA:=aA hA;have HO:=aA ho;have HB:=aA hb;have HND:=aA hnd;have HZ:=aA hzz;have hbs:=hb.size;clear e1 f1 h hst hQ hA ho hb g1 hz hzz hnd;have z1:(0:Int)<=(k:Int):=Int.natCast_nonneg _;have z2:(k:Int)<(c.length:Int):=by omega
   have HN1:=aA (HN.out.below ((Below.refl _ _).alloc (zz _) (.cells #[.bool xb,.slice none 0 0] 39)) (zz _));have l3:b<wr.heap.size:=World.block_lt_of_cell? wr _ f2;have hne1:=World.new_ne wr _ f2;have HF3:=aA (Below.at' ((Below.refl wr.heap.size wr).alloc (zz _) (.cells #[.bool xb,.slice none 0 0] 39)) (zz _) f2);go_wp2_with fail;go_region_law (refine aRu (by rfl) _ _ (by rfl) aa acp xl (by rfl) (by rfl) (by first | exact HN1.out | exact HN1.out.drawn ⟨1,rfl⟩ | exact HN1.out.drawn ⟨2,rfl⟩) HZ.out ?_;intro v w1 hown1 hgrow;obtain ⟨va,vcp,rfl⟩:=aS hown1;have hcl:=hgrow.cell (a:=⟨wr.heap.size,1,none⟩) (v:=.slice none 0 0) (by simp) (by simp);have hfz:w1.frozen? ⟨wr.heap.size,1,none⟩=false:=(by rw [hgrow.frozen_far _ (by simp) (by simp)];simp);have hc2:=hgrow.cell (a:=⟨b,q+k*2+1,none⟩) (v:=.slice aa xl.length acp) HF3.out (by simp));all_goals
    have hp:=aRv (xb:=xb) (wr:=wr) ((Below.refl _ _).alloc (zz _) (.cells #[.bool xb,.slice none 0 0] 39)).drew (aQq wr _) hown1 hgrow;generalize w1.setCell ⟨wr.heap.size,1,none⟩ (.slice va xl.length vcp)=w2 at *;obtain ⟨p0,p1,pv,pb⟩:=hp;have ho2:=aU HO.out pb (zz _);have HA2:=aA (λq hq=>aU (HA.out q hq) pb (zz _));have HV:=aA (dN pv hbs);have HNV:=aA (aRw HND.out (λq hq k e=>(aT (HA.out q hq) k e).2) (λk e=>(aT pv k e).1) (x:=(xb,xl)));have HB2:=aA (HB.out.trans (pb.mono hbs));have h2s:=HB2.out.size;clear hown1 hgrow hcl hfz hc2 pv pb e2 f2 hne1;go_wp2_with (first
     | (at_builtin;refine wpList_append_own _ rfl (.tmp 27) (.tmp 29) 22 rfl w.heap.size 39 iL (.agg #[.bool false,.slice none 0 0]) 2 32 zu hL hL0 hL1 hL2 rfl (by decide) _ _ _ rfl (ho2.alloc _) ⟨w2.heap.size,0,none⟩ 1 1 [.bool xb,.slice va xl.length vcp] rfl rfl ?c1 ?c2 ?c3 ?c4 ?c5 ?_)
     | go_in)
    case c1=>exact gK _ _ _ _ _ (by simp)
    case c2=>first | exact sG _ _ _ _ | exact ⟨rfl,rfl⟩
    case c3=>unfold maxLen;omega
    case c4=>omega
    case c5=>exact zm h2s (World.grownBy_alloc _ _ none).size
    intro v' w3 ho' hg' _;have R:=aI4 (x:=(xb,xl)) (sn:=[]) (s:=.slice none 0 0) (λq hq=>(HA2.out q hq).alloc _) (ho2.alloc _) (zw _ _ _ _) (HV.out.alloc _) ho' hg';have HB3:=aA ((HB2.out.alloc h2s _).grown hg' (by simp;omega) λk e=>(aT ho2 k e).1);have HR:=aA R;clear ho' hg' ho2 R;go_wp2;go_roundw;case rel=>exact ⟨k+1,Q++[((xb,xl),.slice va xl.length vcp)],by omega,by go_num,by rw [HST.out];simp,HR.out.2.1,HR.out.1,HB3.out,HNV.out⟩
    case measure=>simp [intOf];omega
  ·have hk1:c.take k=c:=List.take_of_length_le (by omega);rw [hk1] at hQ;have F:=aA (And.intro hQ (And.intro ho (And.intro hA (And.intro hb hnd))));clear hk1 hQ hA ho hb hnd;go_wp2;go_ret;exact ⟨_,Q,rfl,F.out⟩
end
section
open Go.RowKit Go.Shelf Go.WideMaps
theorem aRy(B:Nat)(w:World)(hB:B<=w.heap.size) :
  Calls zy 61 #[.func (.func 62) #[] #[]] w λe w'=>e=.returned (.pointer (some ⟨w.heap.size,0,none⟩))/\bY B w' w.heap.size (.slice none 0 0) []/\Below w.heap.size w w':=by
 go_enter Tryz.func61,Tryz.ntmps61;go_wp2;go_ret;exact ⟨rfl,⟨zk w _,zw _ _ _ _,hB⟩,(Below.refl _ w).alloc (zz _) _⟩
theorem aRz(B sb hp:Nat)(v vs vk:Value)(L:List Cd)(n:Nat)(T:List (aN×Value))(ks:List Nat)(w:World)(h:bI B w sb hp v vs vk L n T ks false) :
  Calls zy 65 #[.pointer (some ⟨sb,0,none⟩)] w λe w'=>e=.returned (.bool true)/\Below w.heap.size w w':=by
 obtain ⟨_,_,_,_,c4⟩:=h.cells;have c4a:=λX=>Below.at' ((Below.refl w.heap.size w).alloc (zz _) X) (zz _) c4
 clear h;go_enter Tryz.func65,Tryz.ntmps65;go_wp2;go_returns;exact ⟨rfl,(Below.refl _ w).alloc (zz _) _⟩
theorem aS0(B sb hp:Nat)(v vk:Value)(L:List Cd)(n:Nat)(T:List (aN×Value))(ks:List Nat)(big:Bool)(va:Option Addr)(tn vc:Nat)(w:World)(h:bI B w sb hp v (.slice va tn vc) vk L n T ks big)(hb:1<=tn)(ht:tn<=1000000) :
  Calls zy 39 #[.pointer (some ⟨sb,0,none⟩),.int .i64 1] w λe w'=>e=.returned (.agg #[.int .i64 1,.slice va tn vc,.slice none 0 0,.int .i64 ((tn-1:Nat):Int),.bool big])/\Below w.heap.size w w':=by
 obtain ⟨_,_,c2,_,c4⟩:=h.cells;have c2a:=λX=>Below.at' ((Below.refl w.heap.size w).alloc (zz _) X) (zz _) c2
 have c4a:=λX=>Below.at' ((Below.refl w.heap.size w).alloc (zz _) X) (zz _) c4
 have hww:IntKind.i64.wrap ((tn:Int)-1)=(tn:Int)-1:=by rw [IntKind.wrap_i64];omega
 clear h;go_enter Tryz.func39,Tryz.ntmps39;go_wp2_with fail;go_region_held3 (λw'=>w'.cell? ⟨sb,2,none⟩=some (.slice va tn vc)/\w'.cell? ⟨sb,4,none⟩=some (.bool big)) (go_keep) (fail);all_goals
  go_wp2_with fail;go_returns;refine ⟨by rw [show ((tn-1:Nat):Int)=(tn:Int)-1 by omega],?_⟩;exact (((Below.refl _ w).alloc (zz _) _).alloc (by simp) _).trans (Below.mono (aI ⟨1,rfl⟩) (by simp;omega))
theorem aS1(B sb hp:Nat)(v:Value)(L:List Cd)(n:Nat)(T:List (aN×Value))(ks:List Nat)(big:Bool)(va ka:Option Addr)(tn vc kn kc:Nat)(w:World)(h:bI B w sb hp v (.slice va tn vc) (.slice ka kn kc) L n T ks big) :
  Calls zy 39 #[.pointer (some ⟨sb,0,none⟩),.int .i64 2] w λe w'=>e=.returned (.agg #[.int .i64 2,.slice va tn vc,.slice ka kn kc,.int .i64 tn,.bool big])/\Below w.heap.size w w':=by
 obtain ⟨_,_,c2,c3,c4⟩:=h.cells;have c2a:=λX=>Below.at' ((Below.refl w.heap.size w).alloc (zz _) X) (zz _) c2
 have c3a:=λX=>Below.at' ((Below.refl w.heap.size w).alloc (zz _) X) (zz _) c3
 have c4a:=λX=>Below.at' ((Below.refl w.heap.size w).alloc (zz _) X) (zz _) c4
 clear h;go_enter Tryz.func39,Tryz.ntmps39;go_wp2_with fail;go_region_held3 (λw'=>w'.cell? ⟨sb,2,none⟩=some (.slice va tn vc)/\w'.cell? ⟨sb,3,none⟩=some (.slice ka kn kc)/\w'.cell? ⟨sb,4,none⟩=some (.bool big)) (go_keep) (fail);all_goals
  go_wp2_with fail;go_returns;refine ⟨rfl,?_⟩;exact (((Below.refl _ w).alloc (zz _) _).alloc (by simp) _).trans (Below.mono (aI ⟨1,rfl⟩) (by simp;omega))
structure pE(B:Nat)(w:World)(v:Value)(P:List (List Lt×Value)):Prop where
 row:w.ownsRow B 22 1 v P.length (P.map zf)
 cl:∀p∈P,bM B w p.2 p.1
theorem pE.kps{S:List TypeId}{B:Nat}{w':World}{P:List (List Lt×Value)}(h:pE B w v P)(k:dD S w w')(h1:22∉S)(h2:39∉S)(h3:36∉S):pE B w' v P:=
 ⟨k.row h.row h1,λp hp=>k.clause (h.cl p hp) h2 h3⟩
theorem pE.cell{B:Nat}{P:List (List Lt×Value)}(h:pE B w v P){k:Nat}(hk:k<P.length):∃g cap ad cp,v=.slice (some ⟨g,0,none⟩) P.length cap/\P[k].2=.slice ad P[k].1.length cp/\w.cell? ⟨g,k,none⟩=some (.slice ad P[k].1.length cp)/\bM B w (.slice ad P[k].1.length cp) P[k].1:=by
 have hc:=h.cl P[k] (zd hk);obtain ⟨ad,cp,e⟩:=hc.shape;obtain ⟨h1,⟨_,e1⟩ | ⟨g,cap,cur,rfl,hb,hh,hr⟩⟩:=h.row
 ·omega
 ·refine ⟨g,cap,ad,cp,rfl,e,?_,by rw [<-e];exact hc⟩;rw [h.row.cellAt k (by omega),List.getElem?_map,List.getElem?_eq_getElem hk,<-e];rfl
def lK(P:List (List Lt)):List (aN×Int):=P.mapIdx λa c=>(⟨1,a,0,0,0,c⟩,0)
theorem aS2(P:List (List Lt))(k:Nat)(hk:k<P.length):(lK P).take (k+1)=(lK P).take k++[(⟨1,k,0,0,0,P[k]⟩,0)]:=by rw [List.take_add_one];simp [lK,hk]
def vF(B:Nat)(w0:World)(sb hp:Nat)(P:List (List Lt))(k:Nat)(W:World):Prop:=
 ∃v' L' n',bI B W sb hp v' (.slice none 0 0) (.slice none 0 0) L' n' [] [] false/\bX ((lK P).take k) [] 0 false L' n' false/\Mv bT B w0 W
def aS3(B:Nat)(w0:World)(P:List (List Lt))(e:Ending)(W:World):Prop:=
 ∃sb hp,e=.returned (.pointer (some ⟨sb,0,none⟩))/\vF B w0 sb hp P P.length W
theorem aS4(B:Nat)(v:Value)(P:List (List Lt×Value))(w:World)(h:pE B w v P)(hi:∀p∈P,dI p.1=true)(hl:P.length<=1000)(hB:B<=w.heap.size) :
  Calls zy 38 #[v] w λe w'=>aS3 B w (P.map zt) e w':=by
 obtain ⟨va,vc,rfl⟩:=aS h.row;have CN:=aA (aRy B w hB);have HH:=aA h;have HI:=aA hi;clear h hi;go_enter Tryz.func38,Tryz.ntmps38;go_wp2_with (first
  | (go_at_call 61;refine (aB CN).mono ?_;rintro e w1 ⟨rfl,hp1,hb1⟩;have HP1:=aA hp1;have HB1:=aA hb1;clear hp1 hb1)
  | go_in)
 have hb2:Below w1.heap.size w1 (w1.alloc (.cells #[.pointer (some ⟨w.heap.size,0,none⟩),.int .i64 0,.slice none 0 0,.slice none 0 0,.bool false] 119)):=(Below.refl _ w1).alloc (zz _) _;have hS0:bI B (w1.alloc (.cells #[.pointer (some ⟨w.heap.size,0,none⟩),.int .i64 0,.slice none 0 0,.slice none 0 0,.bool false] 119)) w1.heap.size w.heap.size (.slice none 0 0) (.slice none 0 0) (.slice none 0 0) [] 0 [] [] false:=
  ⟨zk w1 _,HP1.out.below hb2,⟨zw _ _ _ _,λp hp=>by simp at hp⟩,zw _ _ _ _,λx hx=>by simp at hx,zm hB HB1.out.size⟩
 have hm0:Mv bT B w (w1.alloc (.cells #[.pointer (some ⟨w.heap.size,0,none⟩),.int .i64 0,.slice none 0 0,.slice none 0 0,.bool false] 119)):=(Mv.of_below HB1.out).trans (Mv.of_below hb2);have H0:Hid (vF B w w1.heap.size w.heap.size (P.map zt) 0 (w1.alloc (.cells #[.pointer (some ⟨w.heap.size,0,none⟩),.int .i64 0,.slice none 0 0,.slice none 0 0,.bool false] 119))):=aA ⟨_,_,_,hS0,by simp [bX],hm0⟩;clear hS0 hm0 hb2 CN HP1;go_loopw [11] (λi wr=>∃k:Nat,i=.int .i64 k/\k<=P.length/\vF B w w1.heap.size w.heap.size (P.map zt) k wr) (λi _=>P.length-(intOf i).toNat);case atStart=>exact ⟨0,rfl,Nat.zero_le _,H0.out⟩
 case round=>
  obtain ⟨k,rfl,hk,v',L',n',hS,hTk,hM⟩:=hrel;by_cases hlt:k<P.length
  ·obtain ⟨g,cap,ad,cp,hv,_,hcell,hcm⟩:=(HH.out.kps hM.kps (by decide) (by decide) (by decide)).cell hlt;simp at hv;obtain ⟨rfl,rfl⟩:=hv;have hic:=HI.out _ (zd hlt);have hn:=pD hic;have hfit:dP P[k].1=true:=by
    simp only [dI,Bool.and_eq_true] at hic;exact hic.1.1
   have hll:=bX.len _ hTk;have hkF:((lK (P.map zt)).take k).length<=k:=List.length_take_le _ _;simp at hll;have hki:(k:Int)<(P.length:Int):=by omega
   have hgt:=aS2 (P.map zt) k (by simpa using hlt);simp only [List.getElem_map] at hgt;have hBr:B<=wr.heap.size:=zm hB hM.size;have HNX:Hid (∀v2 L2 n2 w2,bI B w2 w1.heap.size w.heap.size v2 (.slice none 0 0) (.slice none 0 0) L2 n2 [] [] false->bX [(⟨1,k,0,0,0,P[k].1⟩,0)] L' n' false L2 n2 false->Mv bT B wr w2->vF B w w1.heap.size w.heap.size (P.map zt) (k+1) w2):=aA λv2 L2 n2 w2 x1 x2 x3=>⟨v2,L2,n2,x1,by rw [hgt];exact bX.snoc _ hTk x2,hM.trans x3⟩
   cases hid:pW P[k].1
   ·have CW:=aA (aLi B w1.heap.size w.heap.size v' _ _ L' n' [] [] false ⟨1,k,0,0,0,P[k].1⟩ ad cp wr hS hcm hn hid (by omega) (by omega) hBr);have HT:Hid (bX [(⟨1,k,0,0,0,P[k].1⟩,0)] L' n' false (fH L'.length (L'++[iF ⟨1,k,0,0,0,P[k].1⟩ ad cp n']) L'.length) (n'+1) false):=aA (by
     unfold bX;rw [if_neg (by simp [hfit]),if_neg (by simp [hid])];exact ⟨ad,cp,rfl,rfl,rfl⟩)
    unfold oY at CW;simp only at CW;clear hS hcm hn hic hfit hll hkF hgt hM hTk H0;generalize P[k].1.length=cl at *;go_wp2_with (first
     | (go_at_call 63;refine (aB CW).mono ?_;rintro e w5 ⟨⟨u,rfl⟩,v5,hS5,hm5⟩;have G:=aA (HNX.out _ _ _ _ hS5 HT.out hm5);clear hS5 hm5)
     | go_in)
    go_roundw;case rel=>exact ⟨k+1,by go_num,by omega,G.out⟩
    case measure=>simp [intOf];omega
   ·have CW:=aA (aLh B w1.heap.size ⟨1,k,0,0,0,P[k].1⟩ ad cp wr hcm hn hid);have HT:Hid (bX [(⟨1,k,0,0,0,P[k].1⟩,0)] L' n' false L' n' false):=aA (by
     unfold bX;rw [if_neg (by simp [hfit]),if_pos hid];exact ⟨rfl,rfl,rfl⟩)
    have HS:=aA hS;unfold oY at CW;simp only at CW;clear hS hcm hn hic hfit hll hkF hgt hM hTk H0;generalize P[k].1.length=cl at *;go_wp2_with (first
     | (go_at_call 63;refine (aB CW).mono ?_;rintro e w5 ⟨⟨u,rfl⟩,hb5⟩;have G:=aA (HNX.out _ _ _ _ (HS.out.below hb5) HT.out (Mv.of_below hb5));clear hb5)
     | go_in)
    go_roundw;case rel=>exact ⟨k+1,by go_num,by omega,G.out⟩
    case measure=>simp [intOf];omega
  ·obtain rfl:k=P.length:=by omega
   have HF:Hid (vF B w w1.heap.size w.heap.size (P.map zt) P.length wr):=aA ⟨_,_,_,hS,hTk,hM⟩;clear hS hTk hM;go_wp2;go_ret;exact ⟨_,_,rfl,by simpa using HF.out⟩
end
section
open Go.RowKit Go.ChangeShapes Go.WideShapes
theorem aHe{a:Addr}(h:w.cell? (a.add (0*2))=some v):∃b o,a=⟨b,o,none⟩:=by
 obtain ⟨b,o,sp⟩:=a;cases sp with
 | none=>exact ⟨b,o,rfl⟩
 | some s=>
  simp only [Addr.add,World.cell?] at h;split at h <;> simp at h
theorem wU(b o j:Nat):(⟨b,o,none⟩ : Addr).add j=⟨b,o+j,none⟩:=by unfold Addr.add;split <;> simp_all
theorem aS5:zy.bytesOf 36=24:=by kernel_rfl
theorem aS6:zy.bytesOf 39=32:=by kernel_rfl
theorem aCa{H:Type}{P:Program}{e:TypeId}{d:DataW H}:∀{ds:List (DataW H)},d∈ds->∀n∈d.weights P e,n∈DataW.weightsAll P e ds
 | [],h,_,_=>by simp at h
 | x :: r,h,n,hn=>by
  simp only [DataW.weightsAll,zl];rcases zn.1 h with rfl | h
  ·exact Or.inl hn
  ·exact Or.inr (aCa h n hn)
theorem aS7{D0 D1:Nat->DataW H}{sp:List (DataW H)}{i n:Nat}(hi:i<len)(hn:n∈(D0 i).weights zy 9):n∈(DataW.slice ((zx len).map λi=>.agg [D0 i,D1 i]) sp).weights zy 37:=by simp only [DataW.weights,zv,zn,zl];right;left;refine aCa (d:=.agg [D0 i,D1 i]) (zs.2 ⟨i,zj.2 hi,rfl⟩) n ?_;simp only [DataW.weights,zq];exact DataW.weights_mem_each (j:=0) rfl rfl n hn
theorem aS8{D0 D1:Nat->DataW H}{sp:List (DataW H)}{i n:Nat}(hi:i<len)(hn:n∈(D1 i).weights zy 37):n∈(DataW.slice ((zx len).map λi=>.agg [D0 i,D1 i]) sp).weights zy 22:=by simp only [DataW.weights,zu,zn,zl];right;left;refine aCa (d:=.agg [D0 i,D1 i]) (zs.2 ⟨i,zj.2 hi,rfl⟩) n ?_;simp only [DataW.weights,zp];exact DataW.weights_mem_each (j:=1) rfl rfl n hn
theorem aS9{enc:TypeId×Value->H}{cs:List Value}{x:DataW H×List MemPlace}(h:DataW.trod enc zy w 0 (λ_=>true) true fuel 37 cs=some x)(hz:∀n∈x.1.weights zy 37,n<=reachBytes) :
  ∃a l cap,cs=[.slice a (zc l) cap]/\cU w a l/\(a=none->cap=0):=by
 rcases Deep.open_slice_pairs zv zq (by kernel_rfl) rfl rfl (by kernel_rfl) (by kernel_rfl) h with ⟨rfl,rfl⟩ | ⟨a,len,cap,m,n,V0,V1,D0,D1,P0,P1,rfl,hb,hl,hm,hmm,rfl,hx⟩
 ·exact ⟨none,[],0,rfl,⟨by decide,λk h=>absurd h (by simp),λk h=>absurd h (by simp)⟩,λ_=>rfl⟩
 ·have hmc:m=cap:=by simpa using hmm
  subst hmc;obtain ⟨f,hf⟩:=Deep.choose_lt (α:=Nd) (n:=len) (p:=λi nd=>V0 i=.string nd.1/\V1 i=.int .i64 nd.2/\D0 i=.lit (.string nd.1.data.toList)) (λi hi=>by
   obtain ⟨_,_,h0,h1⟩:=hx i (by omega);obtain ⟨s,hs,hd,_⟩:=DataW.trod_string Tryz.underlying9 h0;obtain ⟨z,hz,_⟩:=DataW.trod_int Tryz.underlying3 h1;exact ⟨(s,z),by simpa using hs,by simpa using hz,congrArg zt hd⟩)
  have hw:(len+(m-len))*24<=reachBytes:=by have:=hz ((((zx len).map λi=>DataW.agg [D0 i,D1 i]).length+((zx (m-len)).map λj=>DataW.agg [D0 (len+j),D1 (len+j)]).length)*zy.bytesOf 36) (by simp only [DataW.weights,zv];exact zg);rw [aS5] at this;simpa using this
  have hr:=reachBytes_lt;refine ⟨some a,(zx len).map f,m,by simp,⟨by simp;omega,λk hk=>?_,λk hk=>?_⟩,by simp⟩
  ·have hk':k<len:=by simpa using hk
   have hs:(f k).1.size<=reachBytes:=by refine hz _ (aS7 hk' ?_);rw [(hf k hk').2.2];simp [DataW.weights]
   simp;omega
  ·have hk':k<len:=by simpa using hk
   obtain ⟨b,o,rfl⟩:=aHe (hx 0 (by omega)).1;obtain ⟨g0,g1,_⟩:=hx k (by omega);rw [wU,(hf k hk').1] at g0;rw [wU,(hf k hk').2.1] at g1;exact ⟨b,o,rfl,by simpa using g0,by simpa [zo] using g1⟩
theorem aSa{enc:TypeId×Value->H}{cs:List Value}{x:DataW H×List MemPlace}(h:DataW.trod enc zy w 0 (λ_=>true) true fuel 22 cs=some x)(hz:∀n∈x.1.weights zy 22,n<=reachBytes) :
  ∃a c cap,cs=[.slice a (zc c) cap]/\bE w a c/\qM w a c:=by
 rcases Deep.open_slice_pairs zu zp (by kernel_rfl) rfl rfl (by kernel_rfl) (by kernel_rfl) h with ⟨rfl,rfl⟩ | ⟨a,len,cap,m,n,V0,V1,D0,D1,P0,P1,rfl,hb,hl,hm,hmm,rfl,hx⟩
 ·exact ⟨none,[],0,rfl,⟨by decide,λk h=>absurd h (by simp)⟩,λk h=>absurd h (by simp)⟩
 ·have hmc:m=cap:=by simpa using hmm
  subst hmc;obtain ⟨f,hf⟩:=Deep.choose_lt (α:=Lt×Option Addr×Nat) (n:=len) (p:=λi y=>V0 i=.bool y.1.1/\V1 i=.slice y.2.1 y.1.2.length y.2.2/\cU w y.2.1 y.1.2/\(y.2.1=none->y.2.2=0)) (λi hi=>by
   obtain ⟨_,_,h0,h1⟩:=hx i (by omega);obtain ⟨b,hs,hd⟩:=DataW.trod_bool Tryz.underlying4 h0;obtain ⟨aa,l,ac,hv,hn,hq⟩:=aS9 h1 (λn hn=>hz n (aS8 hi hn));exact ⟨((b,l),aa,ac),by simpa using hs,by simpa using hv,hn,hq⟩)
  have hw:(len+(m-len))*32<=reachBytes:=by have:=hz ((((zx len).map λi=>DataW.agg [D0 i,D1 i]).length+((zx (m-len)).map λj=>DataW.agg [D0 (len+j),D1 (len+j)]).length)*zy.bytesOf 39) (by simp only [DataW.weights,zu];exact zg);rw [aS6] at this;simpa using this
  have hr:=reachBytes_lt;have cells:∀k,k<len->∃b o,a=⟨b,o,none⟩/\w.cell? ⟨b,o+k*2,none⟩=some (.bool (f k).1.1)/\w.cell? ⟨b,o+k*2+1,none⟩=some (.slice (f k).2.1 (f k).1.2.length (f k).2.2):=by intro k hk';obtain ⟨b,o,rfl⟩:=aHe (hx 0 (by omega)).1;obtain ⟨g0,g1,_⟩:=hx k (by omega);rw [wU,(hf k hk').1] at g0;rw [wU,(hf k hk').2.1] at g1;exact ⟨b,o,rfl,g0,by simpa [zo] using g1⟩
  refine ⟨some a,(zx len).map λi=>(f i).1,m,by simp,⟨by simp;omega,λk hk=>?_⟩,λk hk b o aa n cc ha hc=>?_⟩
  ·have hk':k<len:=by simpa using hk
   obtain ⟨b,o,rfl,g0,g1⟩:=cells k hk';exact ⟨b,o,(f k).2.1,(f k).2.2,rfl,by simpa using g0,by simpa using g1,by simpa using (hf k hk').2.2.1⟩
  ·have hk':k<len:=by simpa using hk
   obtain ⟨b',o',rfl,g0,g1⟩:=cells k hk';obtain ⟨rfl,rfl⟩ : b'=b/\o'=o:=by simpa using ha
   rw [g1] at hc;obtain ⟨rfl,rfl,rfl⟩ : (f k).2.1=aa/\(f k).1.2.length=n/\(f k).2.2=cc:=by simpa using hc
   exact (hf k hk').2.2.2
end
section
open Go.ChangeShapes Go.WideShapes Go.RowKit
theorem aHf(d:DataW H):1<=Rows.uptoBulk d:=by
 cases d with
 | lit l=>cases l <;> simp [Rows.uptoBulk]
 | nil=>simp [Rows.uptoBulk]
 | ptr d=>simp [Rows.uptoBulk]
 | slice elems spare=>simp [Rows.uptoBulk]
 | agg parts=>simp [Rows.uptoBulk]
 | iface t d=>simp [Rows.uptoBulk]
 | map entries=>simp [Rows.uptoBulk]
 | held h=>simp [Rows.uptoBulk]
theorem aHg{H:Type}:∀(l:List (DataW H)),(∀d∈l,2<=Rows.uptoBulk d)->2*l.length<=Rows.uptoBulkAll l
 | [],_=>by simp [Rows.uptoBulkAll]
 | x :: r,h=>by
  have h1:=h x (by simp);have h2:=aHg r λd hd=>h d (by simp [hd])
  simp only [Rows.uptoBulkAll,List.length_cons];omega
theorem aSb{d:DataW H}{l:List (DataW H)}(h:d∈l):Rows.uptoBulk d<=Rows.uptoBulkAll l:=by
 induction l with
 | nil=>cases h
 | cons x r ih=>
  simp only [Rows.uptoBulkAll];cases zn.1 h with
  | inl e=>subst e;omega
  | inr e=>have:=ih e;omega
theorem aHh(a b:DataW H):Rows.uptoBulk (.agg [a,b])=Rows.uptoBulk a+Rows.uptoBulk b+1:=by simp [Rows.uptoBulk,Rows.uptoBulkAll]
theorem aCb{D0 D1:Nat->DataW H}{sp:List (DataW H)}:2*len<=Rows.uptoBulk (.slice ((zx len).map λi=>.agg [D0 i,D1 i]) sp)/\∀i,i<len->Rows.uptoBulk (D1 i)<=Rows.uptoBulk (.slice ((zx len).map λi=>.agg [D0 i,D1 i]) sp):=by
 constructor
 ·have:=aHg ((zx len).map λi=>DataW.agg [D0 i,D1 i]) (λd hd=>by
   obtain ⟨i,_,rfl⟩:=zs.1 hd;rw [aHh];have:=aHf (D0 i);have:=aHf (D1 i);omega)
  simp only [List.length_map,List.length_range] at this;simp only [Rows.uptoBulk];omega
 ·intro i hi;have h1:=aSb (d:=DataW.agg [D0 i,D1 i]) (l:=(zx len).map λi=>DataW.agg [D0 i,D1 i]) (zs.2 ⟨i,zj.2 hi,rfl⟩);rw [aHh] at h1;simp only [Rows.uptoBulk];omega
theorem aSc{enc:TypeId×Value->H}{n cap:Nat}{x:DataW H×List MemPlace}(h:DataW.trod enc zy w 0 (λ_=>true) true fuel 37 [.slice a n cap]=some x):2*n<=Rows.uptoBulk x.1:=by
 rcases Deep.open_slice_pairs zv zq (by kernel_rfl) rfl rfl (by kernel_rfl) (by kernel_rfl) h with ⟨e,_⟩ | ⟨a',len,cap',m,n',V0,V1,D0,D1,P0,P1,e,hb,hl,hm,hmm,rfl,hx⟩
 ·obtain ⟨-,rfl,-⟩ : a=none/\n=0/\cap=0:=by simpa using e
  omega
 ·obtain ⟨-,rfl,-⟩ : a=some a'/\n=len/\cap=cap':=by simpa using e
  exact aCb.1
theorem aSd{enc:TypeId×Value->H}{c:List Lt}{cap:Nat}{x:DataW H×List MemPlace}(h:DataW.trod enc zy w 0 (λ_=>true) true fuel 22 [.slice a c.length cap]=some x)(hl:bE w a c):2*c.length<=Rows.uptoBulk x.1/\∀z∈c,2*z.2.length<=Rows.uptoBulk x.1:=by
 rcases Deep.open_slice_pairs zu zp (by kernel_rfl) rfl rfl (by kernel_rfl) (by kernel_rfl) h with ⟨e,_⟩ | ⟨a',len,cap',m,n',V0,V1,D0,D1,P0,P1,e,hb,hl',hm,hmm,rfl,hx⟩
 ·obtain ⟨-,h0,-⟩ : a=none/\c.length=0/\cap=0:=by simpa using e
  refine ⟨by omega,λz hz=>?_⟩;rw [List.length_eq_zero_iff] at h0;subst h0;simp at hz
 ·obtain ⟨rfl,rfl,rfl⟩ : a=some a'/\c.length=len/\cap=cap':=by simpa using e
  have hmc:m=cap:=by simpa using hmm
  refine ⟨aCb.1,λz hz=>?_⟩;obtain ⟨k,hk,rfl⟩:=List.getElem_of_mem hz;obtain ⟨b,o,aa,cc,ea,_,e2,_⟩:=hl.cell k hk;obtain rfl:a'=⟨b,o,none⟩:=by simpa using ea
  obtain ⟨_,g1,_,h1⟩:=hx k (by omega);rw [wU,<-zo,e2] at g1;have hv:V1 k=.slice aa c[k].2.length cc:=by simpa using g1.symm
  rw [hv] at h1;have q1:=aSc h1;have q2:=(aCb (len:=c.length) (D0:=D0) (D1:=D1) (sp:=(zx (m-c.length)).map λj=>DataW.agg [D0 (c.length+j),D1 (c.length+j)])).2 k hk;exact zm q1 q2
theorem aSe{l:List (DataW H)}(hk:Rows.uptoSmall H l=true):Rows.uptoBulkAll l<=1048576:=of_decide_eq_true hk
end
end Go.Proofs.YtcldkjcpofjmhaaGreatDoor
