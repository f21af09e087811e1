/- Resolve answers as the document's own answer does, whatever two lists of literals and places come in, either way round and of one with itself, and leaves them as they were: the tied card of the second form. Conditions: the row's own (the library's tables stand as the program lays them), and that the arguments are of bulk at most 1048576. -/
import Derived.Test.YtcldkjcpofjmhaaGreatDoorXSr7M
import Derived.Test.YtcldkjcpofjmhaaGreatDoorCNew0M
import Derived.Test.YtcldkjcpofjmhaaGreatDoorGUsesM
import Derived.Test.YtcldkjcpofjmhaaGreatDoorLRs0M
import Derived.Test.YtcldkjcpofjmhaaGreatDoorCards
import Derived.Test.YtcldkjcpofjmhaaGreatDoorTie
import Derived.ProofKit
import Derived.OpenShut
import Derived.Carry
import Derived.Deep.DeepHandedRow
import Derived.Deep.DeepWitnessRowRef
import Derived.Lib.LaidIn
import Derived.Lib.LaidU8T
import Derived.PinnedBridge
namespace Go.Proofs.YtcldkjcpofjmhaaGreatDoor
open Go.RowKit Go.Shelf Go.WideMaps
set_option maxRecDepth 100000
theorem bW.push {x:aL×Int} {r:List (aL×Int)} {L L':List Cd} {n n':Nat} {b b':Bool} (h:bW (x :: r) L n b L' n' b') (h1:x.2=0) (h2:dL x.1.c=true) (h3:pJ x.1.c=false):∃ad cp,bW r (eZ L.length (L++[iD x.1 ad cp n]) L.length) (n+1) b L' n' b':=by unfold bW at h;rw [if_neg (by simp [h1,h2]),if_neg (by simp [h3])] at h;exact h
theorem aY2:xQ pN:=⟨by kernel_rfl,by kernel_rfl⟩
theorem aDm (c d:List Lt) (h:c=cP∨c=fA) (h':d=cP∨d=fA):jU c d=[(0,0)]:=by rcases h with rfl | rfl <;> rcases h' with rfl | rfl <;> simp [jU,lK,kV,lJ,cP,fA,List.range_succ]
theorem aKt {c:List Lt} (h:c=cP∨c=fA) (a:Nat):sH c a=[]:=by unfold sH;rw [aDm c c h h];simp [mJ]
theorem aKu {c:List Lt} (h:c=cP∨c=fA) (a b:Nat):jG c a c b=[]:=by unfold jG;rw [aDm c c h h];simp [lG]
theorem aY3:sG fA 0 cP 0=([],true,0):=
 aK0 (c:=fA) (d:=cP) (i:=0) (j:=0) (by decide) (by decide) (aXt aY2 0 1 [] (by simp) (by decide))
theorem aY4 (a b:Nat):jG fA a cP b=[(⟨2,a,b,0,0,[]⟩,0)]:=by
 have hs:lG fA a cP b (0,0)=some (⟨2,a,b,0,0,[]⟩,0):=by unfold lG;rw [if_pos (by decide)];simp only [aY3];rw [if_pos (by simp)]
 unfold jG;rw [aDm _ _ (Or.inr rfl) (Or.inl rfl)];simp [hs]
def fT:aL:=⟨1,0,0,0,0,cP⟩
def jR:aL:=⟨1,1,0,0,0,fA⟩
def oQ:aL:=⟨2,1,0,0,0,[]⟩
theorem aY5:cB cP fA=false:=aAz (l:=(false,[pN])) (by simp [cP]) (by simp [fA])
theorem aY6:cB fA cP=false:=aAz (l:=(true,[pN])) (by simp [fA]) (by simp [cP])
theorem aY7 (v:Value):jQ ([]++[(fT,v)]) 0 [0]=[]:=by unfold jQ;rw [show aP ([]++[(fT,v)]) 0=cP from rfl,aKt (Or.inl rfl)];simp only [List.flatMap_cons,List.flatMap_nil,List.nil_append,List.append_nil];exact aKu (Or.inl rfl) 0 0
theorem aY8 (v u:Value):jQ ([(fT,v)]++[(jR,u)]) 1 [0,1]=[(oQ,0)]:=by unfold jQ;rw [show aP ([(fT,v)]++[(jR,u)]) 1=fA from rfl,aKt (Or.inr rfl)];simp only [List.flatMap_cons,List.flatMap_nil,List.nil_append,List.append_nil];rw [show aP ([(fT,v)]++[(jR,u)]) 0=cP from rfl,show aP ([(fT,v)]++[(jR,u)]) 1=fA from rfl];rw [aY4,aKu (Or.inr rfl)];rfl
theorem aY9 {x y:Cd} (h:jF y x=false):eZ 1 [x,y] 1=[x,y]:=by simp [eZ,h]
def aKv (vd:Nat) (T:List (aL×Value)) (_:List Nat) (b:Bool):Prop:=vd=1∧T.map Prod.fst=[fT,jR,oQ]∧b=false
theorem aYa {L:List Cd} {n:Nat} (h:bW (lH [cP,fA]) [] 0 false L n false):iE 100 aKv L n [] [] false:=by
 have e:lH [cP,fA]=[(fT,0),(jR,0)]:=rfl;rw [e] at h;obtain ⟨ad0,cp0,h⟩:=h.push rfl (by kernel_rfl) (by kernel_rfl);obtain ⟨ad1,cp1,h⟩:=h.push rfl (by kernel_rfl) (by kernel_rfl);obtain ⟨rfl,rfl,_⟩:=h;obtain ⟨w0,hw0⟩ : ∃x,iD fT ad0 cp0 0=x:=⟨_,rfl⟩;obtain ⟨w1,hw1⟩ : ∃x,iD jR ad1 cp1 (0+1)=x:=⟨_,rfl⟩;have hL:eZ (eZ ([]:List Cd).length ([]++[iD fT ad0 cp0 0]) ([]:List Cd).length).length (eZ ([]:List Cd).length ([]++[iD fT ad0 cp0 0]) ([]:List Cd).length++[iD jR ad1 cp1 (0+1)]) (eZ ([]:List Cd).length ([]++[iD fT ad0 cp0 0]) ([]:List Cd).length).length=[w0,w1]:=by subst hw0 hw1;exact aY9 (by simp [jF,iD,fT,jR,cP,fA,aK])
 rw [hL];have hp:jH [w0,w1]=[w1]:=by subst hw0 hw1;rfl
 have c0:w0.c=cP:=by subst hw0;rfl
 have c1:w1.c=fA:=by subst hw1;rfl
 have v0:(Value.slice w0.ad w0.ln w0.cp)=.slice ad0 1 cp0:=by subst hw0;rfl
 refine iE.take fT ⟨by subst hw0;exact ⟨rfl,rfl,rfl,rfl,rfl⟩,c0⟩ (L':=[w1]) (x:=w0) (by simp) ?_ (by simp [fT,cP]) (by decide) (by simp) ?_ ?_ ?_ ?_
 ·rw [←hp];rfl
 all_goals rw [show dH [] [] fT.c=[0] from rfl,show ([]:List (aL×Value)).length=0 from rfl,aY7]
 ·simp
 ·simp
 ·simp
 rintro L2 n2 b2 ⟨rfl,rfl,rfl⟩;have hk:dH ([]++[(fT,Value.slice w0.ad w0.ln w0.cp)]) [0] jR.c=[0,1]:=by unfold dH;simp only [List.filter];rw [show aP ([]++[(fT,Value.slice w0.ad w0.ln w0.cp)]) 0=cP from rfl,show jR.c=fA from rfl,aY6];rfl
 refine iE.take jR ⟨by subst hw1;exact ⟨rfl,rfl,rfl,rfl,rfl⟩,c1⟩ (L':=[]) (x:=w1) (fun x hx k hk=>by
  simp at hx hk;subst hx hk;rw [c1];exact aEm (by decide)) ?_ (by simp [jR,fA]) (by simp) (fun k hk=>by
  simp at hk;subst hk;exact aEm (by decide)) ?_ ?_ ?_ ?_
 ·show iZ _ 1 [w1]=_;unfold iZ;simp only;rw [c1,if_neg (by simp;exact aY5)];rfl
 all_goals rw [hk]
 all_goals rw [show ([]++[(fT,Value.slice w0.ad w0.ln w0.cp)]:List (aL×Value)).length=1 from rfl,show ([]++[(fT,Value.slice w0.ad w0.ln w0.cp)]:List (aL×Value))=[(fT,Value.slice w0.ad w0.ln w0.cp)] from rfl,aY8]
 ·intro y hy;simp at hy;subst hy;exact ⟨⟨by simp [oQ],by simp [oQ]⟩,fun _ _=>by kernel_rfl⟩
 ·simp
 ·simp
 intro L2 n2 b2 h;obtain ⟨ad2,cp2,h⟩:=h.push rfl (by kernel_rfl) (by kernel_rfl);obtain ⟨rfl,rfl,rfl⟩:=h;refine iE.unsat oQ ⟨⟨rfl,rfl,rfl,rfl,rfl⟩,rfl⟩ (x:=iD oQ ad2 cp2 (0+1+1)) (L':=[]) (fun x hx k hk=>?_) ?_ rfl ⟨rfl,rfl,rfl⟩
 ·obtain rfl:x=iD oQ ad2 cp2 (0+1+1):=by simpa [eZ] using hx
  simp at hk;rcases hk with rfl | rfl <;> exact aM6 (by simp [aP,fT,jR,oQ,cP,fA,iD])
 show iZ _ 1 [iD oQ ad2 cp2 (0+1+1)]=_;unfold iZ;simp only;rw [if_neg ?_]
 ·rfl
 ·simp only [show (iD oQ ad2 cp2 (0+1+1)).c=[] from rfl,List.any_cons,List.any_nil,Bool.or_false,Bool.or_eq_true,not_or];refine ⟨?_,?_⟩
  ·rw [aAy (by simp [aP,fT,jR,cP,fA])];simp
  ·rw [aAy (by simp [aP,fT,jR,cP,fA])];simp
def aAe (Q:Nat→List (aL×Value)→List Nat→Bool→Prop) (vd:Nat) (T:List (aL×Value)) (ks:List Nat) (b:Bool):Prop:=Q vd T ks b∧((vd=1∧1≤T.length)∨vd=2∨vd=3)
theorem iE.tag {lim:Nat} {Q:Nat→List (aL×Value)→List Nat→Bool→Prop} {L:List Cd} {n:Nat} {T:List (aL×Value)} {ks:List Nat} {b:Bool} (h:iE lim Q L n T ks b):iE lim (aAe Q) L n T ks b:=by
 induction h with
 | sat hv h hq=>exact iE.sat hv h ⟨hq,Or.inr (Or.inl rfl)⟩
 | unsat s hs hv h hc hq=>exact iE.unsat s hs hv h hc ⟨hq,Or.inl ⟨rfl,by simp⟩⟩
 | out hv h hc hl hq=>exact iE.out hv h hc hl ⟨hq,Or.inr (Or.inr rfl)⟩
 | take s hs hv h hc hl hd hF hLF hnF _ ih=>exact iE.take s hs hv h hc hl hd hF hLF hnF ih
set_option maxHeartbeats 2000000 in
theorem aYb (B sb hp:Nat) (v vk:Value) (L:List Cd) (n:Nat) (T:List (aL×Value)) (ks:List Nat) (big:Bool) (va:Option Addr) (tn vc:Nat) (w:World) (h:bH B w sb hp v (.slice va tn vc) vk L n T ks big) :
  Calls Tryz.prog 39 #[.pointer (some ⟨sb,0,none⟩),.int .i64 3] w fun e w'=>e=.returned (.agg #[.int .i64 3,.slice va tn vc,.slice none 0 0,.int .i64 tn,.bool big])∧Below w.heap.size w w':=by
 obtain ⟨_,_,c2,_,c4⟩:=h.cells;have c2a:=fun X=>Below.at' ((Below.refl w.heap.size w).alloc (Nat.le_refl _) X) (Nat.le_refl _) c2
 have c4a:=fun X=>Below.at' ((Below.refl w.heap.size w).alloc (Nat.le_refl _) X) (Nat.le_refl _) c4
 clear h;go_enter Tryz.func39,Tryz.ntmps39;go_wp2_with fail;go_region_held3 (fun w'=>w'.cell? ⟨sb,2,none⟩=some (.slice va tn vc)∧w'.cell? ⟨sb,4,none⟩=some (.bool big)) (go_keep) (fail);all_goals
  go_wp2_with fail;go_returns;refine ⟨rfl,?_⟩;exact (((Below.refl _ w).alloc (Nat.le_refl _) _).alloc (by simp) _).trans (Below.mono (aJ ⟨1,rfl⟩) (by simp;omega))
def vK (vd:Nat) (vs vk:Value) (used:Nat) (b:Bool):Value:=.agg #[.int .i64 vd,vs,vk,.int .i64 used,.bool b]
structure xR (B:Nat) (w:World) (vd:Nat) (vs vk:Value) (used:Nat) (T:List (aL×Value)) (ks:List Nat):Prop where
 st:kF B w vs T
 kp:(vd=2∧dF B w vk ks)∨(vd≠2∧vk=.slice none 0 0)
 us:used=if vd=1 then T.length - 1 else T.length
theorem aYc (B sb hp:Nat) (v vs vk:Value) (L:List Cd) (n vd:Nat) (T:List (aL×Value)) (ks:List Nat) (big:Bool) (w:World) (h:bH B w sb hp v vs vk L n T ks big) (hvd:(vd=1∧1≤T.length)∨vd=2∨vd=3) (hT:T.length≤1000000) :
  Calls Tryz.prog 39 #[.pointer (some ⟨sb,0,none⟩),.int .i64 vd] w fun e w'=>∃va tn vc ka kn kc used,e=.returned (vK vd (.slice va tn vc) (.slice ka kn kc) used big)∧xR B w' vd (.slice va tn vc) (.slice ka kn kc) used T ks∧Below w.heap.size w w':=by
 obtain ⟨va,vc,rfl⟩:=aS h.st.row;obtain ⟨ka,kc,rfl⟩:=h.kp.shape;rcases hvd with ⟨rfl,hl⟩ | rfl | rfl
 ·refine (aXx B sb hp v _ L n T ks big va T.length vc w h hl hT).mono ?_;rintro e w' ⟨rfl,hb⟩;exact ⟨va,T.length,vc,none,0,0,_,rfl,⟨(h.below hb).st,Or.inr ⟨by decide,rfl⟩,rfl⟩,hb⟩
 ·refine (aXy B sb hp v L n T ks big va ka T.length vc _ kc w h).mono ?_;rintro e w' ⟨rfl,hb⟩;exact ⟨va,T.length,vc,ka,_,kc,_,rfl,⟨(h.below hb).st,Or.inl ⟨rfl,(h.below hb).kp⟩,rfl⟩,hb⟩
 ·refine (aYb B sb hp v _ L n T ks big va T.length vc w h).mono ?_;rintro e w' ⟨rfl,hb⟩;exact ⟨va,T.length,vc,none,0,0,_,rfl,⟨(h.below hb).st,Or.inr ⟨by decide,rfl⟩,rfl⟩,hb⟩
theorem aKw {α β:Type} {f:α→List β}:∀{l:List α} {x:α},(l.flatMap f).Nodup→x∈l→(f x).Nodup
 | y :: l,x,h,hx=>by
  rw [List.flatMap_cons,List.nodup_append] at h;rcases List.mem_cons.1 hx with rfl | hx
  ·exact h.1
  ·exact aKw h.2.1 hx
theorem jZ.cls {B:Nat} {w:World} {v:Value} {QV:List (List (Lt×Value)×Value)} (h:jZ B w v QV):pO B w v (QV.map fun p=>(p.1.map Prod.fst,p.2)):=by
 refine ⟨?_,fun p hp=>?_⟩
 ·have:=h.mem.1;simpa [List.map_map,Function.comp_def] using this
 ·obtain ⟨q,hq,rfl⟩:=List.mem_map.1 hp;refine ⟨q.1,rfl,(h.mem.2 q hq).1.1,(h.mem.2 q hq).1.2,?_⟩;have:=aKw h.atoms hq;simpa [List.filterMap_map,Function.comp_def] using this
theorem pO.fsts (QV:List (List (Lt×Value)×Value)):(QV.map fun p=>(p.1.map Prod.fst,p.2)).map Prod.fst=QV.map fun p=>p.1.map Prod.fst:=by simp [List.map_map,Function.comp_def]
def A5 (w:World) (b:Nat) (x0 x1 x2 x3 x4:Value):Prop:=w.heap[b]?=some (.cells #[x0,x1,x2,x3,x4] 47 (0,0))
def mL (w:World) (b:Nat) (x0 x1 x2 x3 x4:Value):World:=(((((w.setCell ⟨b,0,none⟩ x0).setCell ⟨b,1,none⟩ x1).setCell ⟨b,2,none⟩ x2).setCell ⟨b,3,none⟩ x3).setCell ⟨b,4,none⟩ x4)
theorem A5.cells {w:World} {b:Nat} {x0 x1 x2 x3 x4:Value} (h:A5 w b x0 x1 x2 x3 x4):w.cell? ⟨b,0,none⟩=some x0∧w.cell? ⟨b,1,none⟩=some x1∧w.cell? ⟨b,2,none⟩=some x2∧w.cell? ⟨b,3,none⟩=some x3∧w.cell? ⟨b,4,none⟩=some x4:=by refine ⟨?_,?_,?_,?_,?_⟩ <;> simp [World.cell?,show w.heap[b]?=_ from h]
theorem A5.frz {w:World} {b:Nat} {x0 x1 x2 x3 x4:Value} (h:A5 w b x0 x1 x2 x3 x4) (k:Nat):w.frozen? ⟨b,k,none⟩=false:=by simp [World.frozen?,show w.heap[b]?=_ from h]
theorem A5.put {w:World} {b:Nat} {x0 x1 x2 x3 x4:Value} (h:A5 w b x0 x1 x2 x3 x4) (y0 y1 y2 y3 y4:Value):A5 (mL w b y0 y1 y2 y3 y4) b y0 y1 y2 y3 y4∧w.grownBy (mL w b y0 y1 y2 y3 y4) (some b):=by
 have hs:∀(u:World) (cs:Array Value) (k:Nat) (v:Value),u.heap[b]?=some (.cells cs 47 (0,0))→(u.setCell ⟨b,k,none⟩ v).heap[b]?=some (.cells (cs.setIfInBounds k v) 47 (0,0)):=fun u cs k v hu=>by
  have hlt:=(Array.getElem?_eq_some_iff.1 hu).1;show (u.heap.modify b _)[b]?=_;rw [Array.getElem?_eq_getElem (by rw [Array.size_modify];exact hlt),Array.getElem_modify_self,(Array.getElem?_eq_some_iff.1 hu).2];rfl
 constructor
 ·unfold A5 mL;rw [hs _ _ 4 _ (hs _ _ 3 _ (hs _ _ 2 _ (hs _ _ 1 _ (hs _ _ 0 _ h))))];simp
 ·unfold mL;have h:∀(u:World) (k:Nat) (v:Value),w.grownBy u (some b)→w.grownBy (u.setCell ⟨b,k,none⟩ v) (some b):=fun u k v hu=>jW hu (bQ u ⟨b,k,none⟩ v)
  exact h _ _ _ (h _ _ _ (h _ _ _ (h _ _ _ (h _ _ _ ⟨rfl,rfl,rfl,Nat.le_refl _,fun _ _ _=>rfl⟩))))
theorem vN {w w2 w3:World} {b:Nat} (h:Below w.heap.size w w2) (hg:w2.grownBy w3 (some b)) (hb:w.heap.size≤b):Below w.heap.size w w3:=
 h.grown hg h.size (fun j e=>by cases e;exact hb)
theorem kF.low {B B':Nat} {w:World} {v:Value} {T:List (aL×Value)} (h:kF B w v T) (hB:B'≤B):kF B' w v T:=⟨dI h.row hB,fun p hp=>(h.cl p hp).low hB⟩
theorem xR.kept {S:List TypeId} {B B':Nat} {w w':World} {vd:Nat} {vs vk:Value} {used:Nat} {T:List (aL×Value)} {ks:List Nat} (h:xR B w vd vs vk used T ks) (hB:B'≤B) (k:dC S w w') (h1:71∉S) (h2:39∉S) (h3:36∉S) (h4:3∉S):xR B' w' vd vs vk used T ks:=
 ⟨(h.st.low hB).kept k h1 h2 h3,by rcases h.kp with ⟨a,b⟩ | h;exact Or.inl ⟨a,k.row (dI b hB) h4⟩;exact Or.inr h,h.us⟩
def pP:Value:=.agg #[.int .i64 0,.slice none 0 0,.slice none 0 0,.int .i64 0,.bool false]
def vO (s:ByteArray) (lim:Int) (Q:List (List Lt)→Nat→List (aL×Value)→List Nat→Bool→Prop) (w:World) (e:Ending) (w':World):Prop:=
 ∃out at' er,tF s out at' er∧Below w.heap.size w w'∧((er≠0∧e=.returned (.tuple #[pP,.int .i64 er]))∨(er=0∧¬(1≤lim∧lim≤100)∧e=.returned (.tuple #[pP,.int .i64 7]))∨
  (er=0∧1≤lim∧lim≤100∧∃vd vs vk used b T ks,e=.returned (.tuple #[vK vd vs vk used b,.int .i64 0])∧xR w.heap.size w' vd vs vk used T ks∧aAe (Q out) vd T ks b))
set_option maxHeartbeats 8000000 in
theorem aYd (s:ByteArray) (lim:Int) (Q:List (List Lt)→Nat→List (aL×Value)→List Nat→Bool→Prop) (w:World) (hs0:s.size≤140737488355328) (hQ:∀out at',tF s out at' 0→(∀c∈out,dB c=true)∧out.length≤1000∧∀l:Nat,lim=l→1≤l→l≤100→∀L n,bW (lH out) [] 0 false L n false→iE l (Q out) L n [] [] false) :
  Calls Tryz.prog 23 #[.string s,.int .i64 lim] w fun e w'=>vO s lim Q w e w':=by
 obtain ⟨w1,hw1,hb1,hx1,hs1⟩ : ∃w1,w.alloc (.cells #[.int .i64 0,.slice none 0 0,.slice none 0 0,.int .i64 0,.bool false] 47)=w1∧Below w.heap.size w w1∧A5 w1 w.heap.size (.int .i64 0) (.slice none 0 0) (.slice none 0 0) (.int .i64 0) (.bool false)∧w1.heap.size=w.heap.size+1:=⟨_,rfl,(Below.refl _ w).alloc (Nat.le_refl _) _,World.alloc_heap_new w _,by simp⟩;have CS:=aA (aFk s w1 hs0);have HQ:=aA hQ;clear hQ;go_enter Tryz.func23,Tryz.ntmps23;go_upto_region 1 with (fail);clear hw1;go_wp2_with (first
  | (go_at_call 21;refine (aB CS).mono ?_)
  | go_in)
 clear CS;rintro e w2 ⟨v,QV,at1,er,rfl,hrd,hmem,hb2⟩;have hx2:A5 w2 w.heap.size (.int .i64 0) (.slice none 0 0) (.slice none 0 0) (.int .i64 0) (.bool false):=(hb2.block _ (by omega)).trans hx1;have hbw:Below w.heap.size w w2:=hb1.trans (hb2.mono (by omega));have hz2:=hb2.size;obtain ⟨va,vc,rfl⟩:=aS hmem.mem.1;have HRD:=aA hrd;have HX2:=aA hx2;have HBW:=aA hbw;by_cases he:er=0
 ·subst he;obtain ⟨hcl,hlen,hrun⟩:=HQ.out _ _ hrd;by_cases hl:1≤lim∧lim≤100
  ·obtain ⟨l,rfl⟩ : ∃l:Nat,lim=l:=⟨lim.toNat,by omega⟩;have hl1:1≤l:=by omega
   have hl2:l≤100:=by omega
   have hc1:decide ((l:Int) < 1)=false:=by simp;omega
   have hc2:decide ((100:Int) < (l:Int))=false:=by simp;omega
   have hmQ:∀c∈QV.map (fun p=>p.1.map Prod.fst),dB c=true:=hcl;have CS:=aA (aY1 w1.heap.size _ _ w2 hmem.cls (fun p hp=>hcl p.1 (by
    obtain ⟨q,hq,rfl⟩:=List.mem_map.1 hp;exact List.mem_map.2 ⟨q,hq,rfl⟩)) (by simpa using hlen) hz2)
   rw [pO.fsts] at CS;obtain ⟨out,hout⟩ : ∃out,(QV.map fun p=>p.1.map Prod.fst)=out:=⟨_,rfl⟩;rw [hout] at CS hrun hmQ hlen hcl hrd;have HRUN:Hid (∀sb hp w3,vJ w1.heap.size w2 sb hp out out.length w3→aAo w1.heap.size sb hp l (aAe (Q out)) w3 w3):=aA fun sb hp w3 ⟨v3,L3,n3,h1,h2,h3⟩=>by
    have hgl:(lH out).length=out.length:=by simp [lH]
    rw [show (lH out).take out.length=lH out by rw [←hgl,List.take_length]] at h2;have hlen2:=bW.len _ h2;simp at hlen2;refine ⟨_,_,_,L3,n3,[],[],false,h1,(hrun l rfl hl1 hl2 L3 n3 h2).tag,⟨fun x hx=>?_,by simp,by simp,by simp,by omega,by omega⟩,by simp,Mv.refl _ _ _,Nat.le_trans hz2 h3.size⟩;rcases h2.mem _ x hx with h | ⟨y,hy,_,_,hyc⟩
    ·simp at h
    ·rw [hyc];simp only [lH,List.mem_mapIdx] at hy;obtain ⟨k,hk,rfl⟩:=hy;exact hcl _ (List.getElem_mem hk)
   have HRD2:=aA hrd;clear hrd hx1 hx2 hmem hb1 hb2 hbw HQ hcl hlen hrun hmQ HRD hl;generalize QV.length=qn at *;go_wp2_with (first
    | (go_at_call 38;refine (aB CS).mono ?_)
    | go_in)
   rintro e w3 ⟨sb,hp,rfl,hst⟩;have HM3:=aA (show Mv nW w1.heap.size w2 w3 by
    obtain ⟨_,_,_,_,_,h3⟩:=hst;exact h3.mono (by decide) (Nat.le_refl _))
   have CR:=aA (aYz w1.heap.size sb hp l (aAe (Q out)) w3 (HRUN.out sb hp w3 hst) hl2);clear hst HRUN CS;go_wp2_with (first
    | (go_at_call 40;refine (aB CR).mono ?_)
    | go_in)
   rintro e w4 ⟨vd,v4,vs4,vk4,L4,n4,T4,ks4,b4,rfl,hS4,hq4,hT4,hm4⟩;have HM4:=aA (HM3.out.trans hm4);have CA:=aA (aYc w1.heap.size sb hp v4 vs4 vk4 L4 n4 vd T4 ks4 b4 w4 hS4 hq4.2 (by omega));unfold vK at CA;have HQ4:=aA hq4;clear hS4 hq4 hT4 hm4 CR HM3;go_wp2_with (first
    | (go_at_call 39;refine (aB CA).mono ?_)
    | go_in)
   rintro e w5 ⟨xa,xn,xc,ka,kn,kc,used,rfl,hA5,hb5⟩;have hM5:Mv nW w1.heap.size w2 w5:=HM4.out.trans (Mv.of_below hb5);have hx5:A5 w5 w.heap.size (.int .i64 0) (.slice none 0 0) (.slice none 0 0) (.int .i64 0) (.bool false):=hM5.cells HX2.out (by decide);have hb6:Below w.heap.size w w5:=HBW.out.trans ((hM5.below hz2).mono (by omega));obtain ⟨q0,q1,q2,q3,q4⟩:=hx5.cells;have qz:=hx5.frz;obtain ⟨hp5,hg5⟩:=hx5.put (.int .i64 vd) (.slice xa xn xc) (.slice ka kn kc) (.int .i64 used) (.bool b4);obtain ⟨t0,t1,t2,t3,t4⟩:=hp5.cells;have HF:Hid (vO s l Q w (.returned (.tuple #[vK vd (.slice xa xn xc) (.slice ka kn kc) used b4,.int .i64 0])) (mL w5 w.heap.size (.int .i64 vd) (.slice xa xn xc) (.slice ka kn kc) (.int .i64 used) (.bool b4))):=aA
    ⟨out,_,_,HRD2.out,vN hb6 hg5 (Nat.le_refl _),Or.inr (Or.inr ⟨rfl,by omega,by omega,vd,_,_,used,b4,T4,ks4,rfl,hA5.kept (by omega) (Mv.of_grown (S:=[47]) (B:=0) hg5 (fun k hk=>by cases hk;exact ⟨Nat.zero_le _,_,_,hx5,by simp⟩)).kps (by decide) (by decide) (by decide) (by decide),HQ4.out⟩)⟩
   clear hA5 hb5 hM5 hx5 hb6 hp5 hg5 CA HM4 HQ4 HRD2 HBW HX2;go_wp2_with (fail);refine bodyPost_ret (v:=.tuple #[vK vd (.slice xa xn xc) (.slice ka kn kc) used b4,.int .i64 0]) (w:=mL w5 w.heap.size (.int .i64 vd) (.slice xa xn xc) (.slice ka kn kc) (.int .i64 used) (.bool b4)) (by simp [results,Tryz.results23,go_sem,t0,t1,t2,t3,t4,vK];try rfl) rfl ?_;exact HF.out
  ·have hl3:lim < 1∨100 < lim:=by omega
   obtain ⟨q0,q1,q2,q3,q4⟩:=hx2.cells;have qz:=hx2.frz;obtain ⟨hp5,hg5⟩:=hx2.put (.int .i64 0) (.slice none 0 0) (.slice none 0 0) (.int .i64 0) (.bool false);obtain ⟨t0,t1,t2,t3,t4⟩:=hp5.cells;have HF:Hid (vO s lim Q w (.returned (.tuple #[pP,.int .i64 7])) (mL w2 w.heap.size (.int .i64 0) (.slice none 0 0) (.slice none 0 0) (.int .i64 0) (.bool false))):=aA ⟨_,_,_,hrd,vN hbw hg5 (Nat.le_refl _),Or.inr (Or.inl ⟨rfl,hl,rfl⟩)⟩;clear hrd hx1 hx2 hp5 hg5 hmem hb1 hb2 hbw HQ hcl hlen hrun HRD;rcases hl3 with hl3 | hl3
   ·clear hl;go_wp2_with (fail);refine bodyPost_ret (v:=.tuple #[pP,.int .i64 7]) (w:=mL w2 w.heap.size (.int .i64 0) (.slice none 0 0) (.slice none 0 0) (.int .i64 0) (.bool false)) (by simp [results,Tryz.results23,go_sem,t0,t1,t2,t3,t4,pP];try rfl) rfl ?_;exact HF.out
   ·have hl4:decide (lim < 1)=false:=by simp;omega
    clear hl;go_wp2_with (fail);refine bodyPost_ret (v:=.tuple #[pP,.int .i64 7]) (w:=mL w2 w.heap.size (.int .i64 0) (.slice none 0 0) (.slice none 0 0) (.int .i64 0) (.bool false)) (by simp [results,Tryz.results23,go_sem,t0,t1,t2,t3,t4,pP];try rfl) rfl ?_;exact HF.out
 ·have he1:(er == 0)=false:=by simpa using he
  have he2:(er != 0)=true:=by simpa using he
  obtain ⟨q0,q1,q2,q3,q4⟩:=hx2.cells;have qz:=hx2.frz;obtain ⟨hp5,hg5⟩:=hx2.put (.int .i64 0) (.slice none 0 0) (.slice none 0 0) (.int .i64 0) (.bool false);obtain ⟨t0,t1,t2,t3,t4⟩:=hp5.cells;have HF:Hid (vO s lim Q w (.returned (.tuple #[pP,.int .i64 er])) (mL w2 w.heap.size (.int .i64 0) (.slice none 0 0) (.slice none 0 0) (.int .i64 0) (.bool false))):=aA ⟨_,_,_,hrd,vN hbw hg5 (Nat.le_refl _),Or.inl ⟨he,rfl⟩⟩;clear hrd hx1 hx2 hp5 hg5 hmem hb1 hb2 hbw HQ;go_wp2_with (fail);refine bodyPost_ret (v:=.tuple #[pP,.int .i64 er]) (w:=mL w2 w.heap.size (.int .i64 0) (.slice none 0 0) (.slice none 0 0) (.int .i64 0) (.bool false)) (by simp [results,Tryz.results23,go_sem,t0,t1,t2,t3,t4,pP];try rfl) rfl ?_;exact HF.out
theorem aYe (s:ByteArray) (lim:Int) (Q:List (List Lt)→Nat→List (aL×Value)→List Nat→Bool→Prop) (w:World) (hs0:s.size≤140737488355328) (hQ:∀out at',tF s out at' 0→(∀c∈out,dB c=true)∧out.length≤1000∧∀l:Nat,lim=l→1≤l→l≤100→∀L n,bW (lH out) [] 0 false L n false→iE l (Q out) L n [] [] false) :
  Calls Tryz.prog 11 #[.string s,.int .i64 lim] w fun e w'=>vO s lim Q w e w':=by
 obtain ⟨w1,hw1,hb1,hx1,hs1⟩ : ∃w1,w.alloc (.cells #[.int .i64 0,.slice none 0 0,.slice none 0 0,.int .i64 0,.bool false] 47)=w1∧Below w.heap.size w w1∧A5 w1 w.heap.size (.int .i64 0) (.slice none 0 0) (.slice none 0 0) (.int .i64 0) (.bool false)∧w1.heap.size=w.heap.size+1:=⟨_,rfl,(Below.refl _ w).alloc (Nat.le_refl _) _,World.alloc_heap_new w _,by simp⟩;have CS:=aA (aYd s lim Q w1 hs0 hQ);clear hQ;go_enter Tryz.func11,Tryz.ntmps11;go_upto_region 1 with (fail);clear hw1;go_wp2_with (first
  | (go_at_call 23;refine (aB CS).mono ?_)
  | go_in)
 clear CS;rintro e w2 ⟨out,at1,er,hrd,hb2,h⟩;have hx2:A5 w2 w.heap.size (.int .i64 0) (.slice none 0 0) (.slice none 0 0) (.int .i64 0) (.bool false):=(hb2.block _ (by omega)).trans hx1;have hbw:Below w.heap.size w w2:=hb1.trans (hb2.mono (by omega));obtain ⟨y0,xa,xn,xc,ka,kn,kc,y3,y4,ec,rfl,hF⟩ : ∃(y0:Int) (xa:Option Addr) (xn xc:Nat) (ka:Option Addr) (kn kc:Nat) (y3:Int) (y4:Bool) (ec:Int),e=.returned (.tuple #[.agg #[.int .i64 y0,.slice xa xn xc,.slice ka kn kc,.int .i64 y3,.bool y4],.int .i64 ec])∧vO s lim Q w (.returned (.tuple #[.agg #[.int .i64 y0,.slice xa xn xc,.slice ka kn kc,.int .i64 y3,.bool y4],.int .i64 ec])) (mL w2 w.heap.size (.int .i64 y0) (.slice xa xn xc) (.slice ka kn kc) (.int .i64 y3) (.bool y4)):=by
  rcases h with ⟨h1,rfl⟩ | ⟨h1,h2,rfl⟩ | ⟨h1,h2,h3,vd,vs,vk,used,b,T,ks,rfl,h4,h5⟩
  ·obtain ⟨hp5,hg5⟩:=hx2.put (.int .i64 0) (.slice none 0 0) (.slice none 0 0) (.int .i64 0) (.bool false);exact ⟨_,_,_,_,_,_,_,_,_,_,rfl,out,at1,er,hrd,vN hbw hg5 (Nat.le_refl _),Or.inl ⟨h1,rfl⟩⟩
  ·obtain ⟨hp5,hg5⟩:=hx2.put (.int .i64 0) (.slice none 0 0) (.slice none 0 0) (.int .i64 0) (.bool false);exact ⟨_,_,_,_,_,_,_,_,_,_,rfl,out,at1,er,hrd,vN hbw hg5 (Nat.le_refl _),Or.inr (Or.inl ⟨h1,h2,rfl⟩)⟩
  ·obtain ⟨va,vc,rfl⟩:=aS h4.st.row;obtain ⟨ka,kn,kc,rfl⟩ : ∃ka kn kc,vk=.slice ka kn kc:=by
    rcases h4.kp with ⟨_,hk⟩ | ⟨_,hk⟩
    ·obtain ⟨ka,kc,rfl⟩:=aS hk;exact ⟨_,_,_,rfl⟩
    ·exact ⟨_,_,_,hk⟩
   obtain ⟨hp5,hg5⟩:=hx2.put (.int .i64 vd) (.slice va T.length vc) (.slice ka kn kc) (.int .i64 used) (.bool b);exact ⟨_,_,_,_,_,_,_,_,_,_,rfl,out,at1,er,hrd,vN hbw hg5 (Nat.le_refl _),Or.inr (Or.inr ⟨h1,h2,h3,vd,_,_,used,b,T,ks,rfl,h4.kept (by omega) (Mv.of_grown (S:=[47]) (B:=0) hg5 (fun k hk=>by cases hk;exact ⟨Nat.zero_le _,_,_,hx2,by simp⟩)).kps (by decide) (by decide) (by decide) (by decide),h5⟩)⟩
 obtain ⟨q0,q1,q2,q3,q4⟩:=hx2.cells;have qz:=hx2.frz;obtain ⟨hp5,hg5⟩:=hx2.put (.int .i64 y0) (.slice xa xn xc) (.slice ka kn kc) (.int .i64 y3) (.bool y4);obtain ⟨t0,t1,t2,t3,t4⟩:=hp5.cells;have HF:=aA hF;clear hF hrd h hx1 hx2 hbw hb1 hb2 hp5 hg5;go_wp2_with (fail);refine bodyPost_ret (v:=.tuple #[.agg #[.int .i64 y0,.slice xa xn xc,.slice ka kn kc,.int .i64 y3,.bool y4],.int .i64 ec]) (w:=mL w2 w.heap.size (.int .i64 y0) (.slice xa xn xc) (.slice ka kn kc) (.int .i64 y3) (.bool y4)) (by simp [results,Tryz.results11,go_sem,t0,t1,t2,t3,t4];try rfl) rfl ?_;exact HF.out
theorem aYf:jP [(false,pL)] [(true,pM)] 0 0 [] true 0:=
 Or.inr ⟨by kernel_rfl,by kernel_rfl,Or.inr ⟨0,0,⟨by decide,by decide,rfl,rfl,by decide⟩,aXu⟩⟩
theorem aYg (w:World):Calls Tryz.prog 11 #[.string ⟨#[112,46,32,126,112,46]⟩,.int .i64 100] w fun e w'=>∃va vn vc used T,e=.returned (.tuple #[.agg #[.int .i64 1,.slice va vn vc,.slice none 0 0,.int .i64 (used:Nat),.bool false],.int .i64 0])∧T.map Prod.fst=[fT,jR,oQ]∧kF w.heap.size w' (.slice va vn vc) T∧Below w.heap.size w w':=by
 refine (aYe _ 100 (fun _=>aKv) w (by decide) (fun out at' h=>?_)).mono ?_
 ·obtain ⟨rfl,_,_⟩:=aKr h;refine ⟨fun c hc=>?_,by simp,fun l hl _ _ L n hT=>?_⟩
  ·simp at hc;rcases hc with rfl | rfl <;> kernel_rfl
  ·obtain rfl:l=100:=by omega
   exact aYa hT
 ·rintro e w' ⟨out,at',er,hrd,hb,h⟩;obtain ⟨rfl,rfl,rfl⟩:=aKr hrd;rcases h with ⟨h1,_⟩ | ⟨_,h1,_⟩ | ⟨_,_,_,vd,vs,vk,used,b,T,ks,rfl,hA,hE⟩
  ·exact absurd rfl h1
  ·exact absurd ⟨by decide,by decide⟩ h1
  ·obtain ⟨⟨rfl,hT,rfl⟩,_⟩:=hE;obtain ⟨va,vc,rfl⟩:=aS hA.st.row;rcases hA.kp with ⟨h2,_⟩ | ⟨_,rfl⟩
   ·cases h2
   ·exact ⟨va,_,vc,used,T,rfl,hT,hA.st,hb⟩
set_option maxHeartbeats 4000000 in
theorem aYh (p:Value) (w:World) (hT:jY w):Calls Tryz.prog 5 #[p] w fun e w'=>e=.returned (.bool true)∧Below w.heap.size w w':=by
 have CR:=aA (aOl ⟨#[112,40,97,41,46,32,126,112,40,88,41,46]⟩ w (by decide));have HT:=aA hT;clear hT;go_enter Tryz.func5,Tryz.ntmps5;go_wp2_with (first
  | (go_at_call 9;refine (aB CR).mono ?_)
  | go_in)
 clear CR;rintro e w1 ⟨v,QV,at1,er,rfl,hrd,hmem,hb1⟩;obtain ⟨hout,rfl,rfl⟩:=aXr hrd;have hcls:=hmem.cls;obtain ⟨P,hP⟩ : ∃P,(QV.map fun p=>(p.1.map Prod.fst,p.2))=P:=⟨_,rfl⟩;rw [←pO.fsts,hP] at hout;rw [hP] at hcls;have hl2:P.length=2:=by have:=congrArg List.length hout;simpa using this
 have p0:P[0].1=[(false,pL)]:=by have:=congrArg (fun l=>l[0]?) hout;simpa [hl2] using this
 have p1:P[1].1=[(true,pM)]:=by have:=congrArg (fun l=>l[1]?) hout;simpa [hl2] using this
 obtain ⟨g,cap,ad0,cp0,rfl,-,c0,m0⟩:=hcls.cell (k:=0) (by omega);obtain ⟨g',cap',ad1,cp1,hg,-,c1,m1⟩:=hcls.cell (k:=1) (by omega);simp at hg;obtain ⟨rfl,rfl⟩:=hg;rw [p0] at c0 m0;rw [p1] at c1 m1;rw [hl2];obtain ⟨_,_,e0,-,L0,-⟩:=m0.lits (oY (by kernel_rfl));cases e0;obtain ⟨_,_,e1,-,L1,-⟩:=m1.lits (oY (by kernel_rfl));cases e1;have CS:=aA (fun (wx:World) (hx:∃d,wx=w1.drewN d)=>(aKo ad0 ad1 cp0 cp1 [(false,pL)] [(true,pM)] 0 0 wx (by obtain ⟨d,rfl⟩:=hx;exact L0.below (aJ ⟨d,rfl⟩) (Nat.le_refl _)) (by obtain ⟨d,rfl⟩:=hx;exact L1.below (aJ ⟨d,rfl⟩) (Nat.le_refl _)) (by obtain ⟨d,rfl⟩:=hx;exact (HT.out.below hb1 (Nat.le_refl _)).below (aJ ⟨d,rfl⟩) (Nat.le_refl _))).mono (R':=fun e w2=>∃ra rc,e=.returned (.tuple #[.slice ra 0 rc,.bool true,.int .i64 0])∧Below w.heap.size w w2∧Below w1.heap.size w1 w2) (fun e w2 he=>by
  obtain ⟨d,rfl⟩:=hx;obtain ⟨v2,out,yes,er,rfl,hsp,hcm,_,hb2⟩:=he;obtain ⟨rfl,rfl,rfl⟩:=hsp.one aYf;obtain ⟨ra,rc,rfl⟩:=hcm.shape;exact ⟨ra,rc,rfl,hb1.trans (((aJ ⟨d,rfl⟩).trans hb2).mono hb1.size),(aJ ⟨d,rfl⟩).trans hb2⟩))
 have CV:=aA (fun (wx:World)=>aYg wx);clear hrd hmem hb1 hout hcls hP p0 p1 m0 m1 L0 L1 HT hl2;simp only [List.length_cons,List.length_nil,Nat.zero_add] at c0 c1 CS;go_wp2;go_region_held3 (fun w'=>w'.cell? ⟨g,0,none⟩=some (.slice ad0 1 cp0)∧w'.cell? ⟨g,1,none⟩=some (.slice ad1 1 cp1)) (first | trivial | go_keep)
  (first
   | (go_at_call 10;refine (aB CS _ (by first | exact ⟨0,rfl⟩ | exact ⟨1,rfl⟩ | exact ⟨_,rfl⟩)).mono ?_;rintro e w2 ⟨ra,rc,rfl,hb2,hb3⟩;have k0:=Below.at' hb3 (Nat.le_refl _) c0;have k1:=Below.at' hb3 (Nat.le_refl _) c1;have HB2:=aA hb2;clear hb2 hb3)
   | go_in)
 clear k0 k1 c0 c1 CS;go_wp2_with (first
  | (go_at_call 11;refine (aB CV _).mono ?_;rintro e w3 ⟨va,vn,vc,used,T,rfl,-,-,hb3⟩;have HB3:=aA (HB2.out.trans (hb3.mono HB2.out.size));clear hb3)
  | go_in)
 go_ret;exact ⟨rfl,HB3.out.alloc HB3.out.size _⟩
abbrev fU:Value:=.slice none 0 0
theorem aYi (w:World):dM (w.alloc (.cells (kZ (fU,fU) fU fU 0) 31)) w.heap.size w.heap.size fU fU fU fU [] [] [] 0:=by
 have hh:(w.alloc (.cells (kZ (fU,fU) fU fU 0) 31)).heap[w.heap.size]?=some (.cells (kZ (fU,fU) fU fU 0) 31):=by show (w.heap.push _)[w.heap.size]?=_;simp
 exact ⟨⟨hh,Nat.le_refl _,World.ownsRow_nil _ _ _ _,World.ownsRow_nil _ _ _ _,fun x hx=>by simp at hx,by simp,by omega,by omega⟩,World.ownsRow_nil _ _ _ _,World.ownsRow_nil _ _ _ _,fun f hf=>by simp at hf,fun f hf=>by simp at hf,by simp,by simp,fun k hk=>by simp at hk⟩
set_option maxHeartbeats 4000000 in
theorem aYj (ax ay:Option Addr) (cx cy:Nat) (x y:List Lt) (i j:Int) (w:World) (hx:bD w ax x) (zx:oU w ax x) (hy:bD w ay y) (zy:oU w ay y) (hT:jY w) (sx:x.length≤1000000) (qx:∀z∈x,z.2.length≤1000000) (sy:y.length≤1000000) (qy:∀z∈y,z.2.length≤1000000) :
  Calls Tryz.prog 3 #[.slice ax x.length cx,.int .i64 i,.slice ay y.length cy,.int .i64 j] w fun e w'=>e=.returned (.bool true)∧Below w.heap.size w w':=by
 have hb0:Below w.heap.size w (w.alloc (.cells (kZ (fU,fU) fU fU 0) 31)):=(Below.refl _ w).alloc (Nat.le_refl _) _;have CA:=aA (aYh (.pointer (some ⟨w.heap.size,0,none⟩)) (w.alloc (.cells (kZ (fU,fU) fU fU 0) 31)) (hT.below hb0 (Nat.le_refl _)));have CL:=aA (fun (wx:World) (hb:Below w.heap.size w wx) (nv mv xv yv:Value) (E:List (Value×Int)) (F:List bY) (G:List cX) (next:Int) (hB:dM wx w.heap.size w.heap.size nv mv xv yv E F G next) (hE:E.length≤6000000000) (hF1:F.length < 800000000) (hnx : -6000000000≤next)=>And.intro (aBo w.heap.size w.heap.size nv mv xv yv E F G next ax ay cx cy x y i j wx hB (hx.below hb (Nat.le_refl _)) (zx.below hx hb) (hy.below hb (Nat.le_refl _)) (zy.below hy hb) (hT.below hb (Nat.le_refl _)) sx qx sy qy hE hF1 hnx) (And.intro (aBo w.heap.size w.heap.size nv mv xv yv E F G next ay ax cy cx y x j i wx hB (hy.below hb (Nat.le_refl _)) (zy.below hy hb) (hx.below hb (Nat.le_refl _)) (zx.below hx hb) (hT.below hb (Nat.le_refl _)) sy qy sx qx hE hF1 hnx) (aBo w.heap.size w.heap.size nv mv xv yv E F G next ax ax cx cx x x i j wx hB (hx.below hb (Nat.le_refl _)) (zx.below hx hb) (hx.below hb (Nat.le_refl _)) (zx.below hx hb) (hT.below hb (Nat.le_refl _)) sx qx sx qx hE hF1 hnx)));have HB0:=aA hb0;clear hx zx hy zy hT qx qy hb0;go_enter Tryz.func3,Tryz.ntmps3;go_upto_region 3 with (first
  | (go_at_call 5;refine (aB CA).mono ?_;rintro e w1 ⟨rfl,hb1⟩;have HW1:=aA (HB0.out.trans (hb1.mono (by simp)));have HK1:=aA ((aYi w).below hb1);clear hb1)
  | go_in)
 have C1:=aA (aB CL w1 HW1.out _ _ _ _ _ _ _ _ HK1.out (by simp) (by simp) (by omega)).1;go_upto_region 4 with (first
  | (go_at_call 6;refine (aB C1).mono ?_;rintro e w2 ⟨rfl,nv2,mv2,xv2,E2,F2,next2,r2⟩;have HR2:=aA r2;clear r2)
  | go_in)
 have e2:=HR2.out.lenE;have f2:=HR2.out.lenF;have m2:=HR2.out.lo;simp at e2 f2;have HW2:=aA (HW1.out.trans HR2.out.low);have C2:=aA (aB CL w2 HW2.out _ _ _ _ _ _ _ _ HR2.out.book (by omega) (by omega) (by omega)).2.1;go_upto_region 5 with (first
  | (go_at_call 6;refine (aB C2).mono ?_;rintro e w3 ⟨rfl,nv3,mv3,xv3,E3,F3,next3,r3⟩;have HR3:=aA r3;clear r3)
  | go_in)
 have e3:=HR3.out.lenE;have f3:=HR3.out.lenF;have m3:=HR3.out.lo;have HW3:=aA (HW2.out.trans HR3.out.low);have C3:=aA (aB CL w3 HW3.out _ _ _ _ _ _ _ _ HR3.out.book (by omega) (by omega) (by omega)).2.2;go_upto_region 6 with (first
  | (go_at_call 6;refine (aB C3).mono ?_;rintro e w4 ⟨rfl,nv4,mv4,xv4,E4,F4,next4,r4⟩;have HR4:=aA r4;clear r4)
  | go_in)
 have HW4:=aA (HW3.out.trans HR4.out.low);have CK:=aA (aLb w.heap.size w.heap.size nv4 mv4 xv4 fU E4 F4 [] next4 w4 HR4.out.book);clear e2 f2 m2 e3 f3 m3 C1 C2 C3 CL CA;go_wp2_with (first
  | (go_at_call 7;refine (aB CK).mono ?_;rintro e w5 ⟨rfl,hb5⟩;have HW5:=aA (HW4.out.trans (hb5.mono HW4.out.size));clear hb5)
  | go_in)
 go_ret;exact ⟨rfl,HW5.out⟩
end Go.Proofs.YtcldkjcpofjmhaaGreatDoor
namespace Go.Proofs.YtcldkjcpofjmhaaGreatDoor
open Go.ChangeShapes Go.WideShapes Go.ChangeAt Go.RowKit Go.Lib Go.Shelf
set_option maxRecDepth 100000
theorem own:ownKnob Tryz.prog.godebug=none:=by kernel_rfl
theorem aAf:laidOutB Tryz.prog=true:=by kernel_rfl
theorem aYk {W:World} (h:laidMetH Tryz.prog Rows.resolvedUptoRow.laid W):jY W:=by
 have hL:laidMet Tryz.prog Rows.resolvedUptoRow.laid W:=h;refine utf8Tabs_of_readsT (U8Types.of196 aHk) ⟨by kernel_rfl,by kernel_rfl,by kernel_rfl,by kernel_rfl,by kernel_rfl,by kernel_rfl,by kernel_rfl⟩ ?_ ?_
 ·rw [←Pinned.utf8First_eq];exact Lib.laidMet.reads hL (by simp [Rows.resolvedUptoRow,Rows.laid_unicode_utf8_first])
 ·have e:(Rows.laid_unicode_utf8_acceptRanges:DataW Unit)=acceptData:=by kernel_rfl
  rw [←e];exact Lib.laidMet.reads hL (by simp [Rows.resolvedUptoRow])
theorem contract (H:Type) (enc:TypeId×Value→H) (W:World) (base:Nat) (args:Array Value) (ds gs:List (DataW H)) (before:List MemPlace)
  (hval:∀(j:Nat) t v,Tryz.f3.params[j]?=some t→args[j]?=some v→Value.okWide Tryz.prog W .any base t v)
  (hW:DataW.Whole enc Tryz.prog Tryz.f3.params.toList Rows.resolvedSpec.vars false W args.toList ds gs before)
  (hz:(DataW.weightsEach Tryz.prog (Tryz.f3.params.toList++Rows.resolvedSpec.plain.varTypes Tryz.prog) (ds++gs)).all (·≤reachBytes)=true)
  (hL:laidMetH Tryz.prog Rows.resolvedUptoRow.laid W) (hk:Rows.uptoSmall H (ds++gs)=true) :
  Calls Tryz.prog 3 args W fun e W'=>∃v,e=.returned v∧Rows.resolvedSpec.post enc Tryz.prog Tryz.f3 false true false false W args v W':=by
 have hW':=hW;obtain ⟨p,q,hA0,hV,rfl,_,_⟩:=hW;have hA:DataW.TrodAll enc Tryz.prog W 0 (fun _=>true) true Tryz.f3.params.toList args.toList ds p:=hA0;have hz':=hz;rw [Tryz.params3] at hA hval hz';obtain ⟨v0,v1,v2,v3,d0,d1,d2,d3,p0,p1,p2,p3,rfl,rfl,rfl,h0,h1,h2,h3⟩:=trodAll_four hA;obtain ⟨rfl,rfl⟩:=trodVars_none hV;obtain ⟨a0,len0,cap0,rfl⟩:=okWide_slice Tryz.underlying22 (hval 0 22 v0 rfl rfl);obtain ⟨i1,rfl⟩:=okWide_int Tryz.underlying3 (hval 1 3 v1 rfl rfl);obtain ⟨a2,len2,cap2,rfl⟩:=okWide_slice Tryz.underlying22 (hval 2 22 v2 rfl rfl);obtain ⟨i3,rfl⟩:=okWide_int Tryz.underlying3 (hval 3 3 v3 rfl rfl);have h0k:=h0;have h2k:=h2;obtain ⟨fuel0,hf0⟩:=h0;obtain ⟨fuel2,hf2⟩:=h2;clear hA0;simp only [List.append_nil] at hW' hk;have hlt:∀x∈p0++p1++p2++p3,x.block < W.heap.size:=fun x hx=>by simpa using hW'.lt x hx
 have hargs0:∀(W':World),Below W.heap.size W W'→DataW.Trod enc Tryz.prog W' 0 (fun b=>decide (b < W.heap.size)) true 22 (.slice a0 len0 cap0) d0 p0:=
  fun W' hn=>Below.trod aAf (by kernel_rfl) (of_decide_eq_true (by kernel_rfl)) h0k hn (fun x hx=>hlt x (by simp [hx]))
 have hargs1:∀(W':World),Below W.heap.size W W'→DataW.Trod enc Tryz.prog W' 0 (fun b=>decide (b < W.heap.size)) true 3 (.int .i64 i1) d1 p1:=
  fun W' hn=>Below.trod aAf (by kernel_rfl) (of_decide_eq_true (by kernel_rfl)) h1 hn (fun x hx=>hlt x (by simp [hx]))
 have hargs2:∀(W':World),Below W.heap.size W W'→DataW.Trod enc Tryz.prog W' 0 (fun b=>decide (b < W.heap.size)) true 22 (.slice a2 len2 cap2) d2 p2:=
  fun W' hn=>Below.trod aAf (by kernel_rfl) (of_decide_eq_true (by kernel_rfl)) h2k hn (fun x hx=>hlt x (by simp [hx]))
 have hargs3:∀(W':World),Below W.heap.size W W'→DataW.Trod enc Tryz.prog W' 0 (fun b=>decide (b < W.heap.size)) true 3 (.int .i64 i3) d3 p3:=
  fun W' hn=>Below.trod aAf (by kernel_rfl) (of_decide_eq_true (by kernel_rfl)) h3 hn (fun x hx=>hlt x (by simp [hx]))
 obtain ⟨b0,c0,cp0,hcs0,hl0,hn0⟩:=aGm hf0 (fun n hn=>by
  have:=List.all_eq_true.1 hz' n (DataW.weights_mem_each (j:=0) (t:=22) (d:=d0) rfl rfl n hn);simpa using this)
 obtain ⟨b2,c2,cp2,hcs2,hl2,hn2⟩:=aGm hf2 (fun n hn=>by
  have:=List.all_eq_true.1 hz' n (DataW.weights_mem_each (j:=2) (t:=22) (d:=d2) rfl rfl n hn);simpa using this)
 obtain ⟨rfl,rfl,rfl⟩ : a0=b0∧len0=c0.length∧cap0=cp0:=by simpa [Value.cells] using hcs0
 obtain ⟨rfl,rfl,rfl⟩ : a2=b2∧len2=c2.length∧cap2=cp2:=by simpa [Value.cells] using hcs2
 have hbk:=aQu hk;simp only [Rows.uptoBulkAll] at hbk;obtain ⟨k0,k0'⟩:=aGq hf0 hl0;obtain ⟨k2,k2'⟩:=aGq hf2 hl2;simp only at k0 k0' k2 k2';refine (aYj a0 a2 cap0 cap2 c0 c2 i1 i3 W hl0 hn0 hl2 hn2 (aYk hL) (by omega) (fun z hz=>by have:=k0' z hz;omega) (by omega) (fun z hz=>by have:=k2' z hz;omega)).mono fun e W' ⟨he,hB⟩=>?_
 subst he;have e1:Rows.resolvedSpec.fn H ([d0,d1,d2,d3]++[]) = {results:=[.lit (.bool true)],args:=[d0,d1,d2,d3]}:=rfl;refine ⟨_,rfl,_,_,_,[],p0++(p1++(p2++p3)),[],hW',?_,?_,by rw [e1];rfl,hB.frame _,fun h=>by cases h⟩
 ·rw [e1];exact trodAll_mk1 (shut_bool Tryz.underlying4 _)
 ·rw [e1];exact trodAll_mk4 (hargs0 _ hB) (hargs1 _ hB) (hargs2 _ hB) (hargs3 _ hB)
noncomputable def aAg (os:Os):World:=
 let w0:=World.holding Tryz.prog os ⟨#[],#[],[]⟩;let put (h:Array Obj) (g:Nat) (cs:Array Value):Array Obj:=h.modify g fun
  | .cells _ t frozen=>.cells cs t frozen
  | o=>o
 let h1:=put w0.heap 1 (Lib.firstTab.map fun z=>Value.int .u8 z).toArray;let h2:=put h1 2 ((List.range 16).flatMap fun i=>[Value.int .u8 (Lib.accLo i),Value.int .u8 (Lib.accHi i)]).toArray;{w0 with heap:=h2}
theorem aYl (os:Os) (args:Array Value):laidMet Tryz.prog Rows.resolvedUptoRow.laid ((aAg os).forCall (fun _ _=>0) ⟨#[],args,[]⟩).memory:=
 (LaidIn.of_run (l := [("unicode/utf8.acceptRanges", Rows.laid_unicode_utf8_acceptRanges), ("unicode/utf8.first", Rows.laid_unicode_utf8_first)]) [2, 1] 8 (by kernel_rfl) (by kernel_rfl) (by kernel_rfl) (by kernel_rfl)).met
theorem aYm (os:Os) {H:Type} (enc:TypeId×Value→H) :
  (Rows.OpenSpec.upto Rows.resolvedSpec).preRow enc Tryz.prog Tryz.f3 Rows.resolvedUptoRow.domain false Rows.resolvedUptoRow.laid ((aAg os).forCall (fun _ _=>0) ⟨#[],#[.slice none 0 0,.int .i64 0,.slice none 0 0,.int .i64 0],[]⟩).memory #[.slice none 0 0,.int .i64 0,.slice none 0 0,.int .i64 0]:=by
 have hw:(DataW.whole enc Tryz.prog ((aAg os).forCall (fun _ _=>0) ⟨#[],#[.slice none 0 0,.int .i64 0,.slice none 0 0,.int .i64 0],[]⟩).memory Tryz.f3.params.toList Rows.resolvedSpec.vars false #[Value.slice none 0 0,Value.int .i64 0,Value.slice none 0 0,Value.int .i64 0].toList 8).map (fun x=>(x.1,x.2.1))=some ([.nil,.lit (.int .i64 0),.nil,.lit (.int .i64 0)],[]):=by kernel_rfl
 obtain ⟨⟨x1,x2,x3⟩,hx,hx1⟩:=Option.map_eq_some_iff.1 hw;simp only [Prod.mk.injEq] at hx1;obtain ⟨rfl,rfl⟩:=hx1;exact OpenSpec.preRow_of_cond 8 hx (by kernel_rfl) (fun k hk=>by cases hk;kernel_rfl) (by kernel_rfl) (aYl os _)
theorem lifted (os:Os) (started:os.Started) (H:Type) (enc:TypeId×Value→H) (F:Stop.Interp) :
  ReturnsInHanded {} Tryz.checked os 3 .any ((Rows.OpenSpec.upto Rows.resolvedSpec).preRow enc Tryz.prog Tryz.f3 Rows.resolvedUptoRow.domain false Rows.resolvedUptoRow.laid) (((Rows.OpenSpec.upto Rows.resolvedSpec).at F).post enc Tryz.prog Tryz.f3 false true false false):=by
 refine returnsInHanded_of_row (C:=Tryz.checked) (s:=Rows.OpenSpec.upto Rows.resolvedSpec) own started (by kernel_rfl) Tryz.func3
  (witness_row_atRef (enc:=enc) (C:=Tryz.checked) false (aAg os) #[.slice none 0 0,.int .i64 0,.slice none 0 0,.int .i64 0] rfl (by kernel_rfl) (by kernel_rfl) (by kernel_rfl) (aYm os enc)) ?_
 intro W base args ds gs before hval hW _ hcond hz hL _ _;exact contract H enc W base args ds gs before hval hW hz hL (hcond _ rfl)
theorem said:Rows.ResolvedUptoSaid:=
 OpenClaim.holds_of_cond 3 Tryz.f3 rfl rfl rfl rfl rfl rfl rfl ⟨rfl,rfl,rfl,rfl,rfl⟩ rfl rfl rfl rfl rfl (by kernel_rfl) Tryz.func3 (by kernel_rfl)
  (of_decide_eq_true (by kernel_rfl)) (by unfold Func.isWrapper;first | (rw [if_pos (by decide +kernel)];kernel_rfl) | (rw [if_neg (by decide +kernel)];exact ⟨rfl,rfl⟩))
  (fun os started H enc _ F=>by rw [OpenClaim.pre_eq_preRow];exact lifted os started H enc F)
theorem plain (f : FuncId) (fn : Func) (hf : Tryz.pinned.checked.prog.funcNamed "moot/mootlaw.Resolved" = some f) (hfn : Tryz.pinned.checked.prog.funcs[f]? = some fn) :
  false=Tryz.pinned.checked.prog.looks []∧∀(j:Nat) t,fn.params[j]?=some t→Tryz.pinned.checked.prog.wantsStandIn t=false:=by
 obtain rfl : f = 3 := Option.some.inj ((show Tryz.prog.funcNamed "moot/mootlaw.Resolved" = some 3 by kernel_rfl).symm.trans hf) |>.symm
 obtain rfl:fn=Tryz.f3:=(Option.some.inj (Tryz.func3.symm.trans hfn)).symm;refine ⟨by kernel_rfl,fun j t ht=>?_⟩;rw [Tryz.params3] at ht;have hm:t=22∨t=3:=by
  have hh:t∈[22,3,22,3]:=by simpa using Array.mem_of_getElem? ht
  rcases List.mem_cons.1 hh with h | hh
  ·exact Or.inl h
  ·rcases List.mem_cons.1 hh with h | hh
   ·exact Or.inr h
   ·rcases List.mem_cons.1 hh with h | hh
    ·exact Or.inl h
    ·exact Or.inr (List.mem_singleton.1 hh)
 rcases hm with rfl | rfl
 ·exact (show Tryz.prog.wantsStandIn 22=false by kernel_rfl)
 ·exact (show Tryz.prog.wantsStandIn 3=false by kernel_rfl)
theorem resolved_upto_card:Rows.ResolvedUptoCardSaid:=
 Claim7.holds_tied_plain_at .later [] _ _ _ _ said (fun _ h=>by cases h) (by kernel_rfl) (fun _ h=>by cases h) resolvedUpto_row_tie rfl ⟨rfl,rfl⟩ (by kernel_rfl) rfl plain (by kernel_rfl)
#print axioms resolved_upto_card
end Go.Proofs.YtcldkjcpofjmhaaGreatDoor
