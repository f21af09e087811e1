/- Factor answers as the document's own answer does, whatever list of literals and places come in, and leaves it as it was: the tied card of the second form. Conditions: the row's own (the library's tables stand as the program lays them), and that the arguments are of bulk at most 1048576. -/
import Derived.Test.YtcldkjcpofjmhaaGreatDoorXSr7F
import Derived.Test.YtcldkjcpofjmhaaGreatDoorCNew0F
import Derived.Test.YtcldkjcpofjmhaaGreatDoorLRs0F
import Derived.Test.YtcldkjcpofjmhaaGreatDoorCards
import Derived.Test.YtcldkjcpofjmhaaGreatDoorTie
import Derived.ProofKit
import Derived.OpenShut
import Derived.Carry
import Derived.Deep.DeepHandedRow
import Derived.Deep.DeepWitnessRowRef
import Derived.Lib.LaidIn
import Derived.Lib.LaidU8T
import Derived.PinnedBridge
namespace Go.Proofs.YtcldkjcpofjmhaaGreatDoor
open Go.RowKit Go.Shelf Go.WideMaps
set_option maxRecDepth 100000
theorem bX.push {x:aN×Int} {r:List (aN×Int)} {L L':List Cd} {n n':Nat} {b b':Bool} (h:bX (x :: r) L n b L' n' b') (h1:x.2=0) (h2:dP x.1.c=true) (h3:pW x.1.c=false):∃ad cp,bX r (fH L.length (L++[iF x.1 ad cp n]) L.length) (n+1) b L' n' b':=by unfold bX at h;rw [if_neg (by simp [h1,h2]),if_neg (by simp [h3])] at h;exact h
theorem aYv:xW pN:=⟨by kernel_rfl,by kernel_rfl⟩
theorem aDz (c d:List Lt) (h:c=cP∨c=fG) (h':d=cP∨d=fG):kH c d=[(0,0)]:=by rcases h with rfl | rfl <;> rcases h' with rfl | rfl <;> simp [kH,mM,lN,mL,cP,fG,List.range_succ]
theorem aLa {c:List Lt} (h:c=cP∨c=fG) (a:Nat):sT c a=[]:=by unfold sT;rw [aDz c c h h];simp [mR]
theorem aLb {c:List Lt} (h:c=cP∨c=fG) (a b:Nat):jK c a c b=[]:=by unfold jK;rw [aDz c c h h];simp [lO]
theorem aYw:sS fG 0 cP 0=([],true,0):=
 aKd (c:=fG) (d:=cP) (i:=0) (j:=0) (by decide) (by decide) (aY0 aYv 0 1 [] (by simp) (by decide))
theorem aYx (a b:Nat):jK fG a cP b=[(⟨2,a,b,0,0,[]⟩,0)]:=by
 have hs:lO fG a cP b (0,0)=some (⟨2,a,b,0,0,[]⟩,0):=by unfold lO;rw [if_pos (by decide)];simp only [aYw];rw [if_pos (by simp)]
 unfold jK;rw [aDz _ _ (Or.inr rfl) (Or.inl rfl)];simp [hs]
def gA:aN:=⟨1,0,0,0,0,cP⟩
def jW:aN:=⟨1,1,0,0,0,fG⟩
def oW:aN:=⟨2,1,0,0,0,[]⟩
theorem aYy:cD cP fG=false:=aBd (l:=(false,[pN])) (by simp [cP]) (by simp [fG])
theorem aYz:cD fG cP=false:=aBd (l:=(true,[pN])) (by simp [fG]) (by simp [cP])
theorem aZ0 (v:Value):jV ([]++[(gA,v)]) 0 [0]=[]:=by unfold jV;rw [show aQ ([]++[(gA,v)]) 0=cP from rfl,aLa (Or.inl rfl)];simp only [List.flatMap_cons,List.flatMap_nil,List.nil_append,List.append_nil];exact aLb (Or.inl rfl) 0 0
theorem aZ1 (v u:Value):jV ([(gA,v)]++[(jW,u)]) 1 [0,1]=[(oW,0)]:=by unfold jV;rw [show aQ ([(gA,v)]++[(jW,u)]) 1=fG from rfl,aLa (Or.inr rfl)];simp only [List.flatMap_cons,List.flatMap_nil,List.nil_append,List.append_nil];rw [show aQ ([(gA,v)]++[(jW,u)]) 0=cP from rfl,show aQ ([(gA,v)]++[(jW,u)]) 1=fG from rfl];rw [aYx,aLb (Or.inr rfl)];rfl
theorem aZ2 {x y:Cd} (h:jD y x=false):fH 1 [x,y] 1=[x,y]:=by simp [fH,h]
def aLc (vd:Nat) (T:List (aN×Value)) (_:List Nat) (b:Bool):Prop:=vd=1∧T.map Prod.fst=[gA,jW,oW]∧b=false
theorem aZ3 {L:List Cd} {n:Nat} (h:bX (lK [cP,fG]) [] 0 false L n false):iH 100 aLc L n [] [] false:=by
 have e:lK [cP,fG]=[(gA,0),(jW,0)]:=rfl;rw [e] at h;obtain ⟨ad0,cp0,h⟩:=h.push rfl (by kernel_rfl) (by kernel_rfl);obtain ⟨ad1,cp1,h⟩:=h.push rfl (by kernel_rfl) (by kernel_rfl);obtain ⟨rfl,rfl,_⟩:=h;obtain ⟨w0,hw0⟩ : ∃x,iF gA ad0 cp0 0=x:=⟨_,rfl⟩;obtain ⟨w1,hw1⟩ : ∃x,iF jW ad1 cp1 (0+1)=x:=⟨_,rfl⟩;have hL:fH (fH ([]:List Cd).length ([]++[iF gA ad0 cp0 0]) ([]:List Cd).length).length (fH ([]:List Cd).length ([]++[iF gA ad0 cp0 0]) ([]:List Cd).length++[iF jW ad1 cp1 (0+1)]) (fH ([]:List Cd).length ([]++[iF gA ad0 cp0 0]) ([]:List Cd).length).length=[w0,w1]:=by subst hw0 hw1;exact aZ2 (by simp [jD,iF,gA,jW,cP,fG,aK])
 rw [hL];have hp:jM [w0,w1]=[w1]:=by subst hw0 hw1;rfl
 have c0:w0.c=cP:=by subst hw0;rfl
 have c1:w1.c=fG:=by subst hw1;rfl
 have v0:(Value.slice w0.ad w0.ln w0.cp)=.slice ad0 1 cp0:=by subst hw0;rfl
 refine iH.take gA ⟨by subst hw0;exact ⟨rfl,rfl,rfl,rfl,rfl⟩,c0⟩ (L':=[w1]) (x:=w0) (by simp) ?_ (by simp [gA,cP]) (by decide) (by simp) ?_ ?_ ?_ ?_
 ·rw [←hp];rfl
 all_goals rw [show dL [] [] gA.c=[0] from rfl,show ([]:List (aN×Value)).length=0 from rfl,aZ0]
 ·simp
 ·simp
 ·simp
 rintro L2 n2 b2 ⟨rfl,rfl,rfl⟩;have hk:dL ([]++[(gA,Value.slice w0.ad w0.ln w0.cp)]) [0] jW.c=[0,1]:=by unfold dL;simp only [List.filter];rw [show aQ ([]++[(gA,Value.slice w0.ad w0.ln w0.cp)]) 0=cP from rfl,show jW.c=fG from rfl,aYz];rfl
 refine iH.take jW ⟨by subst hw1;exact ⟨rfl,rfl,rfl,rfl,rfl⟩,c1⟩ (L':=[]) (x:=w1) (fun x hx k hk=>by
  simp at hx hk;subst hx hk;rw [c1];exact aFd (by decide)) ?_ (by simp [jW,fG]) (by simp) (fun k hk=>by
  simp at hk;subst hk;exact aFd (by decide)) ?_ ?_ ?_ ?_
 ·show jB _ 1 [w1]=_;unfold jB;simp only;rw [c1,if_neg (by simp;exact aYy)];rfl
 all_goals rw [hk]
 all_goals rw [show ([]++[(gA,Value.slice w0.ad w0.ln w0.cp)]:List (aN×Value)).length=1 from rfl,show ([]++[(gA,Value.slice w0.ad w0.ln w0.cp)]:List (aN×Value))=[(gA,Value.slice w0.ad w0.ln w0.cp)] from rfl,aZ1]
 ·intro y hy;simp at hy;subst hy;exact ⟨⟨by simp [oW],by simp [oW]⟩,fun _ _=>by kernel_rfl⟩
 ·simp
 ·simp
 intro L2 n2 b2 h;obtain ⟨ad2,cp2,h⟩:=h.push rfl (by kernel_rfl) (by kernel_rfl);obtain ⟨rfl,rfl,rfl⟩:=h;refine iH.unsat oW ⟨⟨rfl,rfl,rfl,rfl,rfl⟩,rfl⟩ (x:=iF oW ad2 cp2 (0+1+1)) (L':=[]) (fun x hx k hk=>?_) ?_ rfl ⟨rfl,rfl,rfl⟩
 ·obtain rfl:x=iF oW ad2 cp2 (0+1+1):=by simpa [fH] using hx
  simp at hk;rcases hk with rfl | rfl <;> exact aN7 (by simp [aQ,gA,jW,oW,cP,fG,iF])
 show jB _ 1 [iF oW ad2 cp2 (0+1+1)]=_;unfold jB;simp only;rw [if_neg ?_]
 ·rfl
 ·simp only [show (iF oW ad2 cp2 (0+1+1)).c=[] from rfl,List.any_cons,List.any_nil,Bool.or_false,Bool.or_eq_true,not_or];refine ⟨?_,?_⟩
  ·rw [aBc (by simp [aQ,gA,jW,cP,fG])];simp
  ·rw [aBc (by simp [aQ,gA,jW,cP,fG])];simp
def aAn (Q:Nat→List (aN×Value)→List Nat→Bool→Prop) (vd:Nat) (T:List (aN×Value)) (ks:List Nat) (b:Bool):Prop:=Q vd T ks b∧((vd=1∧1≤T.length)∨vd=2∨vd=3)
theorem iH.tag {lim:Nat} {Q:Nat→List (aN×Value)→List Nat→Bool→Prop} {L:List Cd} {n:Nat} {T:List (aN×Value)} {ks:List Nat} {b:Bool} (h:iH lim Q L n T ks b):iH lim (aAn Q) L n T ks b:=by
 induction h with
 | sat hv h hq=>exact iH.sat hv h ⟨hq,Or.inr (Or.inl rfl)⟩
 | unsat s hs hv h hc hq=>exact iH.unsat s hs hv h hc ⟨hq,Or.inl ⟨rfl,by simp⟩⟩
 | out hv h hc hl hq=>exact iH.out hv h hc hl ⟨hq,Or.inr (Or.inr rfl)⟩
 | take s hs hv h hc hl hd hF hLF hnF _ ih=>exact iH.take s hs hv h hc hl hd hF hLF hnF ih
set_option maxHeartbeats 2000000 in
theorem aZ4 (B sb hp:Nat) (v vk:Value) (L:List Cd) (n:Nat) (T:List (aN×Value)) (ks:List Nat) (big:Bool) (va:Option Addr) (tn vc:Nat) (w:World) (h:bI B w sb hp v (.slice va tn vc) vk L n T ks big) :
  Calls Tryz.prog 39 #[.pointer (some ⟨sb,0,none⟩),.int .i64 3] w fun e w'=>e=.returned (.agg #[.int .i64 3,.slice va tn vc,.slice none 0 0,.int .i64 tn,.bool big])∧Below w.heap.size w w':=by
 obtain ⟨_,_,c2,_,c4⟩:=h.cells;have c2a:=fun X=>Below.at' ((Below.refl w.heap.size w).alloc (Nat.le_refl _) X) (Nat.le_refl _) c2
 have c4a:=fun X=>Below.at' ((Below.refl w.heap.size w).alloc (Nat.le_refl _) X) (Nat.le_refl _) c4
 clear h;go_enter Tryz.func39,Tryz.ntmps39;go_wp2_with fail;go_region_held3 (fun w'=>w'.cell? ⟨sb,2,none⟩=some (.slice va tn vc)∧w'.cell? ⟨sb,4,none⟩=some (.bool big)) (go_keep) (fail);all_goals
  go_wp2_with fail;go_returns;refine ⟨rfl,?_⟩;exact (((Below.refl _ w).alloc (Nat.le_refl _) _).alloc (by simp) _).trans (Below.mono (aI ⟨1,rfl⟩) (by simp;omega))
def wB (vd:Nat) (vs vk:Value) (used:Nat) (b:Bool):Value:=.agg #[.int .i64 vd,vs,vk,.int .i64 used,.bool b]
structure yA (B:Nat) (w:World) (vd:Nat) (vs vk:Value) (used:Nat) (T:List (aN×Value)) (ks:List Nat):Prop where
 st:kJ B w vs T
 kp:(vd=2∧dH B w vk ks)∨(vd≠2∧vk=.slice none 0 0)
 us:used=if vd=1 then T.length - 1 else T.length
theorem aZ5 (B sb hp:Nat) (v vs vk:Value) (L:List Cd) (n vd:Nat) (T:List (aN×Value)) (ks:List Nat) (big:Bool) (w:World) (h:bI B w sb hp v vs vk L n T ks big) (hvd:(vd=1∧1≤T.length)∨vd=2∨vd=3) (hT:T.length≤1000000) :
  Calls Tryz.prog 39 #[.pointer (some ⟨sb,0,none⟩),.int .i64 vd] w fun e w'=>∃va tn vc ka kn kc used,e=.returned (wB vd (.slice va tn vc) (.slice ka kn kc) used big)∧yA B w' vd (.slice va tn vc) (.slice ka kn kc) used T ks∧Below w.heap.size w w':=by
 obtain ⟨va,vc,rfl⟩:=aS h.st.row;obtain ⟨ka,kc,rfl⟩:=h.kp.shape;rcases hvd with ⟨rfl,hl⟩ | rfl | rfl
 ·refine (aS0 B sb hp v _ L n T ks big va T.length vc w h hl hT).mono ?_;rintro e w' ⟨rfl,hb⟩;exact ⟨va,T.length,vc,none,0,0,_,rfl,⟨(h.below hb).st,Or.inr ⟨by decide,rfl⟩,rfl⟩,hb⟩
 ·refine (aS1 B sb hp v L n T ks big va ka T.length vc _ kc w h).mono ?_;rintro e w' ⟨rfl,hb⟩;exact ⟨va,T.length,vc,ka,_,kc,_,rfl,⟨(h.below hb).st,Or.inl ⟨rfl,(h.below hb).kp⟩,rfl⟩,hb⟩
 ·refine (aZ4 B sb hp v _ L n T ks big va T.length vc w h).mono ?_;rintro e w' ⟨rfl,hb⟩;exact ⟨va,T.length,vc,none,0,0,_,rfl,⟨(h.below hb).st,Or.inr ⟨by decide,rfl⟩,rfl⟩,hb⟩
theorem aLd {α β:Type} {f:α→List β}:∀{l:List α} {x:α},(l.flatMap f).Nodup→x∈l→(f x).Nodup
 | y :: l,x,h,hx=>by
  rw [List.flatMap_cons,List.nodup_append] at h;rcases List.mem_cons.1 hx with rfl | hx
  ·exact h.1
  ·exact aLd h.2.1 hx
theorem kD.cls {B:Nat} {w:World} {v:Value} {QV:List (List (Lt×Value)×Value)} (h:kD B w v QV):pE B w v (QV.map fun p=>(p.1.map Prod.fst,p.2)):=by
 refine ⟨?_,fun p hp=>?_⟩
 ·have:=h.mem.1;simpa [List.map_map,Function.comp_def] using this
 ·obtain ⟨q,hq,rfl⟩:=List.mem_map.1 hp;refine ⟨q.1,rfl,(h.mem.2 q hq).1.1,(h.mem.2 q hq).1.2,?_⟩;have:=aLd h.atoms hq;simpa [List.filterMap_map,Function.comp_def] using this
theorem pE.fsts (QV:List (List (Lt×Value)×Value)):(QV.map fun p=>(p.1.map Prod.fst,p.2)).map Prod.fst=QV.map fun p=>p.1.map Prod.fst:=by simp [List.map_map,Function.comp_def]
def A5 (w:World) (b:Nat) (x0 x1 x2 x3 x4:Value):Prop:=w.heap[b]?=some (.cells #[x0,x1,x2,x3,x4] 47 (0,0))
def mT (w:World) (b:Nat) (x0 x1 x2 x3 x4:Value):World:=(((((w.setCell ⟨b,0,none⟩ x0).setCell ⟨b,1,none⟩ x1).setCell ⟨b,2,none⟩ x2).setCell ⟨b,3,none⟩ x3).setCell ⟨b,4,none⟩ x4)
theorem A5.cells {w:World} {b:Nat} {x0 x1 x2 x3 x4:Value} (h:A5 w b x0 x1 x2 x3 x4):w.cell? ⟨b,0,none⟩=some x0∧w.cell? ⟨b,1,none⟩=some x1∧w.cell? ⟨b,2,none⟩=some x2∧w.cell? ⟨b,3,none⟩=some x3∧w.cell? ⟨b,4,none⟩=some x4:=by refine ⟨?_,?_,?_,?_,?_⟩ <;> simp [World.cell?,show w.heap[b]?=_ from h]
theorem A5.frz {w:World} {b:Nat} {x0 x1 x2 x3 x4:Value} (h:A5 w b x0 x1 x2 x3 x4) (k:Nat):w.frozen? ⟨b,k,none⟩=false:=by simp [World.frozen?,show w.heap[b]?=_ from h]
theorem A5.put {w:World} {b:Nat} {x0 x1 x2 x3 x4:Value} (h:A5 w b x0 x1 x2 x3 x4) (y0 y1 y2 y3 y4:Value):A5 (mT w b y0 y1 y2 y3 y4) b y0 y1 y2 y3 y4∧w.grownBy (mT w b y0 y1 y2 y3 y4) (some b):=by
 have hs:∀(u:World) (cs:Array Value) (k:Nat) (v:Value),u.heap[b]?=some (.cells cs 47 (0,0))→(u.setCell ⟨b,k,none⟩ v).heap[b]?=some (.cells (cs.setIfInBounds k v) 47 (0,0)):=fun u cs k v hu=>by
  have hlt:=(Array.getElem?_eq_some_iff.1 hu).1;show (u.heap.modify b _)[b]?=_;rw [Array.getElem?_eq_getElem (by rw [Array.size_modify];exact hlt),Array.getElem_modify_self,(Array.getElem?_eq_some_iff.1 hu).2];rfl
 constructor
 ·unfold A5 mT;rw [hs _ _ 4 _ (hs _ _ 3 _ (hs _ _ 2 _ (hs _ _ 1 _ (hs _ _ 0 _ h))))];simp
 ·unfold mT;have h:∀(u:World) (k:Nat) (v:Value),w.grownBy u (some b)→w.grownBy (u.setCell ⟨b,k,none⟩ v) (some b):=fun u k v hu=>kA hu (bR u ⟨b,k,none⟩ v)
  exact h _ _ _ (h _ _ _ (h _ _ _ (h _ _ _ (h _ _ _ ⟨rfl,rfl,rfl,Nat.le_refl _,fun _ _ _=>rfl⟩))))
theorem wC {w w2 w3:World} {b:Nat} (h:Below w.heap.size w w2) (hg:w2.grownBy w3 (some b)) (hb:w.heap.size≤b):Below w.heap.size w w3:=
 h.grown hg h.size (fun j e=>by cases e;exact hb)
theorem kJ.low {B B':Nat} {w:World} {v:Value} {T:List (aN×Value)} (h:kJ B w v T) (hB:B'≤B):kJ B' w v T:=⟨dN h.row hB,fun p hp=>(h.cl p hp).low hB⟩
theorem yA.kept {S:List TypeId} {B B':Nat} {w w':World} {vd:Nat} {vs vk:Value} {used:Nat} {T:List (aN×Value)} {ks:List Nat} (h:yA B w vd vs vk used T ks) (hB:B'≤B) (k:dD S w w') (h1:71∉S) (h2:39∉S) (h3:36∉S) (h4:3∉S):yA B' w' vd vs vk used T ks:=
 ⟨(h.st.low hB).kept k h1 h2 h3,by rcases h.kp with ⟨a,b⟩ | h;exact Or.inl ⟨a,k.row (dN b hB) h4⟩;exact Or.inr h,h.us⟩
def pX:Value:=.agg #[.int .i64 0,.slice none 0 0,.slice none 0 0,.int .i64 0,.bool false]
def wD (s:ByteArray) (lim:Int) (Q:List (List Lt)→Nat→List (aN×Value)→List Nat→Bool→Prop) (w:World) (e:Ending) (w':World):Prop:=
 ∃out at' er,tW s out at' er∧Below w.heap.size w w'∧((er≠0∧e=.returned (.tuple #[pX,.int .i64 er]))∨(er=0∧¬(1≤lim∧lim≤100)∧e=.returned (.tuple #[pX,.int .i64 7]))∨
  (er=0∧1≤lim∧lim≤100∧∃vd vs vk used b T ks,e=.returned (.tuple #[wB vd vs vk used b,.int .i64 0])∧yA w.heap.size w' vd vs vk used T ks∧aAn (Q out) vd T ks b))
set_option maxHeartbeats 8000000 in
theorem aZ6 (s:ByteArray) (lim:Int) (Q:List (List Lt)→Nat→List (aN×Value)→List Nat→Bool→Prop) (w:World) (hs0:s.size≤140737488355328) (hQ:∀out at',tW s out at' 0→(∀c∈out,dI c=true)∧out.length≤1000∧∀l:Nat,lim=l→1≤l→l≤100→∀L n,bX (lK out) [] 0 false L n false→iH l (Q out) L n [] [] false) :
  Calls Tryz.prog 23 #[.string s,.int .i64 lim] w fun e w'=>wD s lim Q w e w':=by
 obtain ⟨w1,hw1,hb1,hx1,hs1⟩ : ∃w1,w.alloc (.cells #[.int .i64 0,.slice none 0 0,.slice none 0 0,.int .i64 0,.bool false] 47)=w1∧Below w.heap.size w w1∧A5 w1 w.heap.size (.int .i64 0) (.slice none 0 0) (.slice none 0 0) (.int .i64 0) (.bool false)∧w1.heap.size=w.heap.size+1:=⟨_,rfl,(Below.refl _ w).alloc (Nat.le_refl _) _,World.alloc_heap_new w _,by simp⟩;have CS:=aA (aGn s w1 hs0);have HQ:=aA hQ;clear hQ;go_enter Tryz.func23,Tryz.ntmps23;go_upto_region 1 with (fail);clear hw1;go_wp2_with (first
  | (go_at_call 21;refine (aB CS).mono ?_)
  | go_in)
 clear CS;rintro e w2 ⟨v,QV,at1,er,rfl,hrd,hmem,hb2⟩;have hx2:A5 w2 w.heap.size (.int .i64 0) (.slice none 0 0) (.slice none 0 0) (.int .i64 0) (.bool false):=(hb2.block _ (by omega)).trans hx1;have hbw:Below w.heap.size w w2:=hb1.trans (hb2.mono (by omega));have hz2:=hb2.size;obtain ⟨va,vc,rfl⟩:=aS hmem.mem.1;have HRD:=aA hrd;have HX2:=aA hx2;have HBW:=aA hbw;by_cases he:er=0
 ·subst he;obtain ⟨hcl,hlen,hrun⟩:=HQ.out _ _ hrd;by_cases hl:1≤lim∧lim≤100
  ·obtain ⟨l,rfl⟩ : ∃l:Nat,lim=l:=⟨lim.toNat,by omega⟩;have hl1:1≤l:=by omega
   have hl2:l≤100:=by omega
   have hc1:decide ((l:Int) < 1)=false:=by simp;omega
   have hc2:decide ((100:Int) < (l:Int))=false:=by simp;omega
   have hmQ:∀c∈QV.map (fun p=>p.1.map Prod.fst),dI c=true:=hcl;have CS:=aA (aS4 w1.heap.size _ _ w2 hmem.cls (fun p hp=>hcl p.1 (by
    obtain ⟨q,hq,rfl⟩:=List.mem_map.1 hp;exact List.mem_map.2 ⟨q,hq,rfl⟩)) (by simpa using hlen) hz2)
   rw [pE.fsts] at CS;obtain ⟨out,hout⟩ : ∃out,(QV.map fun p=>p.1.map Prod.fst)=out:=⟨_,rfl⟩;rw [hout] at CS hrun hmQ hlen hcl hrd;have HRUN:Hid (∀sb hp w3,vF w1.heap.size w2 sb hp out out.length w3→aAw w1.heap.size sb hp l (aAn (Q out)) w3 w3):=aA fun sb hp w3 ⟨v3,L3,n3,h1,h2,h3⟩=>by
    have hgl:(lK out).length=out.length:=by simp [lK]
    rw [show (lK out).take out.length=lK out by rw [←hgl,List.take_length]] at h2;have hlen2:=bX.len _ h2;simp at hlen2;refine ⟨_,_,_,L3,n3,[],[],false,h1,(hrun l rfl hl1 hl2 L3 n3 h2).tag,⟨fun x hx=>?_,by simp,by simp,by simp,by omega,by omega⟩,by simp,Mv.refl _ _ _,Nat.le_trans hz2 h3.size⟩;rcases h2.mem _ x hx with h | ⟨y,hy,_,_,hyc⟩
    ·simp at h
    ·rw [hyc];simp only [lK,List.mem_mapIdx] at hy;obtain ⟨k,hk,rfl⟩:=hy;exact hcl _ (List.getElem_mem hk)
   have HRD2:=aA hrd;clear hrd hx1 hx2 hmem hb1 hb2 hbw HQ hcl hlen hrun hmQ HRD hl;generalize QV.length=qn at *;go_wp2_with (first
    | (go_at_call 38;refine (aB CS).mono ?_)
    | go_in)
   rintro e w3 ⟨sb,hp,rfl,hst⟩;have HM3:=aA (show Mv oB w1.heap.size w2 w3 by
    obtain ⟨_,_,_,_,_,h3⟩:=hst;exact h3.mono (by decide) (Nat.le_refl _))
   have CR:=aA (aZu w1.heap.size sb hp l (aAn (Q out)) w3 (HRUN.out sb hp w3 hst) hl2);clear hst HRUN CS;go_wp2_with (first
    | (go_at_call 40;refine (aB CR).mono ?_)
    | go_in)
   rintro e w4 ⟨vd,v4,vs4,vk4,L4,n4,T4,ks4,b4,rfl,hS4,hq4,hT4,hm4⟩;have HM4:=aA (HM3.out.trans hm4);have CA:=aA (aZ5 w1.heap.size sb hp v4 vs4 vk4 L4 n4 vd T4 ks4 b4 w4 hS4 hq4.2 (by omega));unfold wB at CA;have HQ4:=aA hq4;clear hS4 hq4 hT4 hm4 CR HM3;go_wp2_with (first
    | (go_at_call 39;refine (aB CA).mono ?_)
    | go_in)
   rintro e w5 ⟨xa,xn,xc,ka,kn,kc,used,rfl,hA5,hb5⟩;have hM5:Mv oB w1.heap.size w2 w5:=HM4.out.trans (Mv.of_below hb5);have hx5:A5 w5 w.heap.size (.int .i64 0) (.slice none 0 0) (.slice none 0 0) (.int .i64 0) (.bool false):=hM5.cells HX2.out (by decide);have hb6:Below w.heap.size w w5:=HBW.out.trans ((hM5.below hz2).mono (by omega));obtain ⟨q0,q1,q2,q3,q4⟩:=hx5.cells;have qz:=hx5.frz;obtain ⟨hp5,hg5⟩:=hx5.put (.int .i64 vd) (.slice xa xn xc) (.slice ka kn kc) (.int .i64 used) (.bool b4);obtain ⟨t0,t1,t2,t3,t4⟩:=hp5.cells;have HF:Hid (wD s l Q w (.returned (.tuple #[wB vd (.slice xa xn xc) (.slice ka kn kc) used b4,.int .i64 0])) (mT w5 w.heap.size (.int .i64 vd) (.slice xa xn xc) (.slice ka kn kc) (.int .i64 used) (.bool b4))):=aA
    ⟨out,_,_,HRD2.out,wC hb6 hg5 (Nat.le_refl _),Or.inr (Or.inr ⟨rfl,by omega,by omega,vd,_,_,used,b4,T4,ks4,rfl,hA5.kept (by omega) (Mv.of_grown (S:=[47]) (B:=0) hg5 (fun k hk=>by cases hk;exact ⟨Nat.zero_le _,_,_,hx5,by simp⟩)).kps (by decide) (by decide) (by decide) (by decide),HQ4.out⟩)⟩
   clear hA5 hb5 hM5 hx5 hb6 hp5 hg5 CA HM4 HQ4 HRD2 HBW HX2;go_wp2_with (fail);refine bodyPost_ret (v:=.tuple #[wB vd (.slice xa xn xc) (.slice ka kn kc) used b4,.int .i64 0]) (w:=mT w5 w.heap.size (.int .i64 vd) (.slice xa xn xc) (.slice ka kn kc) (.int .i64 used) (.bool b4)) (by simp [results,Tryz.results23,go_sem,t0,t1,t2,t3,t4,wB];try rfl) rfl ?_;exact HF.out
  ·have hl3:lim < 1∨100 < lim:=by omega
   obtain ⟨q0,q1,q2,q3,q4⟩:=hx2.cells;have qz:=hx2.frz;obtain ⟨hp5,hg5⟩:=hx2.put (.int .i64 0) (.slice none 0 0) (.slice none 0 0) (.int .i64 0) (.bool false);obtain ⟨t0,t1,t2,t3,t4⟩:=hp5.cells;have HF:Hid (wD s lim Q w (.returned (.tuple #[pX,.int .i64 7])) (mT w2 w.heap.size (.int .i64 0) (.slice none 0 0) (.slice none 0 0) (.int .i64 0) (.bool false))):=aA ⟨_,_,_,hrd,wC hbw hg5 (Nat.le_refl _),Or.inr (Or.inl ⟨rfl,hl,rfl⟩)⟩;clear hrd hx1 hx2 hp5 hg5 hmem hb1 hb2 hbw HQ hcl hlen hrun HRD;rcases hl3 with hl3 | hl3
   ·clear hl;go_wp2_with (fail);refine bodyPost_ret (v:=.tuple #[pX,.int .i64 7]) (w:=mT w2 w.heap.size (.int .i64 0) (.slice none 0 0) (.slice none 0 0) (.int .i64 0) (.bool false)) (by simp [results,Tryz.results23,go_sem,t0,t1,t2,t3,t4,pX];try rfl) rfl ?_;exact HF.out
   ·have hl4:decide (lim < 1)=false:=by simp;omega
    clear hl;go_wp2_with (fail);refine bodyPost_ret (v:=.tuple #[pX,.int .i64 7]) (w:=mT w2 w.heap.size (.int .i64 0) (.slice none 0 0) (.slice none 0 0) (.int .i64 0) (.bool false)) (by simp [results,Tryz.results23,go_sem,t0,t1,t2,t3,t4,pX];try rfl) rfl ?_;exact HF.out
 ·have he1:(er == 0)=false:=by simpa using he
  have he2:(er != 0)=true:=by simpa using he
  obtain ⟨q0,q1,q2,q3,q4⟩:=hx2.cells;have qz:=hx2.frz;obtain ⟨hp5,hg5⟩:=hx2.put (.int .i64 0) (.slice none 0 0) (.slice none 0 0) (.int .i64 0) (.bool false);obtain ⟨t0,t1,t2,t3,t4⟩:=hp5.cells;have HF:Hid (wD s lim Q w (.returned (.tuple #[pX,.int .i64 er])) (mT w2 w.heap.size (.int .i64 0) (.slice none 0 0) (.slice none 0 0) (.int .i64 0) (.bool false))):=aA ⟨_,_,_,hrd,wC hbw hg5 (Nat.le_refl _),Or.inl ⟨he,rfl⟩⟩;clear hrd hx1 hx2 hp5 hg5 hmem hb1 hb2 hbw HQ;go_wp2_with (fail);refine bodyPost_ret (v:=.tuple #[pX,.int .i64 er]) (w:=mT w2 w.heap.size (.int .i64 0) (.slice none 0 0) (.slice none 0 0) (.int .i64 0) (.bool false)) (by simp [results,Tryz.results23,go_sem,t0,t1,t2,t3,t4,pX];try rfl) rfl ?_;exact HF.out
theorem aZ7 (s:ByteArray) (lim:Int) (Q:List (List Lt)→Nat→List (aN×Value)→List Nat→Bool→Prop) (w:World) (hs0:s.size≤140737488355328) (hQ:∀out at',tW s out at' 0→(∀c∈out,dI c=true)∧out.length≤1000∧∀l:Nat,lim=l→1≤l→l≤100→∀L n,bX (lK out) [] 0 false L n false→iH l (Q out) L n [] [] false) :
  Calls Tryz.prog 11 #[.string s,.int .i64 lim] w fun e w'=>wD s lim Q w e w':=by
 obtain ⟨w1,hw1,hb1,hx1,hs1⟩ : ∃w1,w.alloc (.cells #[.int .i64 0,.slice none 0 0,.slice none 0 0,.int .i64 0,.bool false] 47)=w1∧Below w.heap.size w w1∧A5 w1 w.heap.size (.int .i64 0) (.slice none 0 0) (.slice none 0 0) (.int .i64 0) (.bool false)∧w1.heap.size=w.heap.size+1:=⟨_,rfl,(Below.refl _ w).alloc (Nat.le_refl _) _,World.alloc_heap_new w _,by simp⟩;have CS:=aA (aZ6 s lim Q w1 hs0 hQ);clear hQ;go_enter Tryz.func11,Tryz.ntmps11;go_upto_region 1 with (fail);clear hw1;go_wp2_with (first
  | (go_at_call 23;refine (aB CS).mono ?_)
  | go_in)
 clear CS;rintro e w2 ⟨out,at1,er,hrd,hb2,h⟩;have hx2:A5 w2 w.heap.size (.int .i64 0) (.slice none 0 0) (.slice none 0 0) (.int .i64 0) (.bool false):=(hb2.block _ (by omega)).trans hx1;have hbw:Below w.heap.size w w2:=hb1.trans (hb2.mono (by omega));obtain ⟨y0,xa,xn,xc,ka,kn,kc,y3,y4,ec,rfl,hF⟩ : ∃(y0:Int) (xa:Option Addr) (xn xc:Nat) (ka:Option Addr) (kn kc:Nat) (y3:Int) (y4:Bool) (ec:Int),e=.returned (.tuple #[.agg #[.int .i64 y0,.slice xa xn xc,.slice ka kn kc,.int .i64 y3,.bool y4],.int .i64 ec])∧wD s lim Q w (.returned (.tuple #[.agg #[.int .i64 y0,.slice xa xn xc,.slice ka kn kc,.int .i64 y3,.bool y4],.int .i64 ec])) (mT w2 w.heap.size (.int .i64 y0) (.slice xa xn xc) (.slice ka kn kc) (.int .i64 y3) (.bool y4)):=by
  rcases h with ⟨h1,rfl⟩ | ⟨h1,h2,rfl⟩ | ⟨h1,h2,h3,vd,vs,vk,used,b,T,ks,rfl,h4,h5⟩
  ·obtain ⟨hp5,hg5⟩:=hx2.put (.int .i64 0) (.slice none 0 0) (.slice none 0 0) (.int .i64 0) (.bool false);exact ⟨_,_,_,_,_,_,_,_,_,_,rfl,out,at1,er,hrd,wC hbw hg5 (Nat.le_refl _),Or.inl ⟨h1,rfl⟩⟩
  ·obtain ⟨hp5,hg5⟩:=hx2.put (.int .i64 0) (.slice none 0 0) (.slice none 0 0) (.int .i64 0) (.bool false);exact ⟨_,_,_,_,_,_,_,_,_,_,rfl,out,at1,er,hrd,wC hbw hg5 (Nat.le_refl _),Or.inr (Or.inl ⟨h1,h2,rfl⟩)⟩
  ·obtain ⟨va,vc,rfl⟩:=aS h4.st.row;obtain ⟨ka,kn,kc,rfl⟩ : ∃ka kn kc,vk=.slice ka kn kc:=by
    rcases h4.kp with ⟨_,hk⟩ | ⟨_,hk⟩
    ·obtain ⟨ka,kc,rfl⟩:=aS hk;exact ⟨_,_,_,rfl⟩
    ·exact ⟨_,_,_,hk⟩
   obtain ⟨hp5,hg5⟩:=hx2.put (.int .i64 vd) (.slice va T.length vc) (.slice ka kn kc) (.int .i64 used) (.bool b);exact ⟨_,_,_,_,_,_,_,_,_,_,rfl,out,at1,er,hrd,wC hbw hg5 (Nat.le_refl _),Or.inr (Or.inr ⟨h1,h2,h3,vd,_,_,used,b,T,ks,rfl,h4.kept (by omega) (Mv.of_grown (S:=[47]) (B:=0) hg5 (fun k hk=>by cases hk;exact ⟨Nat.zero_le _,_,_,hx2,by simp⟩)).kps (by decide) (by decide) (by decide) (by decide),h5⟩)⟩
 obtain ⟨q0,q1,q2,q3,q4⟩:=hx2.cells;have qz:=hx2.frz;obtain ⟨hp5,hg5⟩:=hx2.put (.int .i64 y0) (.slice xa xn xc) (.slice ka kn kc) (.int .i64 y3) (.bool y4);obtain ⟨t0,t1,t2,t3,t4⟩:=hp5.cells;have HF:=aA hF;clear hF hrd h hx1 hx2 hbw hb1 hb2 hp5 hg5;go_wp2_with (fail);refine bodyPost_ret (v:=.tuple #[.agg #[.int .i64 y0,.slice xa xn xc,.slice ka kn kc,.int .i64 y3,.bool y4],.int .i64 ec]) (w:=mT w2 w.heap.size (.int .i64 y0) (.slice xa xn xc) (.slice ka kn kc) (.int .i64 y3) (.bool y4)) (by simp [results,Tryz.results11,go_sem,t0,t1,t2,t3,t4];try rfl) rfl ?_;exact HF.out
theorem aZ8:pQ [(false,pS)] [(true,pT)] 0 0 [] true 0:=
 Or.inr ⟨by kernel_rfl,by kernel_rfl,Or.inr ⟨0,0,⟨by decide,by decide,rfl,rfl,by decide⟩,aY1⟩⟩
theorem aZ9 (w:World):Calls Tryz.prog 11 #[.string ⟨#[112,46,32,126,112,46]⟩,.int .i64 100] w fun e w'=>∃va vn vc used T,e=.returned (.tuple #[.agg #[.int .i64 1,.slice va vn vc,.slice none 0 0,.int .i64 (used:Nat),.bool false],.int .i64 0])∧T.map Prod.fst=[gA,jW,oW]∧kJ w.heap.size w' (.slice va vn vc) T∧Below w.heap.size w w':=by
 refine (aZ7 _ 100 (fun _=>aLc) w (by decide) (fun out at' h=>?_)).mono ?_
 ·obtain ⟨rfl,_,_⟩:=aKr h;refine ⟨fun c hc=>?_,by simp,fun l hl _ _ L n hT=>?_⟩
  ·simp at hc;rcases hc with rfl | rfl <;> kernel_rfl
  ·obtain rfl:l=100:=by omega
   exact aZ3 hT
 ·rintro e w' ⟨out,at',er,hrd,hb,h⟩;obtain ⟨rfl,rfl,rfl⟩:=aKr hrd;rcases h with ⟨h1,_⟩ | ⟨_,h1,_⟩ | ⟨_,_,_,vd,vs,vk,used,b,T,ks,rfl,hA,hE⟩
  ·exact absurd rfl h1
  ·exact absurd ⟨by decide,by decide⟩ h1
  ·obtain ⟨⟨rfl,hT,rfl⟩,_⟩:=hE;obtain ⟨va,vc,rfl⟩:=aS hA.st.row;rcases hA.kp with ⟨h2,_⟩ | ⟨_,rfl⟩
   ·cases h2
   ·exact ⟨va,_,vc,used,T,rfl,hT,hA.st,hb⟩
set_option maxHeartbeats 4000000 in
theorem aZa (p:Value) (w:World) (hT:jF w):Calls Tryz.prog 5 #[p] w fun e w'=>e=.returned (.bool true)∧Below w.heap.size w w':=by
 have CR:=aA (aN8 ⟨#[112,40,97,41,46,32,126,112,40,88,41,46]⟩ w (by decide));have HT:=aA hT;clear hT;go_enter Tryz.func5,Tryz.ntmps5;go_wp2_with (first
  | (go_at_call 9;refine (aB CR).mono ?_)
  | go_in)
 clear CR;rintro e w1 ⟨v,QV,at1,er,rfl,hrd,hmem,hb1⟩;obtain ⟨hout,rfl,rfl⟩:=aXy hrd;have hcls:=hmem.cls;obtain ⟨P,hP⟩ : ∃P,(QV.map fun p=>(p.1.map Prod.fst,p.2))=P:=⟨_,rfl⟩;rw [←pE.fsts,hP] at hout;rw [hP] at hcls;have hl2:P.length=2:=by have:=congrArg List.length hout;simpa using this
 have p0:P[0].1=[(false,pS)]:=by have:=congrArg (fun l=>l[0]?) hout;simpa [hl2] using this
 have p1:P[1].1=[(true,pT)]:=by have:=congrArg (fun l=>l[1]?) hout;simpa [hl2] using this
 obtain ⟨g,cap,ad0,cp0,rfl,-,c0,m0⟩:=hcls.cell (k:=0) (by omega);obtain ⟨g',cap',ad1,cp1,hg,-,c1,m1⟩:=hcls.cell (k:=1) (by omega);simp at hg;obtain ⟨rfl,rfl⟩:=hg;rw [p0] at c0 m0;rw [p1] at c1 m1;rw [hl2];obtain ⟨_,_,e0,-,L0,-⟩:=m0.lits (pD (by kernel_rfl));cases e0;obtain ⟨_,_,e1,-,L1,-⟩:=m1.lits (pD (by kernel_rfl));cases e1;have CS:=aA (fun (wx:World) (hx:∃d,wx=w1.drewN d)=>(aXs ad0 ad1 cp0 cp1 [(false,pS)] [(true,pT)] 0 0 wx (by obtain ⟨d,rfl⟩:=hx;exact L0.below (aI ⟨d,rfl⟩) (Nat.le_refl _)) (by obtain ⟨d,rfl⟩:=hx;exact L1.below (aI ⟨d,rfl⟩) (Nat.le_refl _)) (by obtain ⟨d,rfl⟩:=hx;exact (HT.out.below hb1 (Nat.le_refl _)).below (aI ⟨d,rfl⟩) (Nat.le_refl _))).mono (R':=fun e w2=>∃ra rc,e=.returned (.tuple #[.slice ra 0 rc,.bool true,.int .i64 0])∧Below w.heap.size w w2∧Below w1.heap.size w1 w2) (fun e w2 he=>by
  obtain ⟨d,rfl⟩:=hx;obtain ⟨v2,out,yes,er,rfl,hsp,hcm,_,hb2⟩:=he;obtain ⟨rfl,rfl,rfl⟩:=hsp.one aZ8;obtain ⟨ra,rc,rfl⟩:=hcm.shape;exact ⟨ra,rc,rfl,hb1.trans (((aI ⟨d,rfl⟩).trans hb2).mono hb1.size),(aI ⟨d,rfl⟩).trans hb2⟩))
 have CV:=aA (fun (wx:World)=>aZ9 wx);clear hrd hmem hb1 hout hcls hP p0 p1 m0 m1 L0 L1 HT hl2;simp only [List.length_cons,List.length_nil,Nat.zero_add] at c0 c1 CS;go_wp2;go_region_held3 (fun w'=>w'.cell? ⟨g,0,none⟩=some (.slice ad0 1 cp0)∧w'.cell? ⟨g,1,none⟩=some (.slice ad1 1 cp1)) (first | trivial | go_keep)
  (first
   | (go_at_call 10;refine (aB CS _ (by first | exact ⟨0,rfl⟩ | exact ⟨1,rfl⟩ | exact ⟨_,rfl⟩)).mono ?_;rintro e w2 ⟨ra,rc,rfl,hb2,hb3⟩;have k0:=Below.at' hb3 (Nat.le_refl _) c0;have k1:=Below.at' hb3 (Nat.le_refl _) c1;have HB2:=aA hb2;clear hb2 hb3)
   | go_in)
 clear k0 k1 c0 c1 CS;go_wp2_with (first
  | (go_at_call 11;refine (aB CV _).mono ?_;rintro e w3 ⟨va,vn,vc,used,T,rfl,-,-,hb3⟩;have HB3:=aA (HB2.out.trans (hb3.mono HB2.out.size));clear hb3)
  | go_in)
 go_ret;exact ⟨rfl,HB3.out.alloc HB3.out.size _⟩
abbrev dY:Value:=.slice none 0 0
theorem aZb (w:World):dM (w.alloc (.cells (lD (dY,dY) dY dY 0) 31)) w.heap.size w.heap.size dY dY dY dY [] [] [] 0:=by
 have hh:(w.alloc (.cells (lD (dY,dY) dY dY 0) 31)).heap[w.heap.size]?=some (.cells (lD (dY,dY) dY dY 0) 31):=by show (w.heap.push _)[w.heap.size]?=_;simp
 exact ⟨⟨hh,Nat.le_refl _,World.ownsRow_nil _ _ _ _,World.ownsRow_nil _ _ _ _,fun x hx=>by simp at hx,by simp,by omega,by omega⟩,World.ownsRow_nil _ _ _ _,World.ownsRow_nil _ _ _ _,fun f hf=>by simp at hf,fun f hf=>by simp at hf,by simp,by simp,fun k hk=>by simp at hk⟩
def oX:List Lt:=[(false,[(⟨#[112]⟩,1),(⟨#[]⟩,0)]),(false,[(⟨#[112]⟩,1),(⟨#[]⟩,1)])]
abbrev aE0:Obj:=.cells #[.string ⟨#[112]⟩,.int .i64 1,.string ⟨#[]⟩,.int .i64 0] 36
abbrev aE1:Obj:=.cells #[.string ⟨#[112]⟩,.int .i64 1,.string ⟨#[]⟩,.int .i64 1] 36
abbrev kfL (n:Nat):Obj:=.cells #[.bool false,.slice (some ⟨n,0,none⟩) 2 2,.bool false,.slice (some ⟨n+1,0,none⟩) 2 2] 39
abbrev sX (w:World):World:=((w.alloc aE0).alloc aE1).alloc (kfL w.heap.size)
theorem aE3 (w:World):Below w.heap.size w (sX w):=(((Below.refl _ _).alloc (Nat.le_refl _) _).alloc (by simp) _).alloc (by simp;omega) _
theorem aLe (w:World):(sX w).heap[w.heap.size]?=some aE0∧(sX w).heap[w.heap.size+1]?=some aE1∧(sX w).heap[w.heap.size+2]?=some (kfL w.heap.size):=by
 have e:(sX w).heap=((w.heap.push aE0).push aE1).push (kfL w.heap.size):=rfl;rw [e];refine ⟨?_,?_,?_⟩
 ·rw [Array.getElem?_push,if_neg (by simp;omega),Array.getElem?_push,if_neg (by simp)];simp
 ·rw [Array.getElem?_push,if_neg (by simp),Array.getElem?_push,if_pos (by simp)]
 ·rw [Array.getElem?_push,if_pos (by simp)]
theorem aZc (w:World):bE (sX w) (some ⟨w.heap.size+2,0,none⟩) oX:=by
 obtain ⟨h0,h1,h2⟩:=aLe w;refine ⟨by decide,fun k hk=>?_⟩;have hk0:k=0∨k=1:=by simp [oX] at hk;omega
 rcases hk0 with rfl | rfl
 ·refine ⟨w.heap.size+2,0,some ⟨w.heap.size,0,none⟩,2,rfl,(cell_of_row _ _ _ _ _ _ h2).trans rfl,(cell_of_row _ _ _ _ _ _ h2).trans rfl,⟨Nat.le_of_ble_eq_true rfl,?_,?_⟩⟩
  ·intro j hj;have hj2:j=0∨j=1:=by simp [oX] at hj;omega
   rcases hj2 with rfl | rfl <;> exact Nat.le_of_ble_eq_true rfl
  ·intro j hj;have hj2:j=0∨j=1:=by simp [oX] at hj;omega
   rcases hj2 with rfl | rfl
   ·exact ⟨_,_,rfl,(cell_of_row _ _ _ _ _ _ h0).trans rfl,(cell_of_row _ _ _ _ _ _ h0).trans rfl⟩
   ·exact ⟨_,_,rfl,(cell_of_row _ _ _ _ _ _ h0).trans rfl,(cell_of_row _ _ _ _ _ _ h0).trans rfl⟩
 ·refine ⟨w.heap.size+2,0,some ⟨w.heap.size+1,0,none⟩,2,rfl,(cell_of_row _ _ _ _ _ _ h2).trans rfl,(cell_of_row _ _ _ _ _ _ h2).trans rfl,⟨Nat.le_of_ble_eq_true rfl,?_,?_⟩⟩
  ·intro j hj;have hj2:j=0∨j=1:=by simp [oX] at hj;omega
   rcases hj2 with rfl | rfl <;> exact Nat.le_of_ble_eq_true rfl
  ·intro j hj;have hj2:j=0∨j=1:=by simp [oX] at hj;omega
   rcases hj2 with rfl | rfl
   ·exact ⟨_,_,rfl,(cell_of_row _ _ _ _ _ _ h1).trans rfl,(cell_of_row _ _ _ _ _ _ h1).trans rfl⟩
   ·exact ⟨_,_,rfl,(cell_of_row _ _ _ _ _ _ h1).trans rfl,(cell_of_row _ _ _ _ _ _ h1).trans rfl⟩
theorem aZd (w:World):qM (sX w) (some ⟨w.heap.size+2,0,none⟩) oX:=by
 obtain ⟨h0,h1,h2⟩:=aLe w;intro k hk b o aa n cap ha hc hn;subst hn;have hk0:k=0∨k=1:=by simp [oX] at hk;omega
 obtain ⟨rfl,rfl⟩ : w.heap.size+2=b∧0=o:=by simpa using ha
 rcases hk0 with rfl | rfl
 ·rw [cell_of_row _ _ _ _ _ _ h2] at hc;have hc':some (Value.slice (some ⟨w.heap.size,0,none⟩) 2 2)=some (Value.slice none n cap):=hc;simp at hc'
 ·rw [cell_of_row _ _ _ _ _ _ h2] at hc;have hc':some (Value.slice (some ⟨w.heap.size+1,0,none⟩) 2 2)=some (Value.slice none n cap):=hc;simp at hc'
set_option maxHeartbeats 4000000 in
theorem aZe (ax:Option Addr) (cx:Nat) (x:List Lt) (i j:Int) (w:World) (hx:bE w ax x) (zx:qM w ax x) (hT:jF w) (sx:x.length≤1000000) (qx:∀z∈x,z.2.length≤1000000) :
  Calls Tryz.prog 4 #[.slice ax x.length cx,.int .i64 i,.int .i64 j] w fun e w'=>e=.returned (.bool true)∧Below w.heap.size w w':=by
 have hb0:Below w.heap.size w (w.alloc (.cells (lD (dY,dY) dY dY 0) 31)):=(Below.refl _ w).alloc (Nat.le_refl _) _;have CA:=aA (aZa (.pointer (some ⟨w.heap.size,0,none⟩)) (w.alloc (.cells (lD (dY,dY) dY dY 0) 31)) (hT.below hb0 (Nat.le_refl _)));have CL:=aA (fun (wx:World) (hb:Below w.heap.size w wx) (nv mv xv yv:Value) (E:List (Value×Int)) (F:List bZ) (G:List dB) (next:Int) (hB:dM wx w.heap.size w.heap.size nv mv xv yv E F G next) (hE:E.length≤6000000000) (hF1:F.length < 800000000) (hnx : -6000000000≤next)=>aHa w.heap.size w.heap.size nv mv xv yv E F G next ax cx x i j wx hB (hx.below hb (Nat.le_refl _)) (zx.below hx hb) (hT.below hb (Nat.le_refl _)) sx qx hE hF1 hnx);have CK0:=aA (fun (wx:World) (hb:Below w.heap.size w wx) (hB:dM wx w.heap.size w.heap.size dY dY dY dY [] [] [] 0)=>aHa w.heap.size w.heap.size dY dY dY dY [] [] [] 0 (some ⟨wx.heap.size+2,0,none⟩) 2 oX 0 1 (sX wx) (hB.below (aE3 wx)) (aZc wx) (aZd wx) (hT.below (hb.trans ((aE3 wx).mono hb.size)) (Nat.le_refl _)) (by decide) (by intro z hz;simp [oX] at hz;rcases hz with rfl | rfl <;> simp) (by simp) (by simp) (by omega));have HB0:=aA hb0;clear hx zx hT qx hb0;go_enter Tryz.func4,Tryz.ntmps4;go_upto_region 3 with (first
  | (go_at_call 5;refine (aB CA).mono ?_;rintro e w1 ⟨rfl,hb1⟩;have HW1:=aA (HB0.out.trans (hb1.mono (by simp)));have HK1:=aA ((aZb w).below hb1);clear hb1)
  | go_in)
 have C1:=aA (aB CK0 w1 HW1.out HK1.out);simp only [oX,List.length_cons,List.length_nil,Nat.zero_add,Nat.reduceAdd] at C1;go_upto_region 4 with (first
  | (go_at_call 8;refine (aB C1).mono ?_;rintro e w2 ⟨rfl,nv2,mv2,xv2,E2,F2,next2,r2⟩;have HR2:=aA r2;clear r2)
  | go_in)
 have e2:=HR2.out.lenE;have f2:=HR2.out.lenF;have m2:=HR2.out.lo;simp at e2 f2 m2;have HW2:=aA ((HW1.out.trans ((aE3 w1).mono HW1.out.size)).trans HR2.out.low);have C2:=aA (aB CL w2 HW2.out _ _ _ _ _ _ _ _ HR2.out.book (by omega) (by omega) (by omega));go_upto_region 5 with (first
  | (go_at_call 8;refine (aB C2).mono ?_;rintro e w3 ⟨rfl,nv3,mv3,xv3,E3,F3,next3,r3⟩;have HR3:=aA r3;clear r3)
  | go_in)
 have HW3:=aA (HW2.out.trans HR3.out.low);have CK:=aA (aM8 w.heap.size w.heap.size nv3 mv3 xv3 dY E3 F3 [] next3 w3 HR3.out.book);clear e2 f2 m2 C1 C2 CL CA CK0;go_wp2_with (first
  | (go_at_call 7;refine (aB CK).mono ?_;rintro e w5 ⟨rfl,hb5⟩;have HW5:=aA (HW3.out.trans (hb5.mono HW3.out.size));clear hb5)
  | go_in)
 go_ret;exact ⟨rfl,HW5.out⟩
end Go.Proofs.YtcldkjcpofjmhaaGreatDoor
namespace Go.Proofs.YtcldkjcpofjmhaaGreatDoor
open Go.ChangeShapes Go.WideShapes Go.ChangeAt Go.RowKit Go.Lib Go.Shelf
set_option maxRecDepth 100000
theorem own:ownKnob Tryz.prog.godebug=none:=by kernel_rfl
theorem aE4:laidOutB Tryz.prog=true:=by kernel_rfl
theorem aZf {W:World} (h:laidMetH Tryz.prog Rows.factoredUptoRow.laid W):jF W:=by
 have hL:laidMet Tryz.prog Rows.factoredUptoRow.laid W:=h;refine utf8Tabs_of_readsT (U8Types.of196 aGz) ⟨by kernel_rfl,by kernel_rfl,by kernel_rfl,by kernel_rfl,by kernel_rfl,by kernel_rfl,by kernel_rfl⟩ ?_ ?_
 ·rw [←Pinned.utf8First_eq];exact Lib.laidMet.reads hL (by simp [Rows.factoredUptoRow,Rows.laid_unicode_utf8_first])
 ·have e:(Rows.laid_unicode_utf8_acceptRanges:DataW Unit)=acceptData:=by kernel_rfl
  rw [←e];exact Lib.laidMet.reads hL (by simp [Rows.factoredUptoRow])
theorem contract (H:Type) (enc:TypeId×Value→H) (W:World) (base:Nat) (args:Array Value) (ds gs:List (DataW H)) (before:List MemPlace)
  (hval:∀(j:Nat) t v,Tryz.f4.params[j]?=some t→args[j]?=some v→Value.okWide Tryz.prog W .any base t v)
  (hW:DataW.Whole enc Tryz.prog Tryz.f4.params.toList Rows.factoredSpec.vars false W args.toList ds gs before)
  (hz:(DataW.weightsEach Tryz.prog (Tryz.f4.params.toList++Rows.factoredSpec.plain.varTypes Tryz.prog) (ds++gs)).all (·≤reachBytes)=true)
  (hL:laidMetH Tryz.prog Rows.factoredUptoRow.laid W) (hk:Rows.uptoSmall H (ds++gs)=true) :
  Calls Tryz.prog 4 args W fun e W'=>∃v,e=.returned v∧Rows.factoredSpec.post enc Tryz.prog Tryz.f4 false true false false W args v W':=by
 have hW':=hW;obtain ⟨p,q,hA0,hV,rfl,_,_⟩:=hW;have hA:DataW.TrodAll enc Tryz.prog W 0 (fun _=>true) true Tryz.f4.params.toList args.toList ds p:=hA0;have hz':=hz;rw [Tryz.params4] at hA hval hz';obtain ⟨v0,v1,v2,d0,d1,d2,p0,p1,p2,rfl,rfl,rfl,h0,h1,h2⟩:=trodAll_three hA;obtain ⟨rfl,rfl⟩:=trodVars_none hV;obtain ⟨a0,len0,cap0,rfl⟩:=okWide_slice Tryz.underlying22 (hval 0 22 v0 rfl rfl);obtain ⟨i1,rfl⟩:=okWide_int Tryz.underlying3 (hval 1 3 v1 rfl rfl);obtain ⟨i2,rfl⟩:=okWide_int Tryz.underlying3 (hval 2 3 v2 rfl rfl);have h0k:=h0;obtain ⟨fuel0,hf0⟩:=h0;clear hA0;simp only [List.append_nil] at hW' hk;have hlt:∀x∈p0++p1++p2,x.block < W.heap.size:=fun x hx=>by simpa using hW'.lt x hx
 have hargs0:∀(W':World),Below W.heap.size W W'→DataW.Trod enc Tryz.prog W' 0 (fun b=>decide (b < W.heap.size)) true 22 (.slice a0 len0 cap0) d0 p0:=
  fun W' hn=>Below.trod aE4 (by kernel_rfl) (of_decide_eq_true (by kernel_rfl)) h0k hn (fun x hx=>hlt x (by simp [hx]))
 have hargs1:∀(W':World),Below W.heap.size W W'→DataW.Trod enc Tryz.prog W' 0 (fun b=>decide (b < W.heap.size)) true 3 (.int .i64 i1) d1 p1:=
  fun W' hn=>Below.trod aE4 (by kernel_rfl) (of_decide_eq_true (by kernel_rfl)) h1 hn (fun x hx=>hlt x (by simp [hx]))
 have hargs2:∀(W':World),Below W.heap.size W W'→DataW.Trod enc Tryz.prog W' 0 (fun b=>decide (b < W.heap.size)) true 3 (.int .i64 i2) d2 p2:=
  fun W' hn=>Below.trod aE4 (by kernel_rfl) (of_decide_eq_true (by kernel_rfl)) h2 hn (fun x hx=>hlt x (by simp [hx]))
 obtain ⟨b0,c0,cp0,hcs0,hl0,hn0⟩:=aSa hf0 (fun n hn=>by
  have:=List.all_eq_true.1 hz' n (DataW.weights_mem_each (j:=0) (t:=22) (d:=d0) rfl rfl n hn);simpa using this)
 obtain ⟨rfl,rfl,rfl⟩ : a0=b0∧len0=c0.length∧cap0=cp0:=by simpa [Value.cells] using hcs0
 have hbk:=aSe hk;simp only [Rows.uptoBulkAll] at hbk;obtain ⟨k0,k0'⟩:=aSd hf0 hl0;simp only at k0 k0';refine (aZe a0 cap0 c0 i1 i2 W hl0 hn0 (aZf hL) (by omega) (fun z hz=>by have:=k0' z hz;omega)).mono fun e W' ⟨he,hB⟩=>?_
 subst he;have e1:Rows.factoredSpec.fn H ([d0,d1,d2]++[]) = {results:=[.lit (.bool true)],args:=[d0,d1,d2]}:=rfl;refine ⟨_,rfl,_,_,_,[],p0++(p1++p2),[],hW',?_,?_,by rw [e1];rfl,hB.frame _,fun h=>by cases h⟩
 ·rw [e1];exact trodAll_mk1 (shut_bool Tryz.underlying4 _)
 ·rw [e1];exact trodAll_mk3 (hargs0 _ hB) (hargs1 _ hB) (hargs2 _ hB)
noncomputable def aAo (os:Os):World:=
 let w0:=World.holding Tryz.prog os ⟨#[],#[],[]⟩;let put (h:Array Obj) (g:Nat) (cs:Array Value):Array Obj:=h.modify g fun
  | .cells _ t frozen=>.cells cs t frozen
  | o=>o
 let h1:=put w0.heap 1 (Lib.firstTab.map fun z=>Value.int .u8 z).toArray;let h2:=put h1 2 ((List.range 16).flatMap fun i=>[Value.int .u8 (Lib.accLo i),Value.int .u8 (Lib.accHi i)]).toArray;{w0 with heap:=h2}
theorem aZg (os:Os) (args:Array Value):laidMet Tryz.prog Rows.factoredUptoRow.laid ((aAo os).forCall (fun _ _=>0) ⟨#[],args,[]⟩).memory:=
 (LaidIn.of_run (l := [("unicode/utf8.acceptRanges", Rows.laid_unicode_utf8_acceptRanges), ("unicode/utf8.first", Rows.laid_unicode_utf8_first)]) [2, 1] 8 (by kernel_rfl) (by kernel_rfl) (by kernel_rfl) (by kernel_rfl)).met
theorem aZh (os:Os) {H:Type} (enc:TypeId×Value→H) :
  (Rows.OpenSpec.upto Rows.factoredSpec).preRow enc Tryz.prog Tryz.f4 Rows.factoredUptoRow.domain false Rows.factoredUptoRow.laid ((aAo os).forCall (fun _ _=>0) ⟨#[],#[.slice none 0 0,.int .i64 0,.int .i64 0],[]⟩).memory #[.slice none 0 0,.int .i64 0,.int .i64 0]:=by
 have hw:(DataW.whole enc Tryz.prog ((aAo os).forCall (fun _ _=>0) ⟨#[],#[.slice none 0 0,.int .i64 0,.int .i64 0],[]⟩).memory Tryz.f4.params.toList Rows.factoredSpec.vars false #[Value.slice none 0 0,Value.int .i64 0,Value.int .i64 0].toList 8).map (fun x=>(x.1,x.2.1))=some ([.nil,.lit (.int .i64 0),.lit (.int .i64 0)],[]):=by kernel_rfl
 obtain ⟨⟨x1,x2,x3⟩,hx,hx1⟩:=Option.map_eq_some_iff.1 hw;simp only [Prod.mk.injEq] at hx1;obtain ⟨rfl,rfl⟩:=hx1;exact OpenSpec.preRow_of_cond 8 hx (by kernel_rfl) (fun k hk=>by cases hk;kernel_rfl) (by kernel_rfl) (aZg os _)
theorem lifted (os:Os) (started:os.Started) (H:Type) (enc:TypeId×Value→H) (F:Stop.Interp) :
  ReturnsInHanded {} Tryz.checked os 4 .any ((Rows.OpenSpec.upto Rows.factoredSpec).preRow enc Tryz.prog Tryz.f4 Rows.factoredUptoRow.domain false Rows.factoredUptoRow.laid) (((Rows.OpenSpec.upto Rows.factoredSpec).at F).post enc Tryz.prog Tryz.f4 false true false false):=by
 refine returnsInHanded_of_row (C:=Tryz.checked) (s:=Rows.OpenSpec.upto Rows.factoredSpec) own started (by kernel_rfl) Tryz.func4
  (witness_row_atRef (enc:=enc) (C:=Tryz.checked) false (aAo os) #[.slice none 0 0,.int .i64 0,.int .i64 0] rfl (by kernel_rfl) (by kernel_rfl) (by kernel_rfl) (aZh os enc)) ?_
 intro W base args ds gs before hval hW _ hcond hz hL _ _;exact contract H enc W base args ds gs before hval hW hz hL (hcond _ rfl)
theorem said:Rows.FactoredUptoSaid:=
 OpenClaim.holds_of_cond 4 Tryz.f4 rfl rfl rfl rfl rfl rfl rfl ⟨rfl,rfl,rfl,rfl,rfl⟩ rfl rfl rfl rfl rfl (by kernel_rfl) Tryz.func4 (by kernel_rfl)
  (of_decide_eq_true (by kernel_rfl)) (by unfold Func.isWrapper;first | (rw [if_pos (by decide +kernel)];kernel_rfl) | (rw [if_neg (by decide +kernel)];exact ⟨rfl,rfl⟩))
  (fun os started H enc _ F=>by rw [OpenClaim.pre_eq_preRow];exact lifted os started H enc F)
theorem plain (f : FuncId) (fn : Func) (hf : Tryz.pinned.checked.prog.funcNamed "moot/mootlaw.Factored" = some f) (hfn : Tryz.pinned.checked.prog.funcs[f]? = some fn) :
  false=Tryz.pinned.checked.prog.looks []∧∀(j:Nat) t,fn.params[j]?=some t→Tryz.pinned.checked.prog.wantsStandIn t=false:=by
 obtain rfl : f = 4 := Option.some.inj ((show Tryz.prog.funcNamed "moot/mootlaw.Factored" = some 4 by kernel_rfl).symm.trans hf) |>.symm
 obtain rfl:fn=Tryz.f4:=(Option.some.inj (Tryz.func4.symm.trans hfn)).symm;refine ⟨by kernel_rfl,fun j t ht=>?_⟩;rw [Tryz.params4] at ht;have hm:t=22∨t=3:=by
  have hh:t∈[22,3,3]:=by simpa using Array.mem_of_getElem? ht
  rcases List.mem_cons.1 hh with h | hh
  ·exact Or.inl h
  ·rcases List.mem_cons.1 hh with h | hh
   ·exact Or.inr h
   ·exact Or.inr (List.mem_singleton.1 hh)
 rcases hm with rfl | rfl
 ·exact (show Tryz.prog.wantsStandIn 22=false by kernel_rfl)
 ·exact (show Tryz.prog.wantsStandIn 3=false by kernel_rfl)
theorem factored_upto_card:Rows.FactoredUptoCardSaid:=
 Claim7.holds_tied_plain_at .later [] _ _ _ _ said (fun _ h=>by cases h) (by kernel_rfl) (fun _ h=>by cases h) factoredUpto_row_tie rfl ⟨rfl,rfl⟩ (by kernel_rfl) rfl plain (by kernel_rfl)
#print axioms factored_upto_card
end Go.Proofs.YtcldkjcpofjmhaaGreatDoor
