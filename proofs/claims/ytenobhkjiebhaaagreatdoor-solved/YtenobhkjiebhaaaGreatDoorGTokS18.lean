import Derived.Test.YtenobhkjiebhaaaGreatDoorGWord2S18
import Derived.Test.YtenobhkjiebhaaaGreatDoorSCl1S18
open List renaming length->Z,getElem?_eq_getElem->zq,length_append->zl,length_map->zi,getElem_mem->zc
open Nat renaming le_refl->zs,zero_add->zj,lt_of_lt_of_le->zg,le_trans->ze
open Option renaming some->Y,none->zb
open Or renaming inr->zn,inl->zh
open Prod renaming fst->zk
namespace Go.Proofs.YtenobhkjiebhaaaGreatDoor
open Go renaming Value->V,World->zu
open _root_.Go.Proofs.Tryz renaming prog->zm
open Value renaming ownBlock->zt
open World renaming setCell->U,ownsRow->zv,grownBy->zr,cell?->zp,ownsRow_nil->zo
open Go.RowKit Go.WideMaps
set_option maxHeartbeats 10000000
set_option maxRecDepth 100000
variable{s wd:ByteArray}{cs:List (Nat×List Lt)}{L:List Tk}{xs:List V}{B B' k n pa pb:Nat}{e:TypeId}{st:bC}{w w' wr:zu}{left v vB vC vL vM vP vV:V}
theorem aWv{a:Nat}(b:fT s k=.bad a):a=k:=by grind[fT]
theorem aWw{b:Nat}:fT s k≠.stop b:=by
 intro a;unfold fT at a;repeat' split at a
 all_goals cases a
theorem aM5{e:Nat}{f:Tk}(c:k<s.size)(a:fT s k=.tok f e):k<e/\e<=s.size:=by
 unfold fT at a;split at a
 .rename_i b;split at a
  .cases a
  simp only[Nx.tok.injEq]at a;rw[<-a.2];exact⟨aLo c b,aI4 (by omega)⟩
 split at a
 .split at a
  .rename_i n g d;simp only[Nx.tok.injEq]at a;rw[<-a.2];have:=aLn d;omega
  cases a
 split at a
 .split at a
  .rename_i i;simp only[Nx.tok.injEq]at a;rw[<-a.2];omega
  cases a
 split at a
 .simp only[Nx.tok.injEq]at a;rw[<-a.2];omega
 cases a
theorem aWx(s:ByteArray):∀n a b q,s.size+1-q<=n->q<=s.size->s.size<q+a->s.size<q+b->cW s a q=cW s b q:=by
 intro n;induction n with
 |zero=>intro a b q m l;omega
 |succ n ih=>
  intro a b q m l r u;obtain⟨g,rfl⟩:∃g,a=g+1:=⟨a-1,by omega⟩;obtain⟨i,rfl⟩:∃i,b=i+1:=⟨b-1,by omega⟩;rw[cW,cW];by_cases c:q<s.size
  .rw[aT c,aT c];by_cases f:lE (aG s q)=true
   .rw[aT f,aT f];exact ih _ _ _ (by omega) (by omega) (by omega) (by omega)
   rw[aS f,aS f];by_cases d:aG s q=37
   .rw[aT d,aT d];have o:=aB4 c d;have j:=aD1 (s:=s) (p:=q) l;exact ih _ _ _ (by omega) j (by omega) (by omega)
   rw[aS d,aS d];cases ht:fT s q with
   |tok t e=>
    obtain⟨o,j⟩:=aM5 c ht;simp only;rw[ih g i e (by omega) j (by omega) (by omega)]
   |bad p=>rfl
   |stop p=>rfl
  rw[aS c,aS c]
def fX(s:ByteArray)(q:Nat):List Tk:=fY (cW s (s.size+1-q) q)
theorem aD6{q a:Nat}(c:q<=s.size)(b:s.size<q+a):fY (cW s a q)=fX s q:=by unfold fX;rw[aWx s _ a (s.size+1-q) q (zs _) c b (by omega)]
theorem aWy(s:ByteArray):∀n a q,s.size+1-q<=n->q<=s.size->s.size<q+a->
  match vK s a q with
  | .tok t e=>fX s q=t::fX s e/\e<=s.size/\t.kind≠101/\t.kind≠63
  | .bad p=>fX s q=[⟨63,⟨#[]⟩,p⟩]/\p<=s.size
  | .stop p=>fX s q=[⟨101,⟨#[]⟩,p⟩]/\p<=s.size:=by
 intro n;induction n with
 |zero=>intro a q j f;omega
 |succ n ih=>
  intro a q j f m;obtain⟨i,rfl⟩:∃i,a=i+1:=⟨a-1,by omega⟩;rw[vK,<-aD6 f m,cW];by_cases b:q<s.size
  .rw[aT b,aT b];by_cases g:lE (aG s q)=true
   .rw[aT g,aT g,aD6 (q:=q+1) (by omega) (by omega)];exact ih _ _ (by omega) (by omega) (by omega)
   rw[aS g,aS g];by_cases d:aG s q=37
   .rw[aT d,aT d];have l:=aB4 b d;have c:=aD1 (s:=s) (p:=q) f;rw[aD6 c (by omega)];exact ih _ _ (by omega) c (by omega)
   rw[aS d,aS d];cases ht:fT s q with
   |tok t e=>
    obtain⟨l,c⟩:=aM5 b ht;simp only;refine⟨?_,c,aP7 ht⟩;rw[<-aD6 c (show s.size<e+i by omega)];rfl
   |bad p=>
    have o:p=q:=aWv ht;subst o;exact⟨rfl,f⟩
   |stop p=>exact absurd ht aWw
  rw[aS b,aS b];exact⟨rfl,f⟩
def jU:List Nat:=[110,118,102,101,63,124,126,40,41,44,46]
theorem aGl:∀a∈jU,∀b∈jU,fF a=fF b->a=b:=by decide
theorem aWz{e:Nat}{d:Tk}(a:fT s k=.tok d e):d.kind∈jU:=by
 unfold fT at a;split at a
 .split at a
  .cases a
  simp only[Nx.tok.injEq]at a;rw[<-a.1];simp only;split<;>decide
 split at a
 .split at a
  .simp only[Nx.tok.injEq]at a;rw[<-a.1];show (110:Nat)∈jU;decide
  cases a
 split at a
 .split at a
  .simp only[Nx.tok.injEq]at a;rw[<-a.1];show (102:Nat)∈jU;decide
  cases a
 split at a
 .rename_i c;simp only[Nx.tok.injEq]at a;rw[<-a.1];simp only;generalize aG s k=b at c ⊢;have f:b=124\/b=126\/b=40\/b=41\/b=44\/b=46:=by unfold oU at c;simp at c;omega
  rcases f with rfl|rfl|rfl|rfl|rfl|rfl<;>decide
 cases a
theorem aX0(s:ByteArray):∀a k,∀b∈(cW s a k).1,b.kind∈jU:=by
 intro a;induction a with
 |zero=>intro k;simp[cW]
 |succ a ih=>
  grind[jU,aWz,cW]
theorem aX1{b:List Tk×Option Nat}(c:∀a∈b.1,a.kind∈jU):∀a∈fY b,a.kind∈jU:=by grind[jU,fY]
theorem aX2(s:ByteArray)(b a:Nat):(aH (fX s b) a).kind∈jU:=by grind[aH,aX1,fX,aX0,zq,List.getElem?_eq_none,zc,jU,tW,fY,cW]
theorem aX3{a c:List Tk}{b:Nat}{d:Tk}(f:a.drop b=d::c):b<Z a/\aH a b=d/\a.drop (b+1)=c:=by grind[aH,List.cons.injEq,List.drop_eq_getElem_cons,List.drop_of_length_le,zq]
section
variable {w:zu}{pb:Nat}{left:V}{k a:Int}{wd:ByteArray}{vC vP vM:V}
theorem cU.setTok(f:cU w pb left k a wd vC vP vM)(b c:Int)(d:ByteArray):cU (U (U (U w (aQ pb 1) (.int .i32 b)) (aQ pb 2) (iQ c)) (aQ pb 3) (.string d)) pb left b c d vC vP vM:=by have g:cU (U w (aQ pb 1) (.int .i32 b)) pb left b a wd vC vP vM:=heap_setCell_same w pb 1 _ _ _ f;have i:cU (U (U w (aQ pb 1) (.int .i32 b)) (aQ pb 2) (iQ c)) pb left b c wd vC vP vM:=heap_setCell_same _ pb 2 _ _ _ g;exact heap_setCell_same _ pb 3 _ _ _ i
theorem cU.rows(f:cU w pb left k a wd vC vP vM)(b c:Int)(i:ByteArray){B:Nat}{e:TypeId}{d:Nat}{v:V}{n:Nat}{xs:List V}(m:zv w B e d v n xs)(l:e≠74):zv (U (U (U w (aQ pb 1) (.int .i32 b)) (aQ pb 2) (iQ c)) (aQ pb 3) (.string i)) B e d v n xs:=by have g:cU (U w (aQ pb 1) (.int .i32 b)) pb left b a wd vC vP vM:=heap_setCell_same w pb 1 _ _ _ f;have j:cU (U (U w (aQ pb 1) (.int .i32 b)) (aQ pb 2) (iQ c)) pb left b c wd vC vP vM:=heap_setCell_same _ pb 2 _ _ _ g;grind[cU.row]
end
structure PP(B:Nat)(w:zu)(pb:Nat)(s:ByteArray)(T:List Tk)(i g q j m c:Nat)(vC vP vM:V):Prop where
 sc:cG B w pb s q g j m c (fF (aH T i).kind) (aH T i).pos (aH T i).txt vC vP vM
 lt:i<Z T
 on:(aH T i).kind≠101->(aH T i).kind≠63->fX s q=T.drop (i+1)
def fA(B:Nat)(w:zu)(pb:Nat)(s:ByteArray)(a:List Tk)(d c:Nat)(vC vP vM:V):Prop:=∃i f g b,PP B w pb s a d c i f g b vC vP vM
theorem aM6{d:zu}{T:List Tk}{i l f:Nat}{k g:Int}{e:Ending}{j:Nat}(J:f<=s.size)(F:s.size<f+j)(A:fX s f=T.drop i)(b:uR B pb s f j l k g wd vC vP vM w e d):e=.returned (.agg #[.int .i32 (fF (aH T i).kind),iQ (aH T i).pos,.string (aH T i).txt])/\zr w d (Y pb)/\(∃left,cU d pb left k g wd vC vP vM)/\
  fA B (U (U (U d (aQ pb 1) (.int .i32 (fF (aH T i).kind))) (aQ pb 2) (iQ (aH T i).pos)) (aQ pb 3) (.string (aH T i).txt)) pb s T i l vC vP vM:=by
 obtain⟨G,b⟩:=b;have m:=aWy s _ j f (zs _) J F;have z:∀(c:Tk) (o:Nat) (y:List Tk),T.drop i=c::y->(c.kind≠101->c.kind≠63->fX s o=y)->e=.returned (iM (fF c.kind) c.pos c.txt)->(∃u x q,cG B d pb s o l u x q k g wd vC vP vM)->e=.returned (.agg #[.int .i32 (fF (aH T i).kind),iQ (aH T i).pos,.string (aH T i).txt])/\zr w d (Y pb)/\(∃left,cU d pb left k g wd vC vP vM)/\fA B (U (U (U d (aQ pb 1) (.int .i32 (fF (aH T i).kind))) (aQ pb 2) (iQ (aH T i).pos)) (aQ pb 3) (.string (aH T i).txt)) pb s T i l vC vP vM:=by
  intro c o y C I E a;obtain⟨H,t,D⟩:=aX3 C;obtain⟨u,x,q,a⟩:=a;rw[t];refine⟨E,G,⟨_,a.box⟩,o,u,x,q,⟨?_,H,?_⟩⟩
  .rw[t];exact⟨a.box.setTok _ _ _,a.high,a.box.rows _ _ _ a.row (by decide),a.len,a.drop,a.le⟩
  rw[t,D];exact I
 cases hx:vK s j f with
 |tok c e'=>
  grind
 |bad p=>
  rw[hx]at b m;exact z ⟨63,⟨#[]⟩,p⟩ p [] (by rw[<-A,m.1]) (λ_ r=>absurd rfl r) b.1 b.2
 |stop p=>
  rw[hx]at b m;exact z ⟨101,⟨#[]⟩,p⟩ p [] (by rw[<-A,m.1]) (λr _=>absurd rfl r) b.1 b.2
theorem oQ{d:List Tk}{a j:Nat}(c:Nat)(C:c∈jU)(y:c≠101)(z:c≠63)(A:∀a,(aH d a).kind∈jU)(E:s.size<=3000)(x:fA B w pb s d a j vC vP vM):Calls zm 87 #[pQ pb,.int .i32 (fF c)] w λe w'=>e=.returned (.bool (decide ((aH d a).kind=c)))/\zr w w' (Y pb)/\fA B w' pb s d (if (aH d a).kind=c then a+1 else a) j vC vP vM:=by
 obtain⟨H,F,G,r,f⟩:=x;have u:=f.sc.box.c1;by_cases b:(aH d a).kind=c
 .rw[aT b,fL b];have i:=O ((aMd (s.size+1) f.sc E (by omega)).mono λe I D=>aM6 f.sc.le (by omega) (f.on (by rw[b];exact y) (by rw[b];exact z)) D);rw[b]at u i;clear b f;generalize fF c=K at *;generalize aH d (a+1)=t at i;obtain⟨R,T,S⟩:=t;simp only at i;go_enter Tryz.func87,Tryz.ntmps87;go_wp2_with(first
   |(go_at_call 49;refine(aD i).mono ?_;rintro e I ⟨rfl,m,⟨left,g⟩,l⟩;have J:=g.c1;have M:=g.c2;have N:=g.c3;have P:=g.soft;have o:=O m;have q:=O l;clear m l g)
   |go_in)
  go_ret;exact⟨rfl,tX (tX (tX o.o _) _) _,q.o⟩
 rw[aS b,gG b];have Q:(fF (aH d a).kind != fF c)=true:=by simp;exact λe=>b (aGl _ (A a) _ C e)
 have p:=O f;clear f;go_enter Tryz.func87,Tryz.ntmps87;go_wp2;go_ret;exact⟨rfl,World.grownBy.refl _ _,H,F,G,r,p.o⟩
structure dF(B B' mg:Nat)(w w':zu):Prop where
 os:w'.os=w.os
 tape:w'.tape=w.tape
 output:w'.output=w.output
 size:w.heap.size<=w'.heap.size
 block:∀k,k<w.heap.size->(k<B\/(k≠mg/\∀cs T fr,w.heap[k]?=Y (.cells cs T fr)->T≠3/\T≠74/\(T=52->k<B')))->w'.heap[k]?=w.heap[k]?
theorem dF.refl(B B' mg:Nat)(w:zu):dF B B' mg w w:=⟨rfl,rfl,rfl,zs _,λ_ _ _=>rfl⟩
theorem dF.trans{B B' mg:Nat}{a b c:zu}(d:dF B B' mg a b)(k:dF B B' mg b c):dF B B' mg a c:=
 ⟨k.os.trans d.os,k.tape.trans d.tape,k.output.trans d.output,ze d.size k.size,λi g f=>by
  have e:=d.block i g f;rw[k.block i (zg g d.size) (by rw[e];exact f),e]⟩
theorem dF.of_below{mg:Nat}(a:aB w w'):dF B B' mg w w':=⟨a.os,a.tape,a.output,a.size,λk b _=>a.block k b⟩
theorem dF.below{mg:Nat}(a:dF B B' mg w w')(c:B<=w.heap.size):Below B w w':=⟨a.os,a.tape,a.output,a.size,λk b=>a.block k (by omega) (zh b)⟩
theorem dF.mono{c d f:Nat}(a:dF B d f w w')(o:c<=d):dF B c f w w':=
 ⟨a.os,a.tape,a.output,a.size,λk q b=>a.block k q (b.imp id λ⟨i,b⟩=>⟨i,λcs T g p=>by
  obtain⟨j,l,m⟩:=b cs T g p;exact⟨j,l,λe=>zg (m e) o⟩⟩)⟩
theorem dF.grownBox{c:Nat}{b:zu}{k g:Int}(d:dF B B' c b w)(hb:cU w pb left k g wd vC vP vM)(j:B<=pb)(a:zr w w' (Y pb)):dF B B' c b w':=by refine d.trans ⟨a.os,a.tape,a.output,a.size,λk f i=>a.block k f ?_⟩;grind[cU]
theorem dF.grownMap{b:Nat}{c:zu}(d:dF B B' b c w)(i:B<=b)(a:zr w w' (Y b)):dF B B' b c w':=by refine d.trans ⟨a.os,a.tape,a.output,a.size,λk f g=>a.block k f ?_⟩;grind
theorem dF.grownRow{f b:Nat}{c:zu}{l:Nat}(g:dF B B' f c w)(j:zv w b e l v n xs)(q:B<=b)(u:e=3\/e=52/\B'<=b)(a:zr w w' (zt v)):dF B B' f c w':=by
 refine g.trans ⟨a.os,a.tape,a.output,a.size,λk i t=>a.block k i ?_⟩;intro d;obtain⟨_,⟨rfl,_⟩|⟨p,m,o,rfl,r,x,_⟩⟩:=j
 .simp[zt]at d
 simp[zt]at d;grind
theorem dF.own{c a:Nat}{d:Nat}(l:dF B B' c w w')(x:zv w a e d v n xs)(C:e≠3/\e≠74)(D:e=52->w.heap.size<=B')(u:zt v≠Y c):zv w' a e d v n xs:=by
 obtain⟨b,⟨rfl,m⟩|⟨g,f,i,rfl,o,q,p,t,z,y⟩⟩:=x
 .exact⟨b,zh ⟨rfl,m⟩⟩
 have r:=(bA q);refine⟨b,zn ⟨g,f,i,rfl,o,?_,p,t,z,y⟩⟩;rw[l.block g r (zn ⟨λj=>u (by rw[j];rfl),λcs T A E=>?_⟩)];all_goals grind
theorem cU.apart{k a:Int}(j:cU w pb left k a wd vC vP vM){B:Nat}{e:TypeId}{d:Nat}{v:V}{n:Nat}{xs:List V}(b:zv w B e d v n xs)(l:e≠74):zt v=zb\/zt v≠Y pb:=by
 obtain⟨_,⟨rfl,_⟩|⟨g,f,i,rfl,_,m,_⟩⟩:=b
 .exact zh rfl
 right;intro c;simp[zt]at c;grind[cU]
theorem wO{j:Nat}{c:Nat}{d:DataW Unit}(f:zv w B e j v n xs)(i:w.ownsMap zm 9 pO c k d):zt v≠Y c:=by
 obtain⟨p,m,g,_⟩:=i;intro a;obtain⟨_,⟨rfl,_⟩|⟨q,l,o,rfl,_,b,_⟩⟩:=f
 .simp[zt]at a
 simp[zt]at a;subst a;rw[g]at b;cases b
theorem aD7{k c:Int}{a:Nat}{b:DataW Unit}(i:cU w pb left k c wd vC vP vM)(d:w.ownsMap zm 9 pO a n b):pb≠a:=by obtain⟨g,f,j,_⟩:=d;grind[cU]
structure dK(B:Nat)(w:zu)(pb:Nat)(s:ByteArray)(T:List Tk)(st:bC)(g:Nat)(vC vP:V)(mg:Nat):Prop where
 pp:fA B w pb s T st.i g vC vP (.map (Y mg))
 pz:zv w B 3 1 vP (Z st.pz) (qZ st.pz)
 map:∃D,w.ownsMap zm 9 pO mg (Z st.vars) D/\sW D st.vars
 mhigh:B<=mg
section
variable {B:Nat}{w w':zu}{pb:Nat}{s:ByteArray}{T:List Tk}{i g:Nat}{vC vP vM:V}
theorem fA.below(c:fA B w pb s T i g vC vP vM)(k:aB w w'):fA B w' pb s T i g vC vP vM:=by obtain⟨d,j,m,b,a⟩:=c;exact⟨d,j,m,b,a.sc.below k,a.lt,a.on⟩
theorem fA.box(b:fA B w pb s T i g vC vP vM):∃left,cU w pb left (fF (aH T i).kind) (aH T i).pos (aH T i).txt vC vP vM/\B<=pb:=by obtain⟨f,j,d,c,a⟩:=b;exact⟨_,a.sc.box,a.sc.high⟩
theorem fA.lt(a:fA B w pb s T i g vC vP vM):i<Z T:=by obtain⟨f,j,d,c,b⟩:=a;exact b.lt
theorem fA.far(l:fA B w pb s T i g vC vP vM){c:Option Nat}(d:zr w w' c)(m:c≠Y pb)(o:c≠Y g):fA B w' pb s T i g vC vP vM:=by obtain⟨r,j,q,f,a⟩:=l;refine⟨r,j,q,f,⟨?_,a.sc.high,a.sc.row.kept d (zn λe=>o (by rw[<-e];rfl)),a.sc.len,a.sc.drop,a.sc.le⟩,a.lt,a.on⟩;have b:=a.sc.box;have p:=b.lt;unfold cU at b ⊢;rw[d.block pb p (λe=>m e.symm)];exact b
theorem fA.glyph(b:fA B w pb s T i g vC vP vM):∃cs a,w.heap[g]?=Y (.cells cs 149 a):=by obtain⟨q,o,p,d,c⟩:=b;obtain⟨_,⟨e,_⟩|⟨l,f,j,e,_,m,_⟩⟩:=c.sc.row;all_goals grind
end
section
variable {B:Nat}{w w' w2:zu}{pb:Nat}{s:ByteArray}{T:List Tk}{st:bC}{g mg:Nat}{vC vP:V}
theorem dK.below(a:dK B w pb s T st g vC vP mg)(k:aB w w'):dK B w' pb s T st g vC vP mg:=by obtain⟨b,c,d⟩:=a.map;exact⟨a.pp.below k,bF a.pz k (zs _),⟨b,c.kept (pC k zb) (by simp),d⟩,a.mhigh⟩
theorem dK.take(a:dK B w pb s T st g vC vP mg){f:Nat}(d:zr w w' (Y pb))(l:fA B w' pb s T f g vC vP (.map (Y mg))):dK B w' pb s T ⟨f,st.vars,st.pz⟩ g vC vP mg:=by obtain⟨i,b,j⟩:=a.map;obtain⟨left,c,_⟩:=a.pp.box;exact⟨l,a.pz.kept d (c.apart a.pz (by decide)),⟨i,b.kept d (by simpa using λe=>aD7 c b e.symm),j⟩,a.mhigh⟩
theorem fA.row_apart{m:Nat}(c:fA B w pb s T m g vC vP vM){i:Nat}{e:TypeId}{o:Nat}{v:V}{n:Nat}{xs:List V}(f:zv w i e o v n xs)(d:e≠74/\e≠149):zt v≠Y pb/\zt v≠Y g:=by
 obtain⟨left,j,_⟩:=c.box;obtain⟨cs,r,b⟩:=c.glyph;constructor
 .rcases j.apart f d.1 with e|e
  .rw[e];simp
  exact e
 intro a;obtain⟨_,⟨rfl,_⟩|⟨t,p,q,rfl,_,l,_⟩⟩:=f
 .simp[zt]at a
 simp[zt]at a;subst a;rw[l]at b;simp at b;exact d.2 b.2.1
theorem dK.far(a:dK B w pb s T st g vC vP mg){i:Nat}{e:TypeId}{p:Nat}{v:V}{n:Nat}{xs:List V}(d:zv w i e p v n xs)(b:e≠74/\e≠149/\e≠3)(c:zr w w' (zt v)):dK B w' pb s T st g vC vP mg:=by obtain⟨j,f,o⟩:=a.map;obtain⟨l,m⟩:=a.pp.row_apart d ⟨b.1,b.2.1⟩;exact⟨a.pp.far c l m,a.pz.kept c (dC a.pz d b.2.2.symm),⟨j,f.kept c (λe=>wO d f e.symm),o⟩,a.mhigh⟩
theorem dK.var(a:dK B w pb s T st g vC vP mg){d:List ByteArray}{b:DataW Unit}(f:zr w w' (Y mg))(o:w'.ownsMap zm 9 pO mg (Z d) b)(j:sW b d):dK B w' pb s T ⟨st.i,d,st.pz⟩ g vC vP mg:=by obtain⟨p,c,u⟩:=a.map;obtain⟨left,l,_⟩:=a.pp.box;obtain⟨cs,t,m⟩:=a.pp.glyph;refine⟨a.pp.far f (by simpa using λe=>aD7 l c e.symm) ?_,a.pz.kept f (zn (wO a.pz c)),⟨b,o,j⟩,a.mhigh⟩;intro e;simp at e;subst e;obtain⟨r,q,i,_⟩:=c;rw[m]at i;cases i
theorem dK.place(b:dK B w pb s T st g vC vP mg){v:V}{p:Pl}(r:zv w2 B 3 1 v (Z st.pz+1) (qZ st.pz++[iQ p.2.2.2]))(i:zr w w2 (zt vP)):cQ w2 pb 5 vP/\World.frozen? w2 (aQ pb 5)=false/\dK B (U w2 (aQ pb 5) v) pb s T ⟨st.i,st.vars,st.pz++[p]⟩ g vC v mg:=by
 obtain⟨j,d,q⟩:=b.map;obtain⟨l,m⟩:=b.pp.row_apart b.pz (by decide);obtain⟨x,t,u,o,a⟩:=b.pp.far i l m;have c:=a.sc.box;have f:=d.kept i (λe=>wO b.pz d e.symm);refine⟨c.c5,c.soft 5,⟨⟨x,t,u,o,⟨heap_setCell_same w2 pb 5 _ _ _ c,a.sc.high,c.row a.sc.row (by decide) _ _,a.sc.len,a.sc.drop,a.sc.le⟩,a.lt,a.on⟩,c.row ?_ (by decide) _ _,⟨j,f.setCell (λe=>aD7 c f e.symm) _,q⟩,b.mhigh⟩⟩;rw[bD0,zl];exact r
end
theorem aX4{a:zu}{j:V}{f:List Nd}(b:cJ B a pa L st (-1) vL vP vC vB vV)(l:zv a B' 52 2 j (Z f) (aV f))(o:cM B B' w a)(d:ByteArray)(c:Nat):zv (U (a.alloc (.cells #[.int .u8 110,.string d,iQ c] 93)) (aQ pa 1) (iQ ((st.i:Int)+1))) B' 52 2 j (Z f) (aV f)/\
  cJ B (U (a.alloc (.cells #[.int .u8 110,.string d,iQ c] 93)) (aQ pa 1) (iQ ((st.i:Int)+1))) pa L ⟨st.i+1,st.vars,st.pz⟩ (-1) vL vP vC vB vV/\
  cM B B' w (U (a.alloc (.cells #[.int .u8 110,.string d,iQ c] 93)) (aQ pa 1) (iQ ((st.i:Int)+1)))/\
  (∀g i,[Value.int .u8 110,.string d,iQ c][g]?=Y i->zp (U (a.alloc (.cells #[.int .u8 110,.string d,iQ c] 93)) (aQ pa 1) (iQ ((st.i:Int)+1))) (aQ a.heap.size g)=Y i)/\
  Y a.heap.size≠zt j:=by
 have p:=b.box.lt;refine⟨(b.alloc _).box.row (l.alloc _) (by decide) _ _,(b.alloc _).setI (st.i+1),(o.alloc _).grownBox (b.alloc _).box b.high (cD _ _ _),λg i m=>?_,λe=>absurd (bS l _ e.symm).2 (Nat.lt_irrefl _)⟩;rw[World.cell?_setCell_other _ _ _ _ (by first|(simp;done)|(simp;omega))];simpa using m
theorem aX5(B B' pa:Nat)(a9:Int)(q:Bool)(st:bC)(vL vP vC vB vV G:V)(L d:List Tk)(a:List Nd)(w:zu)(m:Nat)(l:TL L d a9)(f7:∀D,D<=m->aHu B pa a9 L d vL vC vB D)(j:cJ B w pa L st (-1) vL vP vC vB vV)(d6:zv w B' 52 2 G (Z a) (aV a))(d2:B<=B')(o1:B'<=w.heap.size)
  (u:(aH d st.i).kind=110) (g7:st.i<Z d) (o7:Z d<st.i+(m+1)) (o8:m+1<=2000000) (p3:Z a<=st.i) (p6:Z st.pz<=st.i) (q1:Z st.vars<=st.i):Calls zm 71 #[pQ pa,G,.bool q,iQ a9] w λe w'=>aEb B B' pa w L d (m+1) st a vL vC vB (dB d (m+1) q st a) e w':=by
 have o9:=l.few;have j5:=O f7;clear f7;have g8:st.i+1<Z d:=l.more _ g7 (by rw[u];decide) (by rw[u];decide);have J:=O u;have g:aE ((aH d st.i).txt=(aH L st.i).txt/\(aH d st.i).pos=(aH L st.i).pos):=O ⟨(l.txt _).symm,(l.pos st.i (by rw[u];decide)).symm⟩;rw[<-l.kind]at u;obtain⟨q3,g0,o2,o3,o4⟩:=info_parts kK;obtain⟨q5,q6,rfl⟩:=aZ d6;obtain⟨e2,e3,rfl⟩:=aZ j.pz;have b1:=rA B pa st.i (-1) vL _ vC vB vV L w j.box j.toks;have p:=O j;have M:=O d6;clear j d6;obtain⟨e5,i8⟩:∃e5,aH L st.i=e5:=⟨_,rfl⟩;rw[i8]at b1 u g;clear i8;obtain⟨r1,c,o⟩:=e5;simp only at u;subst u;rw[show pM ⟨110,c,o⟩=.agg #[.int .u8 110,.string c,iQ o] from rfl]at b1;go_enter Tryz.func71,Tryz.ntmps71;go_wp2_with(first
  |(go_at_call 38;refine b1.mono ?_;rintro e t ⟨rfl,P⟩;have a5:=O (p.o.below P);have f2:=O (bF M.o P (zs _));have I:aE (cM B B' w t):=O (.of_below P);have p8:=P.size;have d0:∀b,zp (t.alloc b) (aQ pa 1)=some (iQ st.i):=(λb=>(a5.o.alloc b).box.c1);have f8:∀b,World.frozen? (t.alloc b) (aQ pa 1)=false:=(λb=>(a5.o.alloc b).box.soft 1);obtain⟨b5,i2,h2,e0,i1⟩:=aX4 a5.o f2.o I.o c o;have f6:=O i2;have f1:=O h2;have g:=O e0;have m6:=e0 1 _ rfl;have c6:=O i1;clear P e0 i2 h2 i1)
  |(at_builtin;refine eU kK Tryz.underlying50 (b5.alloc _) ?_)
  |go_in)
 intro r2 f d8 F _;have N:=O ((f6.o.alloc _).far (b5.alloc _) (by decide) F);have e9:=O ((f1.o.alloc _).grownRow (b5.alloc _) d2 (zn (zn ⟨rfl,zs _⟩)) F);have i6:cQ f t.heap.size 1 (.string c):=F.cell (aC (aI _ _) (g.o 1 _ rfl)) c6.o;have i7:cQ f t.heap.size 2 (iQ o):=F.cell (aC (aI _ _) (g.o 2 _ rfl)) c6.o;have i5:=F.size;have q2:t.heap.size<f.heap.size:=by simp[U]at i5;omega
 obtain⟨c0,b0,rfl⟩:=aZ d8;have f3:aE (zv f B' 52 2 (.slice c0 (Z a+1) b0) (Z (a++[(c,0)])) (aV (a++[(c,0)]))):=O (by rw[sA,zl];exact d8);have k8:=N.o.box.c3;have S:zv f.drew B 137 4 (.slice e2 (Z st.pz) e3) (Z st.pz) (lB st.pz):=N.o.pz;have f5:aE (cJ B f.drew pa L ⟨st.i+1,st.vars,st.pz⟩ (-1) vL (.slice e2 (Z st.pz) e3) vC vB vV):=O (N.o.drawn 1);have f4:aE (zv f.drew B' 52 2 (.slice c0 (Z a+1) b0) (Z (a++[(c,0)])) (aV (a++[(c,0)]))):=O f3.o;have f0:aE (cM B B' w f.drew):=O (e9.o.drawn 1);have l0:∀b,zp (f.alloc b) (aQ pa 3)=Y (.slice e2 (Z st.pz) e3):=λb=>(N.o.alloc b).box.c3
 have l1:∀b,zp (f.alloc b) (aQ t.heap.size 1)=Y (.string c):=λb=>aC (aI f b) i6
 have l2:∀b,zp (f.alloc b) (aQ t.heap.size 2)=Y (iQ o):=λb=>aC (aI f b) i7
 generalize t.heap.size=tb at *;clear d8 F i5 N e9 f3 f6 f1 g c6 b5 d0 f8 m6 a5 f2 I p M b1;go_upto_region 21 with(fail);go_cut [] (λa0=>∃e1 e4,cJ B a0 pa L ⟨st.i+1,st.vars,st.pz++[(c,q,0,(o:Int))]⟩ (-1) vL (.slice e1 (Z st.pz+1) e4) vC vB vV/\zv a0 B' 52 2 (.slice c0 (Z a+1) b0) (Z (a++[(c,0)])) (aV (a++[(c,0)]))/\cM B B' w a0);case first=>
  refine tT ?_;go_region_law (refine dG bCc Tryz.underlying88 (S.alloc _) ?_;intro r3 n1 d9 g6;obtain⟨n8,r0,p9,z,y,R⟩:=bCl (x:=(c,q,0,(o:Int))) f5.o f4.o f0.o _ d9 g6;have a6:=O z;have a3:=O y;have a1:=O R;obtain⟨e1,e4,rfl⟩:=aZ d9;clear d9 g6 z y R);all_goals
   refine tU ?_;go_wp2_with fail;go_meet;case rel=>exact⟨_,_,a6.o,a3.o,a1.o⟩
 case rest=>
  obtain⟨e1,e4,z,y,R⟩:=hcut;have e7:=O (rA B pa (st.i+1) (-1) vL _ vC vB vV L wc z.box z.toks);have a6:=O z;have a3:=O y;have a1:=O R;clear z y R k8 l0 l1 l2 i6 i7 S f5 f4 f0;obtain⟨b9,d4⟩:∃b9,(aH L (st.i+1)).kind=b9:=⟨_,rfl⟩;have e8:=O (by have:=e7.o;unfold pM at this;rw[d4]at this;exact this);have c4:=O d4;clear e7 d4;have q0:=aHw;go_upto_if 120 with(first
   |(go_at_call 38;refine(aD e8).mono ?_;rintro e n2 ⟨rfl,b4⟩;have a7:=O (a6.o.below b4);have a4:=O (bF a3.o b4 (zs _));have a2:=O (a1.o.trans (.of_below b4));clear b4)
   |go_in)
  clear a6 a3 a1 e8;go_cut [1,14] (λG n a0=>∃X:Nat,n=iQ X/\pL B B' pa w L d vL vC vB m q st a G X a0);case first=>
   by_cases f9:b9=40
   .subst f9;have b3:(aH d (st.i+1)).kind=40:=by rw[<-l.kind,c4.o]
    have k0:aE (aBj B B' pa w L d vL vC vB m ⟨st.i+1,st.vars,st.pz++[(c,q,0,(o:Int))]⟩ (a++[(c,0)]) (.slice c0 (Z a+1) b0) 0 true n2):=O ⟨_,_,_,-1,_,a7.o,a4.o,a2.o,by simp;omega,Nat.zero_le _,zh ⟨rfl,g8,by simp,λ_=>l.more _ g8 (by rw[b3];decide) (by rw[b3];decide),m,zs _,by simp;omega,by simp⟩⟩;have a8:=O b3;clear a7 a4 a2 b3 c4;go_wp2_with fail;go_loopw[1,14,15] (λG n m3 wr=>∃(X:Nat) (W:Bool),n=iQ X/\m3=.bool W/\aBj B B' pa w L d vL vC vB m ⟨st.i+1,st.vars,st.pz++[(c,q,0,(o:Int))]⟩ (a++[(c,0)]) G X W wr) (λ_ n _ _=>Z d+1-(intOf n).toNat);exact⟨0,true,rfl,rfl,k0.o⟩;obtain⟨n,W,rfl,rfl,vP,vV,A,n3,i9,E,d7,d5,g4,b6,l6⟩:=hrel;obtain⟨g1,h5,g9⟩:=aHv E d7 d5;have n9:=E.box.c1;have o0:=E.box.c2;have f8:=E.box.soft 1;have H:=O g4;have p:=O E;have M:=O d7;have c2:=O d5;have c7:=O g1;have c5:=O h5;have c3:=O g9;simp only[zl,List.length_singleton]at g4;clear E d7 d5 g1 h5 g9;rcases l6 with⟨rfl,l8,m0,h9,D,l7,l5,Q⟩|⟨j0,rfl,Q⟩
    .have C:=O Q;clear Q;have e6:=O (rA B pa A.i (-1) vL vP vC vB vV L wr p.o.box p.o.toks);obtain⟨T,d3⟩:∃T,(aH L A.i).kind=T:=⟨_,rfl⟩;have c1:=O (by have:=e6.o;unfold pM at this;rw[d3]at this;exact this);have I:=O d3;clear e6 d3;cases W with
     |true=>
      have i0:=h9 rfl;obtain⟨b2,rfl⟩:∃b2,D=b2+1:=⟨D-1,by omega⟩;have j2:=O (j5.o b2 (by omega) B' false ⟨A.i+1,A.vars,A.pz⟩ vP vV _ i9 _ c7.o c5.o d2 (by have:=c2.o.size;simp[U];omega) i0 (by simp;omega) (by omega) (by simp;omega) (by simp;omega) (by simp;omega));clear c1 h9;go_wp2_with(first
       |(go_at_call 71;refine(aD j2).mono ?_;rintro e n0 ⟨r5,m7,m8,m4,k6,q4,rfl,b7,h7,h3,g5,i4⟩;have j1:=O (by have:=rA B pa m4.i k6 vL m7 vC vB m8 L n0 b7.box b7.toks;unfold pM at this;exact this);have k2:=O b7;have j9:=O h7;have j7:=O h3;have j4:=O g5;have k3:=O i4;clear b7 h7 h3 g5 i4)
       |(go_at_call 38;refine(aD j1).mono ?_;rintro e f ⟨rfl,i⟩;have k5:=O i;clear i)
       |go_in)
      go_roundw;case rel=>
       have l4:eI d m ⟨st.i+1,st.vars,st.pz++[(c,q,0,(o:Int))]⟩ (a++[(c,0)]) 0=eI d (b2+1) A i9 n:=by have j:=C.o;simpa using j
       have g0:=aBj.next l H.o i0 m0 l7 l5 l4 c3.o k2.o j9.o j7.o j4.o k3.o k5.o
       repeat apply Exists.intro
       refine bCq rfl ?_;exact⟨n+1,_,by go_num,rfl,g0⟩
      case measure=>simp[intOf];omega
     |false=>
      by_cases d1:T=41
      .have l9:((T:Int) != 41)=false:=by rw[d1];rfl
       go_wp2_with(first
        |(go_at_call 38;refine(aD c1).mono ?_;rintro e f ⟨rfl,i⟩;have S:=aHv (p.o.below i) (bF M.o i (zs _)) (c2.o.trans (.of_below i));have c8:=O S;have d0:=(p.o.below i).box.c1;have k9:=(p.o.below i).box.soft 1;clear i S)
        |go_in)
       go_meet;case rel=>exact⟨n,rfl,pL.done J.o g.o.1 g.o.2 a8.o H.o b6 (by rw[C.o,aS (by decide),aT (by rw[<-l.kind,I.o];exact d1)]) c8.o.1 c8.o.2.1 c8.o.2.2⟩
      have l9:((T:Int) != 41)=true:=by simp;omega
      go_wp2_with(first
       |(go_at_call 38;refine(aD c1).mono ?_;rintro e f ⟨rfl,i⟩;have j3:=O (bCp (brk:=a9) (p.o.below i) (bF M.o i (zs _)) (c2.o.trans (.of_below i)));clear i)
       |(go_at_call 39;refine(aD j3).mono ?_;rintro e n1 ⟨rfl,b8,y,h4⟩;have d0:=b8.box.c1;have k9:=b8.box.soft 1;have c9:=O (aHv b8 y h4);clear b8 y h4)
       |go_in)
      go_meet;case rel=>exact⟨n,rfl,pL.err J.o g.o.1 g.o.2 a8.o H.o b6 (by rw[C.o,aS (by decide),aS (by rw[<-l.kind,I.o];exact d1)]) (l.bad _ l8) c9.o.1 c9.o.2.1 c9.o.2.2⟩
    have C:=O Q;clear Q;have o5:decide ((j0:Int)<0)=false:=by simp
    cases W with
    |true=>
     go_wp2_with fail;go_meet;case rel=>exact⟨n,rfl,pL.err J.o g.o.1 g.o.2 a8.o H.o b6 C.o rfl c7.o c5.o c3.o⟩
    |false=>
     go_wp2_with fail;go_meet;case rel=>exact⟨n,rfl,pL.err J.o g.o.1 g.o.2 a8.o H.o b6 C.o rfl c7.o c5.o c3.o⟩
   have p0:((b9:Int)==40)=false:=by rw[beq_eq_false_iff_ne];omega
   go_wp2_with fail;go_meet;case rel=>exact⟨0,rfl,pL.plain J.o g.o.1 g.o.2 (by rw[<-l.kind,c4.o];exact f9) g7 a7.o a4.o a2.o⟩
  case rest=>
   obtain⟨n,rfl,l3⟩:=hcut;obtain⟨r4,m9,m5,k7,m2,g3,h8,h1,p4,o6,i3⟩:=l3;obtain⟨D,n4,q7,q8,rfl,rfl,n5,A,n6,n7,q9,g2,h6,h0⟩:=bCn g3 h8 d2 h1 (Z a) (Z st.pz) n (by omega) (by omega);have k1:=O g2;have j8:=O h6;have j6:=O h0;have k4:=O i3;have p2:(Z a:Int)<(Z m2:Int):=by omega
   have p7:(Z st.pz:Int)<(Z m5.pz:Int):=by omega
   have p1:(0:Int)<=(Z a:Int):=Int.natCast_nonneg _;have p5:(0:Int)<=(Z st.pz:Int):=Int.natCast_nonneg _;clear g3 h8 h1 g2 h6 h0 i3 a7 a4 a2;go_wp2_with fail;go_ret;refine⟨_,_,m9,_,k7,_,rfl,k1.o,j8.o,j6.o,by simp[eH,jN];omega,?_⟩;have m1:=k4.o;revert m1;cases dB d (m+1) q st a with
   |error j0=>exact λj=>j
   |ok r=>exact λj=>⟨j.1,j.2.1.symm,j.2.2.symm⟩
theorem aX6{c:Int}{b:List Tk}(t:TL L b c):∀a,aHu B pa c L b vL vC vB a:=by
 intro a;induction a using Nat.strongRecOn with
 |_ a ih=>
  intro B' f st vP vV y x w g p i j o l m q r u;obtain⟨d,rfl⟩:∃d,a=d+1:=⟨a-1,by omega⟩;grind[aX5,bCk,aH]
def RdR(s:ByteArray)(w:zu)(e:Ending)(w':zu):Prop:=
 ∃v a b c,e=.returned (.tuple #[v,iQ b,iQ c])/\iS s (a.map λd=>d.1.map zk) b c/\nS w.heap.size w' v a/\aB w w'
theorem aX8{a:List Pl}(d:zv w B 137 4 v (Z a) (lB a))(l:Z a<=1000000):∃j c,v=.slice j (Z a) c/\aBf w j a:=by
 have g:∀(a:List Pl) k (d:k<Z a),(lB a)[k*4]?=Y (.string a[k].1)/\(lB a)[k*4+1]?=Y (.bool a[k].2.1)/\(lB a)[k*4+2]?=Y (iQ a[k].2.2.1)/\(lB a)[k*4+3]?=Y (iQ a[k].2.2.2):=by
  intro a;induction a with
  |nil=>intro k d;simp at d
  |cons x r ih=>
   grind[aHq]
 obtain⟨o,⟨rfl,p⟩|⟨i,c,m,rfl,q,u,t,y,A,z⟩⟩:=d
 .exact⟨zb,0,by rw[p],⟨l,λk b=>by omega⟩⟩
 have f:zv w B 137 4 (sQ i (Z a) c) (Z a) (lB a):=⟨o,zn ⟨i,c,m,rfl,q,u,t,y,A,z⟩⟩;refine⟨_,_,rfl,⟨l,λk b=>⟨i,0,rfl,?_,?_,?_,?_⟩⟩⟩
 .rw[zj,f.cellAt _ (by omega),(g a k b).1]
 .rw[zj,f.cellAt _ (by omega),(g a k b).2.1]
 .rw[zj,f.cellAt _ (by omega),(g a k b).2.2.1]
 rw[zj,f.cellAt _ (by omega),(g a k b).2.2.2]
structure qR(B pa:Nat)(L T:List Tk)(vL:V)(k:Nat)(wr:zu)(st:bC)(cs:List (Nat×List Lt))(CV:List (List (Lt×V)×V))(vP vC vB vV:V):Prop where
 pin:cJ B wr pa L st (-1) vL vP vC vB vV
 rest:kF B wr vC vB CV (cs.map zk)
 same:CV.map (λp=>p.1.map zk)=cs.map (λp=>bB p.2)
 lt:st.i<Z T
 pl:Z st.pz<=st.i
 few:Z cs<=st.i
 small:∀p∈cs,(∀x∈p.2,eO x.2)/\aY p.2<=Z T/\Z p.2<=Z T
 fuel:Z T<st.i+k
 eq:gX T (Z T+1) ⟨0,[],[]⟩ []=gX T k st cs
def aD8(B pa:Nat)(w:zu)(L a:List Tk)(vL:V)(k:Nat)(wr:zu):Prop:=
 Below B w wr/\((∃st cs c vP vC vB vV,qR B pa L a vL k wr st cs c vP vC vB vV)\/∃(b:Nat) (d:Nat) (vP vC vB vV:V),bX wr pa vL d (b:Int) vP vC vB vV/\gX a (Z a+1) ⟨0,[],[]⟩ []=.error b)
theorem qR.cvlen{b:List Tk}{a:List (List (Lt×V)×V)}(c:qR B pa L b vL k wr st cs a vP vC vB vV):Z a=Z cs:=by have:=congrArg Z c.same;simpa using this
theorem qR.next{a:List Tk}{q:Int}(H:TL L a q)(I:vE L a){vL:V}{k:Nat}{wr w':zu}{st:bC}{cs:List (Nat×List Lt)}{d:List (List (Lt×V)×V)}{vP vC vB vV:V}{e:Ending}(A:Below B w wr)(b:qR B pa L a vL (k+1) wr st cs d vP vC vB vV)(o:(aH a st.i).kind≠101)(c:aOz B pa wr L a st vL d (cs.map zk) e w'):aD8 B pa w L a vL k w':=by
 obtain⟨_,F,_,c⟩:=c;refine⟨A.trans F,?_⟩;cases hq:jO a st with
 |error f=>
  rw[hq]at c;obtain⟨i,l,j,g,m,G⟩:=c;refine zn ⟨f,i,l,j,g,m,G,?_⟩;rw[b.eq,gX,aS o,hq]
 |ok r=>
  obtain⟨J,t⟩:=r;rw[hq]at c;obtain⟨l,j,g,m,p,v,D,C,E⟩:=c;obtain⟨u,M,x,y,z,N,P⟩:=aHo H I hq b.lt;have Q:=b.pl;have R:=b.few;have S:=b.fuel;refine zh ⟨J,cs++[((aH a st.i).pos,t)],d++[(p,v)],l,j,g,m,D,?_,?_,x,by omega,by simp;omega,?_,by omega,?_⟩
  .simpa using C
  .rw[List.map_append,List.map_append,b.same];simp[E]
  .intro f hp;rcases List.mem_append.1 hp with hp|hp
   .exact b.small f hp
   simp at hp;subst hp;exact⟨u,y,z⟩
  rw[b.eq,gX,aS o,hq]
theorem nS.of{c:List Tk}{b:List (List (Lt×V)×V)}(l:Z c<=1000000)(a:qR B pa L c vL k wr st cs b vP vC vB vV):nS B wr vC b:=by refine⟨a.rest.cl,λp f=>?_⟩;have d:p.1.map zk∈b.map (λp=>p.1.map zk):=List.mem_map.2 ⟨p,f,rfl⟩;rw[a.same]at d;obtain⟨q,i,g⟩:=List.mem_map.1 d;obtain⟨j,x,y⟩:=a.small q i;obtain⟨o,r,t⟩:=aHp q.2 j;refine⟨a.rest.each p f,λu m=>?_,by rw[<-g];omega,?_⟩;all_goals grind
theorem qR.below{c:List Tk}{b:List (List (Lt×V)×V)}(a:qR B pa L c vL k wr st cs b vP vC vB vV)(hb:aB wr w'):qR B pa L c vL k w' st cs b vP vC vB vV:=
 ⟨a.pin.below hb,a.rest.below hb,a.same,a.lt,a.pl,a.few,a.small,a.fuel,a.eq⟩
theorem qR.at'{j:List Tk}{c:List (List (Lt×V)×V)}{m l:Option Addr}{x u:Nat}(y:Z j<=1000000)(b:qR B pa L j vL k wr st cs c vP (.slice m (Z c) x) (.slice l (Z cs) u) vV)(a:Nat)(A:a<Z cs):∃f d i g,m=Y (aQ f 0)/\l=Y (aQ g 0)/\zp wr (aQ f a)=Y (.slice d (Z (bB cs[a].2)) i)/\bU wr d (bB cs[a].2)/\zp wr (aQ g a)=Y (iQ cs[a].1):=by
 have M:=b.cvlen;have C:a<Z c:=by omega
 have t:c[a].1.map zk=bB cs[a].2:=by have:=congrArg (λH=>H[a]?) b.same;grind
 obtain⟨f,I,o⟩:=mJ b.rest.cl (by omega);obtain⟨g,J,p⟩:=mJ b.rest.begins (by simp;omega);simp only[Value.slice.injEq]at o p;obtain⟨rfl,_,rfl⟩:=o;obtain⟨rfl,_,rfl⟩:=p;obtain⟨P,E⟩:=nS.of y b;obtain⟨r,F,z,N⟩:=E c[a] (zc _);obtain⟨d,i,G,D⟩:=aA3 r.1 r.2 F z (by omega);have q:=b.rest.begins;rw[zi]at q;refine⟨f,d,i,g,rfl,rfl,?_,by rw[<-t];exact D,?_⟩
 .rw[b.rest.cl.cellAt _ (by omega),List.getElem?_map,zq C,Option.map_some,G,<-t,zi]
 rw[q.cellAt _ (by omega)];simp[A]
theorem aM7(s:ByteArray)(w:zu)(i7:s.size<=140737488355328):Calls zm 19 #[.string s] w λe w'=>RdR s w e w':=by
 by_cases f0:3000<s.size
 .have f3:(3000:Int)<(s.size:Int):=by omega
  go_enter Tryz.func19,Tryz.ntmps19;go_wp2;go_returns;exact⟨_,[],0,1,rfl,zh ⟨f0,rfl,rfl,rfl⟩,nS.nil _ _,dP⟩
 have f3:¬(3000:Int)<(s.size:Int):=by omega
 have u:=aHt s (by omega);have N:=aEe s (by omega);have F:=O (aW5 s w (by omega));have b2:Z (fY (cW s (s.size+1) 0))<=1000000:=by have:=aHs s (s.size+1) 0;unfold fY;split<;>simp<;>omega
 have b7:aE (∀l,gX (fY (cW s (s.size+1) 0)) (Z (fY (cW s (s.size+1) 0))+1) ⟨0,[],[]⟩ []=l->sV s=l):=O λl h=>h
 have f1:0<Z (fY (cW s (s.size+1) 0)):=by
  obtain⟨_,f7,_,_⟩:=aHr s (s.size+1) 0;unfold fY;cases i:(cW s (s.size+1) 0).2 with
  |none=>obtain⟨i9,j0,f6,_⟩:=f7 i;rw[f6];simp
  |some j=>simp
 generalize cW s (s.size+1) 0=l at *;obtain⟨L,d5⟩:=l;simp only at u N;unfold aLu at F;simp only at F;generalize fY (L,d5)=T at *;generalize aD2 d5=brk at *;have i8:=aHw;go_enter Tryz.func19,Tryz.ntmps19;go_wp2_with(first
  |(go_at_call 37;refine(aD F).mono ?_;rintro e p ⟨vL,rfl,a5,c8⟩;obtain⟨b3,b4,rfl⟩:=aZ a5;have e2:=O a5;have b8:=O (c8.below (zs _));clear a5 c8)
  |go_in)
 have f:∀a1:Obj,(p.alloc a1).heap[p.heap.size]?=Y a1:=λa1=>by show (p.heap.push _)[p.heap.size]?=_;simp
 have d4:=b8.o.size;have c2:aE (aD8 w.heap.size p.heap.size w L T (.slice b3 (Z L) b4) (Z T+1) (p.alloc (.cells #[.slice b3 (Z L) b4,iQ 0,iQ (-1),nQ,nQ,nQ,nQ] 91))):=O ⟨b8.o.alloc d4 _,zh ⟨⟨0,[],[]⟩,[],[],nQ,nQ,nQ,nQ,
  ⟨⟨d4,f _,e2.o.alloc _,zo _ _ _ _,zo _ _ _ _⟩,⟨zo _ _ _ _,λj b1=>by simp at b1,zo _ _ _ _⟩,rfl,f1,zs _,zs _,λj b1=>by simp at b1,by simp,rfl⟩⟩⟩
 clear f F;generalize p.heap.size=pa at *;go_loopg [] (Z T+1) (λk wr=>aD8 w.heap.size pa w L T (.slice b3 (Z L) b4) k wr);exact c2.o;clear c2;obtain⟨i,⟨st,cs,G,vP,vC,vB,vV,a⟩|⟨j,P,vP,vC,vB,vV,f,M⟩⟩:=hrel
 .obtain⟨D,rfl⟩:∃D,gk=D+1:=⟨gk-1,by have:=a.fuel;have:=a.lt;omega⟩;have x:=O (rA w.heap.size pa st.i (-1) _ vP vC vB vV L wr a.pin.box a.pin.toks);unfold pM at x;obtain⟨Q,o⟩:∃Q,(aH L st.i).kind=Q:=⟨_,rfl⟩;rw[o]at x;rw[u.kind]at o;have e6:=a.pin.box.c2;have X:=O a;have y:=O i;by_cases c3:Q=101
  .subst c3;have c1:aE (sV s=.ok (st,cs)):=O (by rw[b7.o _ a.eq,gX,aT o]);have b9:=O a.cvlen;have h5:=a.few;have i2:=a.lt;obtain⟨f8,f9,rfl,d1⟩:=aX8 a.pin.pz (by have:=a.pl;omega);obtain⟨g4,g5,rfl⟩:=aZ a.rest.cl;obtain⟨g0,g1,d3⟩:=aZ a.rest.begins;rw[zi]at d3;subst d3;have e3:=O d1;clear a i d1 o;go_wp2_with(first
    |(go_at_call 38;refine(aD x).mono ?_;rintro e b6 ⟨rfl,c⟩;have g:=O (X.o.below c);have r:=O (bE y.o c);have g8:=g.o.pin.box.c2;have g9:=g.o.pin.box.c3;have d8:=O (bBc f8 f9 st.pz b6 (e3.o.below c (zs _)));clear c)
    |(go_at_call 41;refine(aD d8).mono ?_;rintro e R ⟨l,rfl,d2,a8⟩;have J:=O d2;have z:=O (g.o.below (aN a8));have H:=O (bE r.o (aN a8));have h0:=z.o.pin.box.c4;have h1:=z.o.pin.box.c5;clear d2 a8)
    |go_in)
   .rename_i h6;go_returns;exact⟨_,[],l,3,rfl,zn ⟨by omega,by rw[c1.o];exact⟨l,J.o,zh ⟨by omega,rfl,rfl,rfl⟩⟩⟩,nS.nil _ _,H.o⟩
   rename_i i1;have c0:aE (∀b5 a2 a3,pK cs b5 a2 a3->iS s b5 a2 a3):=O λb5 a2 a3 h=>zn ⟨by omega,by rw[c1.o];exact⟨l,J.o,zn ⟨by omega,h⟩⟩⟩
   go_loopw[9] (λP q=>∃b:Nat,b<=Z cs/\P=iQ b/\(∀m t,m<b->¬lS cs m t)/\q=R) (λP _=>Z cs-(intOf P).toNat);exact⟨0,Nat.zero_le _,rfl,λm _ t=>by omega,rfl⟩;obtain⟨b,h7,rfl,d0,rfl⟩:=hrel;have W:=O d0;clear d0;by_cases b0:b<Z cs
   .have f5:(b:Int)<(Z G:Int):=by have:=b9.o;omega
    have i0:(b:Int)<(Z cs:Int):=by omega
    have h8:(0:Int)<=(b:Int):=by omega
    obtain⟨h2,e4,e5,h3,rfl,rfl,g2,c9,g3⟩:=z.o.at' b2 b b0;have E:=O (aAt e4 e5 _ _ c9);obtain⟨C,a9⟩:∃C,bN (bB cs[b].2)=C:=⟨_,rfl⟩;rw[a9]at E;clear c9;by_cases d:lS cs b b0
    .have I:=O (c0.o [] (cs[b].1:Nat) 4 (zh ⟨b,b0,d,W.o,rfl,rfl,rfl⟩));have c:40<=b\/C=false:=by unfold lS at d;rw[a9]at d;exact d
     clear d;by_cases c4:40<=b
     .have c5:(40:Int)<=(b:Int):=by omega
      go_wp2_with(first
       |(go_at_call 42;refine(aD E).mono ?_;rintro e d6 ⟨rfl,rfl⟩)
       |go_in)
      go_quiet (fail);go_wp2;go_returns;exact⟨_,[],_,4,rfl,I.o,nS.nil _ _,bE H.o (aN ⟨_,rfl⟩)⟩
     have c5:¬(40:Int)<=(b:Int):=by omega
     have f2:C=false:=by
      rcases c with h|h
      .exact absurd h c4
      exact h
     subst f2;go_wp2_with(first
      |(go_at_call 42;refine(aD E).mono ?_;rintro e d6 ⟨rfl,rfl⟩)
      |go_in)
     go_quiet (fail);go_wp2;go_returns;exact⟨_,[],_,4,rfl,I.o,nS.nil _ _,bE H.o (aN ⟨_,rfl⟩)⟩
    have S:=O d;have c:¬40<=b/\C=true:=by unfold lS at d;rw[a9]at d;simpa using d
    obtain⟨c4,rfl⟩:=c;have c5:¬(40:Int)<=(b:Int):=by omega
    clear d;go_wp2_with(first
     |(go_at_call 42;refine(aD E).mono ?_;rintro e d6 ⟨rfl,rfl⟩)
     |go_in)
    exact⟨⟨b+1,by omega,by go_num,λm t i6=>by
     by_cases h:m=b
     .subst h;exact S.o
     exact W.o m t (by omega),by first|rfl|trivial⟩,by simp[intOf];omega⟩
   have h9:b=Z cs:=by omega
   have f5:¬(b:Int)<(Z G:Int):=by have:=b9.o;omega
   have I:=O (c0.o (cs.map λj=>bB j.2) 0 0 (zn ⟨λm t=>W.o m t (by omega),rfl,rfl,rfl⟩));go_wp2;go_returns;exact⟨_,G,0,0,rfl,by rw[z.o.same];exact I.o,nS.of b2 z.o,H.o⟩
  have h4:((Q:Int) != 101)=true:=by simp;omega
  have g6:=a.pin.box.c0;have g7:=a.pin.box.c1;by_cases c7:st.i<Z L
  .have f4:¬(Z L:Int)<=(st.i:Int):=by omega
   have d7:=O (λq (f:aB wr q)=>bBy w.heap.size pa brk st _ vP vC vB vV L T G (cs.map zk) q u N (λvC vB e9=>aX6 u e9) (a.pin.below f) (a.rest.below f) (ze i.size f.size) c7 a.pl b2 (by have:=a.few;simpa using this) (by have:=a.few;have:=a.cvlen;omega));have e1:=O (show (aH T st.i).kind≠101 by rw[o];exact c3);clear a i o;go_wp2_with(first
    |(go_at_call 38;refine(aD x).mono ?_;rintro e b6 ⟨rfl,c⟩;have g:=O (X.o.below c);have r:=O (bE y.o c);have e7:=g.o.pin.box.c0;have e8:=g.o.pin.box.c1;have A:=O c;clear c)
    |go_in)
   go_quiet (fail);go_wp2_with(first
    |(go_at_call 40;refine(d7.o _ (A.o.trans ((aN ⟨_,rfl⟩).mono A.o.size))).mono ?_;intro e R a7;have M:=a7.1;subst M;have a0:=O (qR.next u N (bE r.o (aN ⟨_,rfl⟩)) (g.o.below (aN ⟨_,rfl⟩)) e1.o a7);clear a7)
    |go_in)
   go_roundg D;case measure=>omega
   case rel=>exact a0.o
  have f4:(Z L:Int)<=(st.i:Int):=by omega
  have a4:=N.rest _ c7;have d:=u.bad _ a.lt;have e0:aE (gX T (Z T+1) ⟨0,[],[]⟩ []=.error (aH T st.i).pos):=O (by rw[a.eq,gX,aS (by rw[a4];decide),bC4 a4]);have d9:=O (λq (f:aB wr q)=>aEg w.heap.size pa st.i brk _ vP vC vB vV L q (a.pin.below f).box (a.pin.below f).toks);have i5:=a.pin.high;have S:=O d;clear a i o a4 d;go_wp2_with(first
   |(go_at_call 38;refine(aD x).mono ?_;rintro e b6 ⟨rfl,c⟩;have g:=O (X.o.below c);have r:=O (bE y.o c);have e7:=g.o.pin.box.c0;have e8:=g.o.pin.box.c1;have A:=O c;clear c)
   |go_in)
  go_quiet (fail);go_wp2_with(first
   |(go_at_call 39;refine(d9.o _ (A.o.trans ((aN ⟨_,rfl⟩).mono A.o.size))).mono ?_;rintro e R ⟨rfl,a6,c6⟩;rw[S.o]at a6;have a0:aE (aD8 w.heap.size pa w L T _ D R):=O ⟨(bE r.o (aN ⟨_,rfl⟩)).grown c6 (ze r.o.size (zs _)) (λk e=>by simp at e;omega),zn ⟨_,_,_,_,_,_,a6,e0.o⟩⟩;clear a6 c6)
   |go_in)
  go_roundg D;case measure=>omega
  case rel=>exact a0.o
 have e6:=f.c2;have i3:decide ((j:Int)<0)=false:=by simp
 have i4:(0:Int)<=(j:Int):=by omega
 have J:aE (iS s [] (j:Int) 2):=O (zn ⟨by omega,by rw[b7.o _ M];exact⟨rfl,rfl,rfl⟩⟩);have y:=O i;clear i M f;go_wp2;go_quiet (fail);go_wp2;go_returns;exact⟨_,[],j,2,rfl,J.o,nS.nil _ _,bE y.o (aN ⟨_,rfl⟩)⟩
