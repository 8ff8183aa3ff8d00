/- - -/
import Derived.Test.YtldeiiffabfmeaaGreatDoorProg
import Derived.WalkKit
import Derived.WalkSpells
import Derived.WalkLawsBesides
import Derived.Deep.QuietTactic
import Derived.BigQuiet
import Derived.Deep.RegionWith
import Derived.WalkSmall
import Derived.Maps.OwnOps
import Derived.Maps.OwnSet
import Derived.Orders
import Derived.Laws.CopyRow
import Derived.Laws.CopyOwn
import Derived.Laws.AppendOwnNone
import Derived.RegionTactic
import Derived.ChangeAlike
import Derived.BigRegion
import Derived.Deep.RegionLaw
import Derived.Deep.RegionHeld3
import Derived.Deep.DeepCutAuto
import Derived.Test.YtldeiiffabfmeaaGreatDoorAam
set_option linter.all false
set_option maxRecDepth 100000
set_option maxHeartbeats 4000000
open Option renaming some->J,none->ae,map_some->fX,getD_some->fY
open Go renaming Value->y,World->u,Calls->aA,Oper->aM,TypeId->aU,undef->aX,Addr->aZ,maxLen->bu,info_parts->bI,Program->bO,Exit->cO,execOp->cV,wpList->dy,setRow_other->dA,setRow_heap->dJ,DataW->dL,Operand->dW,run_underlying->dY,TypeInfo->ek,run_append_room->eu,heap_alloc_new->eO,wpList_plain->eQ,bodyPost_ret->fq,results->ft,plainElem_int->fu,size_madeCells->fQ,run_loadCells_list->fT,run_storeCells_at->fU,wpList_mapUpdate_own->gR,wpList_append_own_none->gX,wpList_append_own->hJ,size_zeroCells->iq,run_append_own->ir,run_append_nil->iu,run_append_grow->iz,growslice_fits->iA
open Bool renaming true->T,false->aj,and_eq_true->aD,or_eq_true->cf,not_eq_true'->dB,or_false->ez,eq_iff_iff->eF,or_eq_false_iff->fK,true_and->gE,not_true->iH
open Go.Value renaming slice->ah,int->au,pointer->ay,agg->aK,tuple->bj,map->bH,func->bJ,bool->cF,ownBlock->cJ,cells->cY
open Go.World renaming cell?->ai,alloc->ax,ownsRow->aH,block_lt_of_cell?->bh,frozen?->bU,ownsRow_nil->dP,setCell->dV,cell?_of_block->fp,frozen?_of_block->fA,cell?_alloc_lt->gZ
open Go.IntKind renaming i64->ak,wrap->ic,signed->ig,bits->ij
open Go.Obj renaming cells->ao
open Go.RowKit renaming Below->aq,intOf->aF,wrap64_wf->fB
open Go.Proofs.Tryz renaming prog->ar,underlying3->bV,underlying119->dM,underlying26->dR,underlying126->dU,func43->fi,ntmps43->fj,func40->fl,ntmps40->fo,func63->fL,ntmps63->fM,func78->gw,ntmps78->gx,func145->gy,ntmps145->gz,func117->gA,ntmps117->gB,func38->gC,ntmps38->gD,func72->gF,ntmps72->gG,func102->gH,ntmps102->gI,func42->gJ,ntmps42->gM,underlying22->gQ,func164->il,ntmps164->im,func208->iD,ntmps208->iE,underlying123->iN,func116->iQ,ntmps116->iR,func138->iU,ntmps138->iV,func170->iW,ntmps170->iX,func140->iY,ntmps140->iZ,func66->ja,ntmps66->aoy,func118->aoz,ntmps118->aoA,func77->aoB,ntmps77->aoC
open Go.Ending renaming returned->az
open Go.Calls renaming mono->aE,quiet_of_same->dE
open Go.RowKit.Below renaming alloc->aJ,trans->aO,cell->aQ,mono->bn,setCell->bC,heap_setCell->bE,heap_alloc->eN
open Or renaming inr->aN,inl->aP
open Go.Lit renaming int->aT
open Int renaming le_refl->aY,toNat_natCast->dz
open Eq renaming trans->bD
open Nat renaming lt_of_lt_of_le->bG,le_trans->bP,add_assoc->cr,mul_one->cD,zero_add->cZ,mul_le_mul_right->de,mul_comm->dk,lt_or_ge->ey,reduceEqDiff->eJ,add_sub_cancel_left->eK,mod_lt->fy,add_mul->iy,lt_succ_of_lt->iF,lt_succ_self->iG
open Go.Fn renaming func->bK
open Go.Builtin renaming append_->bN,zeroCells->cx,firstCells->dX,copy_->eV,clear_->fP,append->ia,nextslicecap->ik
open Go.Region renaming binds->bQ,ready->bZ,wanted->ee,Mode->fV
open Array renaming getElem?_eq_some_iff->bY,setIfInBounds->cN,getElem?_setIfInBounds->dD,getElem?_toList->dK,getD_eq_getD_getElem?->eX,all_eq_true_iff_forall_mem->eZ,getElem?_eq_getElem->fc,getElem?_map->fS,getD->gd,getElem?_replicate->gj,toList_append->iw,length_toList->iP
open List renaming getElem?_take->cd,mem_of_getElem?->cj,mem_filter->cA,length_append->cG,mem_append->cH,map_cons->dt,getElem?_eq_some_iff->du,getElem?_eq_getElem->dw,foldl->dF,getElem?_of_mem->dH,range->dI,take_add_one->dO,eq_nil_of_length_eq_zero->dQ,mem_singleton->dS,filter_append->ej,length_cons->eG,length_nil->eH,filter_eq_self->eM,getD->eP,mem_range->eY,any_eq_true->fg,take_length->fw,map_nil->fx,foldl_append->fE,flatMap_cons->fF,any_append->fH,any_cons->fI,any_nil->fJ,mem_flatMap->fN,all_eq_true->fZ,mem_of_mem_take->gW,append_nil->gY,map_toArray->ib,length_filter_le->iI,getElem?_append_right->iJ,ext_getElem?->iK,nil_append->iM,filter_sublist->iO,getElem?_append->iT
open Go.Program renaming underlying->cT
open Go.Oper renaming wp->cU,wp_mono->fa
open Go.Act renaming put->dg
open Prod renaming snd->dG
open Go.Maps renaming keyOf_int_mk->dN,has_put_same->gS,atKey_put_same->gT,has_put_other->gU,atKey_put_other->gV,atKey_of_not_has->iC
open Option.some renaming injEq->dZ
open Go.WideAt renaming IsKeyLit->eh
variable{v b d g h i:Nat}{j k l:u}{m n p q r s t:y}{B C F:Int}{G H:Type}{N S:Go.Act}{W:List y}{X:Array Bool}
namespace Go.Proofs.YtldeiiffabfmeaaGreatDoor
section
open Go.RowKit
def lU(p:V->I):V->I|0=>T|k+1=>lU p k&&p k
def lQ(p:V->I):V->I|0=>aj|k+1=>lQ p k||p k
def zf{p:V->I}{n k:V}(h:k<n)(a:p k=aj):lU p n=aj:=by induction n with|zero=>omega|succ n b=>by_cases e:k=n;(.subst e;simp[lU,a]);.simp[lU,b A]
def wZ{p:V->I}{k:V}(h:lU p k=T)(a:p k=T):lU p (k+1)=T:=by simp[lU,h,a]
def rO{p:V->I}{n k:V}(h:lU p n=T)(hk:k<n):p k=T:=by cases a:p k with|true=>rfl|false=>rw[zf hk a]at h;cases h
def RP{p:V->I}{n:V}(h:∀k,k<n->p k=T):lU p n=T:=by induction n with|zero=>rfl|succ n a=>simp[lU,a λk hk=>h k A,h n A]
def pM{p:V->I}{n k:V}(h:k<n)(a:p k=T):lQ p n=T:=by induction n with|zero=>omega|succ n b=>by_cases e:k=n;(.subst e;simp[lQ,a]);.simp[lQ,b A]
def Az{p:V->I}{k:V}(h:lQ p k=aj)(a:p k=aj):lQ p (k+1)=aj:=by simp[lQ,h,a]
def vi{p:V->I}{n:V}(h:lQ p n=T):∃k,k<n/\p k=T:=by induction n with|zero=>simp[lQ]at h|succ n b=>cases a:p n with|true=>grind|false=>simp[lQ,a]at h;grind
def Vu{p:V->I}{n:V}(h:lQ p n=aj)(k:V)(hk:k<n):p k=aj:=by cases a:p k with|false=>rfl|true=>rw[pM hk a]at h;cases h
def jF(n lo hi:Y):I:=decide (lo<=n)&&decide (n<=hi)
def mS(n:V)(f:V->Y)(x:Y):I:=lQ (λi=>f i==x) n
def qZ(n:V)(f:V->Y):I:=decide (n<=6)&&lU (λi=>jF (f i) 0 99) n
def tK(lo hi:Y):I:=jF lo 0 99&&jF hi 0 99&&decide (lo<=hi)
def wP(n:V)(f:V->Y):I:=decide (n<=3)&&lU (λi=>tK (f<|2*i)<|f<|2*i+1) n
structure jE where
 nr:V
 r:V->Y
 nw:V
 wr:V->Y
 ng:V
 g:V->Y
 nc:V
 c:V->Y
def Cu(K a B C:Y)(t:jE)(k:V):I:=if K=1 then jF a 0 3 else if K=2 then jF a 0 3&&(mS t.nr t.r B||mS t.nw t.wr B)else if K=3 then mS t.nw t.wr a&&jF B 0 3 else if K=4 then mS t.nw t.wr a else if K=5\/K=6 then jF a 0 3&&jF B 0 (t.ng-1)else if K=7\/K=8 then jF a 0 3&&jF B 0 3&&jF C 0 3 else if K=9 then jF a 0 3&&jF B 0 3&&jF C (k+1) t.nc else K==10
def vj(t:jE)(k:V):I:=Cu (t.c<|4*k) (t.c<|4*k+1) (t.c<|4*k+2) (t.c<|4*k+3) t k
def BM(t:jE):I:=decide (t.nc<=16)&&lU (vj t) t.nc
def oo(t:jE):I:=qZ t.nr t.r&&qZ t.nw t.wr&&wP t.ng t.g&&BM t
def nz(lo:Y)(f:V->Y)(i:V):I:=jF (f i) (match i with|0=>lo|j+1=>f j+1) 99
def BD(n:V)(f:V->Y):I:=decide (n<=3)&&lU (nz 1 f) n
def tV(n:V)(f:V->Y)(a b c:Y):I:=BD n f&&jF a 1 8&&jF b 1 8&&jF c 1 4
def Ao(p:V->I):V->V->n6 V|0,_=>ae|k+1,i=>if p i then Ao p k (i+1)else J i
def TZ{p:V->I}:∀(m i k:V),lU p i=T->i<=k->k<i+m->(∀j,j<k->p j=T)->p k=aj->Ao p m i=J k|0,i,k,_,b,f,_,_=>by omega|m+1,i,k,c,b,f,a,d=>by unfold Ao;by_cases e:i=k;(.grind);.rw[rW<|a i A];exact TZ m (i+1) k (wZ c<|a i A) A A a d
def Vp{p:V->I}:∀(m i:V),(∀j,j<i+m->p j=T)->Ao p m i=ae|0,i,_=>rfl|m+1,i,h=>by unfold Ao;rw[rW<|h i A];exact Vp m (i+1) λj a=>h j A
def LN{p:V->I}{n k:V}(hk:k<n)(h:lU p k=T)(a:p k=aj):Ao p n 0=J k:=TZ n 0 k rfl A A (λ_ b=>rO h b) a
def Ks{p:V->I}{n:V}(h:lU p n=T):Ao p n 0=ae:=Vp n 0 λj a=>rO h A
def sr(n:V)(ts:V->jE):n6 V:=if 24<n then J 24 else Ao (λi=>oo<|ts i) n 0
def uA(n:V)(f:V->Y):n6 V:=if 40<n then J 40 else Ao (nz 0 λi=>f<|2*i) n 0
def mh(nb:V)(fb:V->Y)(a b c:Y)(nl:V)(ts:V->jE)(ns:V)(fs:V->Y):V×V:=if tV nb fb a b c then match sr nl ts with|J k=>(2,k)|ae=>match uA ns fs with|J k=>(3,k)|ae=>(0,0)else(1,0)
def kY(w:u)(v:y)(k n:V)(f:V->Y):U:=∃a cap,v=ah a n cap/\n<=1048577/\(0<n->∃b off,a=J ⟨b,off,ae⟩/\b<w.heap.size/\∀j,j<n*k->ai w ⟨b,off+j,ae⟩=J (au ak<|f j))
def kY.below{w w':u}{v:y}{k n:V}{f:V->Y}(h:kY w v k n f)(e:aq w w w'):kY w' v k n f:=by obtain⟨a,cap,rfl,m,l⟩:=h;refine⟨a,cap,rfl,m,λi=>?_⟩;obtain⟨b,off,rfl,d,c⟩:=l i;exact⟨b,off,rfl,bG d e.size,λj g=>by rw[aQ e d];exact c j g⟩
def kY.lP{w:u}{v:y}{k n:V}{f:V->Y}(h:kY w v k n f)(o:Obj):kY (ax w o) v k n f:=h.below kI
structure oL(w:u)(a b c d:y)(t:jE):U where
 r:kY w a 1 t.nr t.r
 wr:kY w b 1 t.nw t.wr
 g:kY w c 2 t.ng t.g
 c:kY w d 4 t.nc t.c
def oL.below{w w':u}{a b c d:y}{t:jE}(h:oL w a b c d t)(e:aq w w w'):oL w' a b c d t:=⟨h.r.below e,h.wr.below e,h.g.below e,h.c.below e⟩
def oL.lP{w:u}{a b c d:y}{t:jE}(h:oL w a b c d t)(o:Obj):oL (ax w o) a b c d t:=h.below kI
def sV(w:u)(v:y)(n:V)(ts:V->jE):U:=∃a cap,v=ah a n cap/\n<=1048577/\(0<n->∃b off,a=J ⟨b,off,ae⟩/\b<w.heap.size/\∃vs:V->y,(∀j,j<n*4->ai w ⟨b,off+j,ae⟩=J (vs j))/\∀i,i<n->oL w (vs<|i*4) (vs<|i*4+1) (vs<|i*4+2) (vs<|i*4+3) (ts i))
def sV.below{w w':u}{v:y}{n:V}{ts:V->jE}(h:sV w v n ts)(e:aq w w w'):sV w' v n ts:=by obtain⟨a,cap,rfl,m,l⟩:=h;refine⟨a,cap,rfl,m,λk=>?_⟩;obtain⟨b,off,rfl,d,vs,c,g⟩:=l k;exact⟨b,off,rfl,bG d e.size,vs,λj f=>by rw[aQ e d];exact c j f,λi hi=>(g i hi).below e⟩
def Jc{W w1:u}(a:aq W W w1):(∀b o,b<W.heap.size->ai w1 ⟨b,o,ae⟩=ai W ⟨b,o,ae⟩)/\(∀b o,b<W.heap.size->bU w1 ⟨b,o,ae⟩=bU W ⟨b,o,ae⟩):=⟨λb o h=>aQ a h,λb o h=>a.frozen h⟩
def kT{a b:I}(h:a=b):az a=az b:=by rw[h]
def _root_.Go.Calls.to{P:bO}{f:FuncId}{c:Z y}{w:u}{X:Ending}{R:Ending->u->U}(h:aA P f c w λe d=>e=X/\d=j)(k:R X j):aA P f c w R:=aE h λ_ _⟨a,b⟩=>a▸b▸k
def je(w:u)(g:V)(b:aU)(m:V)(c:V->y):U:=∃a:Z y,w.heap[g]?=J (ao a b (0,0))/\a=m/\∀j,j<m->a[j]?=J (c j)
def je.lt{w:u}{g m:V}{c:V->y}(h:je w g v m c):g<w:=by let⟨a,b,_⟩:=h;grind
def je.jP{w:u}{g m:V}{c:V->y}(h:je w g v m c){j:V}(d:j<m):ai w (g j ae)=J (c j):=by let⟨a,e,_,b⟩:=h;simp[ai,e,b j d]
def je.el{w:u}{g m:V}{c:V->y}(h:je w g v m c)(j:V)(a:j<m:=by first|omega|simp):ai w (g j ae)=J (c j):=h.jP a
def je.kr{w:u}{g m:V}{c:V->y}(h:je w g v m c)(j:V):bU w (g j ae)=aj:=by let⟨a,b,_⟩:=h;simp[bU,b]
def je.jg{w w':u}{g m:V}{c:V->y}(h:je w g v m c)(e:w'.heap[g]?=w.heap[g]?):je w' g v m c:=by let⟨a,d,b⟩:=h;exact⟨a,by rw[e];exact d,b⟩
def je.below{w w':u}{g m:V}{c:V->y}(h:je w g v m c)(a:aq w w w'):je w' g v m c:=h.jg<|a.block g h.lt
def je.jY{w:u}{g m:V}{c b:V->y}(h:je w g v m c)(f:∀j,j<m->c j=b j):je w g v m b:=by let⟨a,d,e,k⟩:=h;exact⟨a,d,e,λj i=>pC⟩
def je.Mj{w:u}{g m:V}{c:V->y}(h:je w g v m c)(a:m=b):je w g v b c:=a▸h
def je.nF{w:u}{g m:V}{c:V->y}(h:je w g v m c){a:aZ}(d:g≠a.block)(b:y):je (w a b) g v m c:=h.jg<|bE _ _ _ _ d
def je.jl{w:u}{g m:V}{c:V->y}(h:je w g v m c)(i:V)(b:y):je (w (g i ae) b) g v m λj=>if j=i then b else c j:=by
 let⟨a,e,d,f⟩:=h;refine⟨cN a i b,?_,by simpa using d,λj k=>?_⟩;.simp[dV,Array.getElem?_modify,e]
 grind
def je.lP{w:u}{g m:V}{c:V->y}(h:je w g v m c)(o:Obj):je (ax w o) g v m c:=h.jg<|eN _ _ _ h.lt
def Ij(w:u)(a:Z y)(b:aU)(c:V->y)(h:∀j,j<a.size->a[j]?=J (c j)):je (ax w<|ao a b) w b a c:=⟨a,eO w _,rfl,h⟩
def je.jI{w:u}{g m:V}{c k:V->y}(h:je w g b m c)(l:je w v d i k)(n:b≠d:=by decide):g≠v:=by intro e;subst e;let⟨f,o,_⟩:=h;let⟨a,j,_⟩:=l;grind
def lc(a:L y)(j:V):y:=a.getD j aX
def lZ(w:u)(a:L y)(b:aU):je (ax w<|ao a.toArray b) w b a<|lc a:=by have:=Ij w a.toArray b (lc a) (λj c=>by simp at c;simp[lc,eP,c]);simpa using this
def je.wX{w:u}{g:V}{xs:L y}(h:je w g v xs<|lc xs)(i:V)(a:y):je (w (g i ae) a) g v (xs.set i a)<|lc<|xs.set i a:=by
 refine((h.jl i a).Mj F0).jY λj b=>?_;simp at b;by_cases e:j=i;.subst e;simp[lc,eP,b]
 .simp only[lc,eP,BW e];grind
def ld(f:V->Y)(j:V):y:=(f j)
def uJ{w W:u}(h:aq w w W){p:aZ}{v:y}(a:ai w p=J v):ai W p=J v:=bD (aQ h<|bh _ _ a) a
def G6{G:V}{w W:u}(h:aq G j w)(b:aq w w W)(a:G<=w.heap.size:=by omega):aq G j W:=aO h<|bn b a
def Ff(w:u)(x:L y)(a:aU):∃W,ax w (ao x.toArray a)=W/\je W w a x (lc x)/\aq w w W:=⟨_,rfl,lZ w x a,kI⟩
def Xj(w:u)(x a:L y)(b c:aU):∃W,ax (ax w<|ao x.toArray b) (ao a.toArray c)=W/\je W w b x (lc x)/\je W (w.heap.size+1) c a (lc a)/\aq w w W/\W=w.heap.size+1+1:=⟨_,rfl,(lZ w x b).lP _,by simpa using lZ (ax w<|ao x.toArray b) a c,yB,F0⟩
def NO(w:u)(x e z:L y)(i f g:aU):∃W,ax (ax (ax w<|ao x.toArray i)<|ao e.toArray f) (ao z.toArray g)=W/\je W w i x (lc x)/\je W (w.heap.size+1) f e (lc e)/\je W (w.heap.size+1+1) g z (lc z)/\aq w w W/\W=w.heap.size+1+1+1:=by let⟨W,h,a,b,c,d⟩:=Xj w x e i f;rw[h];exact⟨_,rfl,a.lP _,b.lP _,by have:=lZ W z g;rwa[d]at this,aJ c c.size _,by simp[d]⟩
def aeZ(w:u)(x g z f:L y)(k i j X:aU):∃W,ax (ax (ax (ax w<|ao x.toArray k)<|ao g.toArray i)<|ao z.toArray j) (ao f.toArray X)=W/\je W w k x (lc x)/\je W (w.heap.size+1) i g (lc g)/\je W (w.heap.size+1+1) j z (lc z)/\je W (w.heap.size+1+1+1) X f (lc f)/\aq w w W:=by let⟨W,h,a,b,e,c,d⟩:=NO w x g z k i j;rw[h];exact⟨_,rfl,a.lP _,b.lP _,e.lP _,by have:=lZ W f X;rwa[d]at this,aJ c c.size _⟩
def tO{w:u}{k a x c:y}(h:je w v b 4<|lc [k,a,x,c]):ai w v=J k/\ai w (v 1 ae)=J a/\ai w (v 2 ae)=J x/\ai w (v 3 ae)=J c:=⟨h.el 0,h.el 1,h.el 2,h.el 3⟩
def Io{w:u}{a b c d e f:y}(h:je w v g 6<|lc [a,b,c,d,e,f]):ai w v=J a/\ai w (v 1 ae)=J b/\ai w (v 2 ae)=J c/\ai w (v 3 ae)=J d/\ai w (v 4 ae)=J e/\ai w (v 5 ae)=J f:=⟨h.el 0,h.el 1,h.el 2,h.el 3,h.el 4,h.el 5⟩
def YS{w:u}{a b c d e f k:y}(h:je w v g 7<|lc [a,b,c,d,e,f,k]):ai w v=J a/\ai w (v 1 ae)=J b/\ai w (v 2 ae)=J c/\ai w (v 3 ae)=J d/\ai w (v 4 ae)=J e/\ai w (v 5 ae)=J f/\ai w (v 6 ae)=J k:=⟨h.el 0,h.el 1,h.el 2,h.el 3,h.el 4,h.el 5,h.el 6⟩
def je.rd{w:u}{g m:V}{c:V->y}(h:je w g v m c){k n:V}{f:V->Y}(cap:V)(d:n<=1048577)(e:n*k<=m)(b:∀j,j<n*k->c j=(f j)):kY w (ah g n cap) k n f:=⟨_,_,rfl,d,λ_=>⟨g,0,rfl,h.lt,λj a=>by rw[cZ,h.el _,b j a]⟩⟩
def qn(b off j:V):((b off ae):aZ).add j=(b (off+j) ae):=by unfold Addr.add;simp
def Src(w:u)(v:y)(n a:V)(s:V->y):U:=∃b cap,v=ah b n cap/\(0<n->∃c:aZ,b=J c/\∀j,j<n*a->ai w (c.add j)=J (s j))/\∀j,j<n*a->(s j).oneCell'=T
def kY.src{w:u}{v:y}{k n:V}{f:V->Y}(h:kY w v k n f):Src w v n k<|ld f:=by obtain⟨a,cap,rfl,_,g⟩:=h;refine⟨a,cap,rfl,λe=>?_,λj _=>rfl⟩;obtain⟨b,off,rfl,_,c⟩:=g e;exact⟨_,rfl,λj d=>by rw[qn];exact c j d⟩
section
variable{P:bO}{w:u}{ops:Z aM}{rest:L aM}{o:aM}{a:Act}{Q:cO->Act->u->U}
def Dg(t e:aU)(z:y)(b bytes:V)(q:cT P t=J (.slice e))(c:(P.info? e).map (λi=>(i.zero,i.size,i.bytes))=J (J z,b,bytes))(n:V)(b2:bytes*n<=281474976710656)(b3:n<=bu)(g:V->y)(p:∀j,j<n*b->z.cells[j%z.cells.size]! =g j):∃M:Z y,(∀w:u,(Instr.makeSlice t (n:Y) (n:Y)).run P w=.ok (ah w n n) (ax w<|ao M e))/\∀w:u,je (ax w<|ao M e) w e (n*b) g:=by
 let⟨i,hi,h,d,r⟩:=bI c;have k:(i.bytes)*(n:Y)<=281474976710656:=pC
 have f:(n:Y)<=9223372036854775807:=by unfold bu at b3;omega
 refine⟨madeCells z.cells<|n*i.size,λw=>?_,λw=>?_⟩;.have m:=run_make w t e i z q hi h ak ak n n A A k f;grind
 . (have hs:(madeCells z.cells<|n*i.size)=n*b:=by rw[fQ,d]);have:=Ij w (madeCells z.cells<|n*i.size) e g (λj l=>by rw[hs]at l;rw[<-p j l,madeCells,fS];simp[d,l]);grind
def adx(N:o.guard=ae)(l c:dW)(t:aU)(v:o.op=Op.makeSlice t l c)(e:aU)(z:y)(b bytes:V)(F:cT P t=J (.slice e))(f:(P.info? e).map (λi=>(i.zero,i.size,i.bytes))=J (J z,b,bytes))(x C:Y)(n:V)(M:a.eval l=x)(B:a.eval c=C)(hL:x=(n:Y))(H:C=(n:Y))(b2:bytes*n<=281474976710656)(b3:n<=bu)(r:V->y)(E:∀j,j<n*b->z.cells[j%z.cells.size]! =r j)(D:∀k,je k w e (n*b) r->k=w.heap.size+1->aq w w k->dy P ops Q rest (a.put o.dst<|ah w n n) k):dy P ops Q (o::rest) a w:=by
 let⟨i,hi,s,g,G⟩:=bI f;refine eQ N λK m=>?_;have q:(i.bytes)*(n:Y)<=281474976710656:=pC
 have h:(n:Y)<=9223372036854775807:=by unfold bu at b3;omega
 have d:=run_make w t e i z F hi s ak ak n n A A q h;simp only[dz]at d;subst hL;subst H;unfold cU;simp[cV,v,M,B,d,Result.andThen];refine m _ _<|D _ ?_ F0 kI;have hs:(madeCells z.cells<|n*i.size)=n*b:=by rw[fQ,g]
 have:=Ij w (madeCells z.cells<|n*i.size) e r (λj p=>by rw[hs]at p;rw[<-E j p,madeCells,fS];simp[g,p]);grind
def Kb(R sT p:aU)(W:cT P R=J (.slice p))(b:V)(M:(P.info? p).map (·.size)=J b)(g d l:V)(v:y)(n:V)(K:n<=d)(F m:V)(c:V->y)(t:je w g F m c)(hm:d*b<=m)(r:V->y)(C:Src w v n b r):∃D,(∀ty,(eV #[R,sT] ty #[ah g d l,v]).run P w=.ok n D)/\je D g F m (λj=>if j<n*b then r j else c j)/\D=w.heap.size/\(∀k,k≠g->D.heap[k]?=w.heap[k]?)/\aq g w D:=by
 obtain⟨O,cap,rfl,B,S⟩:=C;let⟨h,hg,q,X⟩:=id t;let⟨i,hi,H⟩:=Option.map_eq_some_iff.1 M;have x:=Nat.min_eq_left K;have f:(dX b n<|ah O n cap).run P w=.ok ((dI<|n*b).map r).toArray w:=by by_cases h0:0<n;(.obtain⟨G,rfl,N⟩:=B h0;have E:=fT (P:=P) w G ((dI<|n*b).map r) (λj ac hj=>pC);simp only[List.length_map,List.length_range]at E;simp[dX,E]);. (have e:n=0:=A);subst e;cases O with|none=>simp[dX]|some G=>have E:=fT (P:=P) w G [] F0;simp at E;simp[dX,E]
 have s:=fU P g 0 F ((dI<|n*b).map r) 0 h w hg (by simp[q];exact bP (de _ K) hm) (λac W=>pC);have z:∀ty,(eV #[R,sT] ty #[ah g d l,ah O n cap]).run P w=.ok n (w.setRow g (h.toList.take (0+0)++(dI<|n*b).map r++h.toList.drop (0+0+((dI<|n*b).map r))).toArray):=by intro ty;simp only[eV];simp[dY W,Builtin.lenOf,sizeOf,typeInfo,hi,H,x,f];simp at s;simp[s,goInt]
 refine⟨_,z,?_,F0,λk hk=>dA _ _ _ _ hk,⟨rfl,rfl,rfl,F0,λk hk=>dA _ _ _ _ A⟩⟩;have aa:=bP (de _ K) hm;refine⟨_,dJ w g h _ F _ hg,?_,λj hj=>?_⟩;.grind
 grind
end
def Wf{w:u}{base e k n:V}{v:y}{f:V->Y}(h:aH w base e k v n W)(l:n<=1048577)(i:∀j,j<n*k->W[j]?=J (au ak<|f j)):kY w v k n f:=by
 let⟨s,m⟩:=h;rcases m with⟨rfl,rfl⟩|⟨g,cap,r,rfl,t,c,q,x,hs,p⟩;.exact⟨_,_,rfl,A,λz=>A⟩
 .refine⟨_,_,rfl,l,λ_=>⟨g,0,rfl,(bY.1 c).1,λj b=>?_⟩⟩;have d:=i j b;rw[<-p,cd,rW b,dK]at d;simp[ai,c,d]
def DD(n lo hi:Y)(w:u):aA ar 78 #[n,lo,hi] w λe a=>e=az (jF n lo hi)/\a=w:=by
 by_cases h:lo<=n;.go_enter gw,gx;go_wp2;go_ret;simp[h,jF]
 .go_enter gw,gx;go_wp2;go_ret;simp[(by simpa using h:decide (lo<=n)=aj),jF]
def GK(n:Y)(w:u):aA ar 143 #[n] w λe a=>e=az (jF n 0 99)/\a=w:=by go_enter Tryz.func143,Tryz.ntmps143;go_wp2_with(go_at_call 78;apply(DD _ _ _ _).to);go_ret;exact⟨rfl,rfl⟩
def adC(n:Y)(w:u):aA ar 172 #[n] w λe a=>e=az (jF n 0 3)/\a=w:=by go_enter Tryz.func172,Tryz.ntmps172;go_wp2_with(go_at_call 78;apply(DD _ _ _ _).to);go_ret;exact⟨rfl,rfl⟩
def XQ(n:Y)(w:u):aA ar 145 #[n] w λe a=>e=az (jF n 0 3)/\a=w:=by
 by_cases h:0<=n;.go_enter gy,gz;go_wp2;go_ret;simp[h,jF]
 .go_enter gy,gz;go_wp2;go_ret;simp[(by simpa using h:decide (0<=n)=aj),jF]
def Gy(v:y)(n:V)(f:V->Y)(x:Y)(w:u)(h:kY w v 1 n f):aA ar 146 #[v,x] w λe l=>e=az (mS n f x)/\l=w:=by
 obtain⟨a,cap,rfl,m,g⟩:=h;go_enter Tryz.func146,Tryz.ntmps146;go_wp2;go_loop[5](λi=>∃k:V,k<=n/\i=k/\mS k f x=aj)(λi=>n-(aF i).toNat);exact⟨0,j9,rfl,rfl⟩;obtain⟨k,hk,rfl,j⟩:=hrel;by_cases d:k<n;.obtain⟨b,off,rfl,o,c⟩:=g A;simp[cD]at c;clear g;go_wp2;(.go_ret;exact⟨kT (pM d ‹_›).symm,rfl⟩);.go_round;exact⟨k+1,A,pR,Az j ‹_›⟩;simp[aF];omega
 .go_wp2;go_ret;(have:k=n:=A);subst this;exact⟨kT j.symm,rfl⟩
def aer{x:Y}(h:(x==B)=T):(B==x)=T:=by rw[DB]at*;exact h.symm
def aeb{x:Y}(h:(x==B)=aj):(B==x)=aj:=by rw[beq_eq_false_iff_ne]at*;exactλe=>h e.symm
def aaU(v:y)(n:V)(f:V->Y)(x:Y)(w:u)(h:kY w v 1 n f):aA ar 148 #[v,x] w λe l=>∃r:Y,e=az r/\decide (0<=r)=mS n f x/\l=w:=by
 obtain⟨a,cap,rfl,m,g⟩:=h;go_enter Tryz.func148,Tryz.ntmps148;go_wp2;go_loop[8](λi=>∃k:V,k<=n/\i=k/\mS k f x=aj)(λi=>n-(aF i).toNat);exact⟨0,j9,rfl,rfl⟩;obtain⟨k,hk,rfl,j⟩:=hrel;by_cases d:k<n;.obtain⟨b,off,rfl,o,c⟩:=g A;simp[cD]at c;clear g;go_wp2;(.go_ret;refine⟨k,rfl,?_,rfl⟩;rw[show mS n f x=T from pM d (aer ‹(x==f k)=T›)];simp);.go_round;exact⟨k+1,A,pR,Az j<|aeb ‹(x==f k)=aj›⟩;simp[aF];omega
 .go_wp2;go_ret;(have:k=n:=A);subst this;refine⟨-1,rfl,?_,rfl⟩;rw[j];rfl
def Eo(v:y)(n:V)(f:V->Y)(x:Y)(w:u)(h:kY w v 1 n f):aA ar 128 #[v,x] w λe a=>e=az (mS n f x)/\a=w:=by go_enter Tryz.func128,Tryz.ntmps128;go_wp2_with(go_at_call 148;apply aE (aaU _ n f _ _ h);rintro e a⟨r,rfl,b,rfl⟩;have c:Hid<|_=_:=b;clear b);go_ret;exact⟨kT c.out,rfl⟩
def Et(v:y)(n:V)(f:V->Y)(w:u)(h:kY w v 1 n f):aA ar 117 #[v] w λe o=>e=az (qZ n f)/\o=w:=by
 obtain⟨a,cap,rfl,q,j⟩:=h;by_cases l:n<=6;.go_enter gA,gB;go_wp2;go_loop[10](λi=>∃k:V,k<=n/\i=k/\lU (λi=>jF (f i) 0 99) k=T)(λi=>n-(aF i).toNat);exact⟨0,j9,rfl,rfl⟩;obtain⟨k,hk,rfl,m⟩:=hrel;by_cases d:k<n;(.obtain⟨b,off,rfl,r,c⟩:=j A;simp[cD]at c;clear j;cases g:jF (f k) 0 99 with|false=>go_wp2_with(go_at_call 143;apply(GK _ _).to);go_ret;exact⟨kT<|by simp[qZ,zf (p:=λi=>jF (f i) 0 99) d g],rfl⟩|true=>go_wp2_with(go_at_call 143;apply(GK _ _).to);go_round;exact⟨k+1,A,pR,wZ m g⟩;simp[aF];omega);.go_wp2;go_ret;(have:k=n:=A);subst this;exact⟨kT<|by simp[qZ,m,l],rfl⟩
 .go_enter gA,gB;go_wp2;go_ret;exact⟨kT<|by simp[qZ,l],rfl⟩
def BE(v:y)(n:V)(f:V->Y)(w:u)(h:kY w v 1 n f):aA ar 120 #[v] w λe m=>e=az (qZ n f)/\m=w:=by
 obtain⟨a,cap,rfl,o,l⟩:=h;go_enter Tryz.func120,Tryz.ntmps120;go_wp2;go_loop[3](λi=>∃k:V,k<=n/\i=k/\lU (λi=>jF (f i) 0 99) k=T)(λi=>n-(aF i).toNat);exact⟨0,j9,rfl,rfl⟩;obtain⟨k,hk,rfl,j⟩:=hrel;by_cases d:k<n;.obtain⟨b,off,rfl,q,c⟩:=l A;simp[cD]at c;clear l;by_cases g:f k<0;(.go_wp2;go_ret;exact⟨kT<|by simp[qZ,zf (p:=λi=>jF (f i) 0 99) d<|by simp[jF];omega],rfl⟩);.by_cases r:99<f k;(. (have hd:decide (f k<0)=aj:=by simpa using g);go_wp2;go_ret;exact⟨kT<|by simp[qZ,zf (p:=λi=>jF (f i) 0 99) d<|by simp[jF];omega],rfl⟩);. (have hd:decide (f k<0)=aj:=by simpa using g);go_wp2;go_round;exact⟨k+1,A,pR,wZ j<|by simp[jF];omega⟩;simp[aF];omega
 .go_wp2;go_ret;(have:k=n:=A);subst this;refine⟨kT ?_,rfl⟩;simp[qZ,j];omega
def UH(v:y)(n:V)(f:V->Y)(w:u)(h:kY w v 2 n f):aA ar 118 #[v] w λe E=>e=az (wP n f)/\aq w w E:=by
 obtain⟨a,cap,rfl,F,t⟩:=h;by_cases C:n<=3;.go_enter aoz,aoA;go_wp2;go_loopw[10](λi wr=>∃k:V,k<=n/\i=k/\lU (λi=>tK (f<|2*i)<|f<|2*i+1) k=T/\aq w w wr)(λi _=>n-(aF i).toNat);exact⟨0,j9,rfl,rfl,jQ⟩;obtain⟨k,hk,rfl,r,c⟩:=hrel;by_cases o:k<n;(.obtain⟨b,off,rfl,q,l⟩:=t A;have D:b<wr:=bG q c.size;(have c0:ai wr (b (off+k*2) ae)=J (au ak<|f<|2*k):=by rw[aQ c (p:=(b (off+k*2) ae)) q,l _ A,dk]);(have c1:ai wr (b (off+k*2+1) ae)=J (au ak<|f<|2*k+1):=by rw[aQ c (p:=(b (off+k*2+1) ae)) q,cr,l _ A,dk]);clear t l;(have j:tK (f<|2*k) (f<|2*k+1)=aj->wP n f=aj:=λe=>by simp[wP,zf (p:=λi=>tK (f<|2*i)<|f<|2*i+1) o e]);have g:tK (f<|2*k) (f<|2*k+1)=T->lU (λi=>tK (f<|2*i)<|f<|2*i+1) (k+1)=T:=(wZ r);generalize f (2*k)=x at*;generalize f (2*k+1)=s at*;cases z:jF x 0 99 with|false=>have d:=j (by simp[tK,z]);clear j g;go_wp2_with(go_at_call 143;apply(GK _ _).to);go_ret;exact⟨kT d.symm,aJ c c.size _⟩|true=>cases B:jF s 0 99 with|false=>have d:=j (by simp[tK,B]);clear j g;go_wp2_with(go_at_call 143;apply(GK _ _).to);go_ret;exact⟨kT d.symm,aJ c c.size _⟩|true=>by_cases G:s<x;(.have d:=j (by simp[tK];omega);clear j g;go_wp2_with(go_at_call 143;apply(GK _ _).to);go_ret;exact⟨kT d.symm,aJ c c.size _⟩);.have m:=g (by simp[tK,z,B];omega);clear j g;go_wp2_with(go_at_call 143;apply(GK _ _).to);go_roundw;exact⟨k+1,A,pR,m,aJ c c.size _⟩;simp[aF];omega);.go_wp2;go_ret;(have:k=n:=A);subst this;exact⟨kT<|by simp[wP,r,C],c⟩
 .go_enter aoz,aoA;go_wp2;go_ret;exact⟨kT<|by simp[wP,C],jQ⟩
def anr(v:y)(n:V)(f:V->Y)(w:u)(h:kY w v 1 n f):aA ar 77 #[v] w λe B=>e=az (BD n f)/\B=w:=by
 obtain⟨a,cap,rfl,C,q⟩:=h;by_cases s:n<=3;.go_enter aoB,aoC;go_wp2;go_loop[3,11](λl i=>∃k:V,k<=n/\i=k/\lU (nz 1 f) k=T/\∃z:Y,l=z/\z=(match k with|0=>0|j+1=>f j)/\0<=z/\z<=99)(λ_ i=>n-(aF i).toNat);exact⟨0,j9,rfl,rfl,0,rfl,rfl,A,A⟩;obtain⟨k,hk,rfl,r,z,rfl,o,t,x⟩:=hrel;by_cases m:k<n;(.obtain⟨b,off,rfl,D,c⟩:=q A;simp[cD]at c;clear q;(have d:nz 1 f k=jF (f k) (z+1) 99:=by rw[o];cases k<;>simp[nz]);clear o;cases p:jF (f k) (z+1) 99 with|false=>have g:Hid<|_=_:=d;clear d;go_wp2_with(go_at_call 78;apply(DD _ _ _ _).to);go_ret;exact⟨kT<|by simp[BD,zf m<|bD g.out p],rfl⟩|true=>have g:Hid<|_=_:=d;clear d;go_wp2_with(go_at_call 78;apply(DD _ _ _ _).to);go_round;simp[jF]at p;exact⟨k+1,A,pR,wZ r<|bD g.out<|by simp[jF];omega,f k,rfl,rfl,A,A⟩;simp[aF];omega);.clear o;go_wp2;go_ret;(have:k=n:=A);subst this;exact⟨kT<|by simp[BD,r,s],rfl⟩
 .go_enter aoB,aoC;go_wp2;go_ret;exact⟨kT<|by simp[BD,s],rfl⟩
def JX(v:y)(n:V)(f:V->Y)(a b c:Y)(w:u)(h:kY w v 1 n f):aA ar 46 #[aK #[v,a,b,c]] w λe i=>e=az (tV n f a b c)/\aq w w i:=by cases k:BD n f<;>cases g:jF a 1 8<;>cases d:jF b 1 8<;>cases j:jF c 1 4;all_goals go_enter Tryz.func46,Tryz.ntmps46;go_wp2_with(first|(go_at_call 77;apply(anr _ n f _<|h.lP<|ao #[v,a,b,c] 24).to)|(go_at_call 78;apply(DD _ _ _ _).to));go_ret;exact⟨kT<|by simp[tV,k,g,d,j],kI⟩
section
variable{P:bO}{ops:Z aM}{Q:cO->Act->u->U}{md:fV}
def ot(ops:Z aM)(a:Act)(k:V):y:=match(ops[k]?).bind (·.dst)with|J d=>a d aX|ae=>aX
structure tj(ops:Z aM)(a0 a:Act):U where
 jB:a.tmps=a0.tmps.size
 qS:a.defers=a0.defers
 kD:∀t,(∀j:V,(ops[j]?).bind (·.dst)≠some t)->a t undef=a0 t undef
def BB(a:Act)(d:n6 Tmp)(v:y)(t:V):(a.put d v) t aX=if d=J t/\t<a.tmps then v else a t aX:=by cases d with|none=>simp[dg]|some d=>simp only[dg,dZ];by_cases h:d=t;(.simp_all);simp_all
def tj.put{a:Act}(h:tj ops N a){i:V}{o:aM}(hi:ops[i]?=J o)(v:y):tj ops N<|a.put o.dst v:=by
 refine⟨?_,?_,λt b=>?_⟩;.rw[<-h.jB];cases hd:o.dst<;>simp[dg]
 .rw[<-h.qS];cases hd:o.dst<;>simp[dg]
 .rw[BB,BW,h.kD t b];grind
def mi(a:Z I)(k:V):U:=a[k]?=J T
def anN{k:V}(h:X.getD k aj=T):mi X k:=by rw[eX]at h;cases e:X[k]? with|none=>grind|some b=>rw[e]at h;simp at h;rw[mi,e,h]
def Qt{k:V}(h:X.getD k T=aj):X[k]?=J aj:=by rw[eX]at h;grind
def PY{i:V}(h:i∈bZ md ops X):i<ops/\X.getD i T=aj/\∀o,ops[i]?=J o->∀e∈o.after,bQ md e=T->mi X e.on:=by
 simp only[bZ,cA,eY,aD,dB]at h;refine⟨h.1,h.2.1,λo d e c f=>?_⟩;have a:=h.2.2;rw[d]at a;simp only[fX,fY,eZ,cf,dB]at a;rcases a e c with b|b;.grind
 .exact anN b
def AQ(a:Z I):V:=a.toList.countP λb=>!b
def Pg{i:V}(hi:i<X)(h:X.getD i T=aj):AQ (cN X i T)+1=AQ X:=by
 have a:X[i]=aj:=by simp_all
 unfold AQ;grind
def NP(hs:X=ops.size)(h:AQ X=0):bZ md ops X=[]:=by
 unfold bZ;rw[List.filter_eq_nil_iff];intro i hi;rw[eY]at hi;have b:i<X:=A
 have:X[i]=T:=by cases a:X[i]with|true=>rfl|false=>(have:0<AQ X:=by unfold AQ;rw[List.countP_pos_iff];exact⟨aj,by rw[<-a];simp,rfl⟩);omega
 simp_all
def afd(z:Act)(F:u->U)(R:V->(V->y)->u->U)(f:∀(i:V)o,ops[i]?=J o->o.guard=ae)(x:∀(i j:V)d,(ops[i]?).bind (·.dst)=J d->(ops[j]?).bind (·.dst)=J d->i=j)(hloc:∀k s O w,(∀o,ops[k]?=J o->∀j,(j=k\/∃e∈o.after,bQ md e=T/\e.on=j)->s j=O j)->R k s w->R k O w)(hob:∀(i:V)o,ops[i]?=J o->∀a w,F w->tj ops z a->(∀e∈o.after,bQ md e=T->R e.on (ot ops a) w)->o.wp P a w (λE t=>F t/\(∀k s,R k s w->R k s t)/\∃v,E=a.put o.dst v/\R i (ot ops E) t) Q)(c:∀b:Z I,b=ops.size->bZ md ops b=[]->∀k,k<ops.size->mi b k)(hend:∀a w,F w->tj ops z a->(∀k,k<ops.size->R k (ot ops a) w)->Q .normal a w):∀(g:V)(b:Z I)(a:Act)(w:u),b=ops.size->AQ b<=g->F w->tj ops z a->(∀k,mi b k->R k (ot ops a) w)->(∀k o,ops[k]?=J o->mi b k->∀e∈o.after,bQ md e=T->mi b e.on)->wpAny P md ops Q g b a w|0,b,a,w,hs,W,hF,hS,C,_=>by have B:bZ md ops b=[]:=NP hs A;exact⟨B,hend a w hF hS λk hk=>C k (c b hs B k hk)⟩|g+1,b,a,w,hs,W,hF,hS,C,hD=>by refine⟨λB=>hend a w hF hS λk hk=>C k (c b hs B k hk),λi hi=>?_⟩;obtain⟨N,q,m⟩:=PY hi;(have p:ops[i]?=J ops[i]:=by simp[N]);(have l:i<b:=A);(have S:¬mi b i:=by intro r;have:=Qt q;rw[mi,this]at r;cases r);unfold wpOp;rw[p];simp only[];rw[rW<|by simp[ee,f i _ p]];refine aP<|fa ?_<|hob i _ p a w hF hS λe he hb=>C _<|m _ p e he hb;rintro E t⟨H,K,v,rfl,aa⟩;(have n:∀k,mi (cN b i T) k->k=i\/mi b k:=by intro k hk;by_cases e:k=i;(.exact aP e);.refine aN ?_;rw[mi,dD,BW λh=>e h.symm]at hk;exact hk);(have M:∀k,mi b k->mi (cN b i T) k:=by intro k hk;rw[mi,dD];by_cases X:i=k;(.grind);.rw[BW X];exact hk);(have G:mi (cN b i T) i:=by rw[mi,dD,rW rfl,rW l]);(have D:∀k,mi b k->ot ops (a.put ops[i].dst v) k=ot ops a k:=by intro k hk;unfold ot;cases hd:(ops[k]?).bind (·.dst)with|none=>rfl|some d=>simp only[];rw[BB,BW];grind);refine afd z F R f x hloc hob c hend g _ _ t (by simpa using hs) ?_ H (hS.put p v) ?_ ?_;(.have:=Pg l q;omega);(.grind);grind
def Cz(ops:Z aM):I:=ops.toList.all (λo=>o.guard.isNone)&&(ops.toList.filterMap (·.dst)).Nodup&&ops.toList.zipIdx.all (λx=>x.1.after.all λe=>!bQ .any e||e.on<x.2)
def UC(h:Cz ops=T):∀(i:V)o,ops[i]?=J o->o.guard=ae:=by intro i o a;simp only[Cz,aD,fZ]at h;have:=h.1.1 o pC;simpa using this
def M3{f:G->n6 H}:∀{l:L G},(l.filterMap f).Nodup->∀(i j:V)(b:H),(l[i]?).bind f=J b->(l[j]?).bind f=J b->i=j|[],_,i,j,b,hi,_=>by simp at hi|x::l,a,i,j,b,hi,d=>by cases e:f x with|none=>rw[List.filterMap_cons_none e]at a;(cases i with|zero=>simp[e]at hi|succ i=>cases j with|zero=>simp[e]at d|succ j=>simp at hi d;rw[M3 a i j b hi d])|some c=>rw[List.filterMap_cons_some e,List.nodup_cons]at a;(have h:∀k,(l[k]?).bind f=J c->False:=λk hk=>by obtain⟨m,n,g⟩:=Option.bind_eq_some_iff.1 hk;exact a.1<|List.mem_filterMap.2 ⟨m,cj n,g⟩);cases i with|zero=>grind|succ i=>cases j with|zero=>grind|succ j=>simp at hi d;rw[M3 a.2 i j b hi d]
def Xy(h:Cz ops=T):∀(i j:V)d,(ops[i]?).bind (·.dst)=J d->(ops[j]?).bind (·.dst)=J d->i=j:=by intro i j d hi a;simp only[Cz,aD,DA]at h;exact M3 h.1.2 i j d (by simpa using hi)<|by simpa using a
def Te(h:Cz ops=T):∀a:Z I,a=ops.size->bZ .any ops a=[]->∀k,k<ops.size->mi a k:=by intro a hs i k;induction k using Nat.strongRecOn with|_ k f=>intro hk;(have c:k<a:=A);cases d:a[k]with|true=>rw[mi,fc c,d]|false=>exfalso;(have:k∈bZ .any ops a:=by simp only[bZ,cA,eY];refine⟨hk,?_⟩;simp only[fc hk,fX,fY,aD,eZ,cf,dB];refine⟨by simp_all,λe g=>?_⟩;simp only[Cz,aD,fZ,eZ,cf,dB,DA]at h;rcases h.2 (ops[k],k) pC e g with b|b;(.exact aP b);.refine aN ?_;have:=f e.on b (by simp at b;omega);rw[eX,this];rfl);grind
end
section
variable{P:bO}{ops:Z aM}{Q:cO->Act->u->U}
def mZ{o:aM}{a:Act}{w:u}{v:y}{K:Act->u->U}(h:(cV a.eval o).run P w=.ok (.value v) j)(b:K (a.put o.dst v) j):o.wp P a w K Q:=by unfold cU;rwa[h]
def DV{o:aM}{a:Act}{w:u}{K:Act->u->U}(h:(cV a.eval o).run P w=.ok .skip j)(b:K (a.put o.dst aX) j):o.wp P a w K Q:=by unfold cU;rwa[h]
def yP{o:aM}{a:Act}{w:u}{f:FuncId}{b:Z y}{K:Act->u->U}{R:Ending->u->U}(h:(cV a.eval o).run P w=.ok (.enter f b) j)(d:aA P f b j R)(e:∀r c,R r c->∃v,r=az v/\K (a.put o.dst v) c):o.wp P a w K Q:=by unfold cU;rw[h];apply aE d;grind
def yz(b:Act)(a:L V)(f:V->y):Act:=a.foldl (λacc d=>acc.put (J d)<|f d) b
def Tv(f:V->y):∀(b:L V)(a:Act),(yz a b f).tmps.size=a.tmps.size/\(yz a b f).defers=a.defers|[],a=>⟨rfl,rfl⟩|d::b,a=>by have h:=Tv f b<|a.put d<|f d;have e:yz a (d::b) f=yz (a.put d<|f d) b f:=rfl;rw[e];exact⟨by rw[h.1];simp[dg],by rw[h.2];simp[dg]⟩
def Xq(f:V->y)(t:V):∀(a:L V)(b:Act),t<b.tmps->(yz b a f) t aX=if t∈a then f t else b t aX|[],b,_=>by simp[yz]|d::a,b,c=>by have e:yz b (d::a) f=yz (b.put d<|f d) a f:=rfl;rw[e,Xq f t a _<|by simpa[dg]using c];by_cases h:t∈a;(.simp[h]);.rw[BW h,BB];grind
def Nt{a:Act}(c:L V)(h:tj ops N a)(hd:∀t,t∉c->∀j:V,(ops[j]?).bind (·.dst)≠J t):a=yz N c (λd=>a d aX):=by
 let⟨b,n⟩:=a;have m:=h.qS;have g:=Tv (λd=>b.getD d aX) c N;generalize k:yz N c (λd=>b.getD d aX)=p at*;let⟨tp,dp⟩:=p;simp only at*;have l:b=tp:=by apply Array.ext;(.rw[h.jB,g.1]);.intro i hi e;rw[(by simp_all:b[i]=b.getD i aX),(by simp[gd,e]:tp[i]=tp.getD i aX)];have:=(Xq λd=>b.getD d aX) i c N A;rw[k]at this;simp only at this;rw[this];by_cases f:i∈c;(.rw[rW f]);.rw[BW f];exact h.kD i<|hd i f
 grind
def qO{t:V}(h:(ops.toList.all λo=>o.dst !=J t)=T:=by kernel_rfl):∀j:V,(ops[j]?).bind (·.dst)≠J t:=pC
def NJ{a:L V}(h:(ops.toList.all λo=>match o.dst with|J d=>a.contains d|ae=>T)=T:=by kernel_rfl):∀t,t∉a->∀j:V,(ops[j]?).bind (·.dst)≠J t:=pC
end
section
variable{P:bO}{ops:Z aM}{Q:cO->Act->u->U}{md:fV}
def V9(z:Act)(F:u->U)(R:V->(V->y)->u->U)(f:∀(i:V)o,ops[i]?=J o->o.guard=ae)(x:∀(i j:V)d,(ops[i]?).bind (·.dst)=J d->(ops[j]?).bind (·.dst)=J d->i=j)(hloc:∀k s O w,(∀o,ops[k]?=J o->∀j,(j=k\/∃e∈o.after,bQ md e=T/\e.on=j)->s j=O j)->R k s w->R k O w)(hob:∀(i:V)o,ops[i]?=J o->∀a w,F w->tj ops z a->(∀e∈o.after,bQ md e=T->R e.on (ot ops a) w)->o.wp P a w (λE t=>F t/\(∀k s,k≠i->R k s w->R k s t)/\∃v,E=a.put o.dst v/\R i (ot ops E) t) Q)(c:∀b:Z I,b=ops.size->bZ md ops b=[]->∀k,k<ops.size->mi b k)(hend:∀a w,F w->tj ops z a->(∀k,k<ops.size->R k (ot ops a) w)->Q .normal a w):∀(g:V)(b:Z I)(a:Act)(w:u),b=ops.size->AQ b<=g->F w->tj ops z a->(∀k,mi b k->R k (ot ops a) w)->(∀k o,ops[k]?=J o->mi b k->∀e∈o.after,bQ md e=T->mi b e.on)->wpAny P md ops Q g b a w|0,b,a,w,hs,W,hF,hS,C,_=>by have B:bZ md ops b=[]:=NP hs A;exact⟨B,hend a w hF hS λk hk=>C k (c b hs B k hk)⟩|g+1,b,a,w,hs,W,hF,hS,C,hD=>by refine⟨λB=>hend a w hF hS λk hk=>C k (c b hs B k hk),λi hi=>?_⟩;let⟨N,q,m⟩:=PY hi;(have p:ops[i]?=J ops[i]:=by simp[N]);(have l:i<b:=A);(have S:¬mi b i:=by intro r;have:=Qt q;rw[mi,this]at r;cases r);unfold wpOp;rw[p];simp only[];rw[rW<|by simp[ee,f i _ p]];refine aP<|fa ?_<|hob i _ p a w hF hS λe he hb=>C _<|m _ p e he hb;rintro E t⟨H,K,v,rfl,aa⟩;(have n:∀k,mi (cN b i T) k->k=i\/mi b k:=by intro k hk;by_cases e:k=i;(.exact aP e);.refine aN ?_;rw[mi,dD,BW λh=>e h.symm]at hk;exact hk);(have M:∀k,mi b k->mi (cN b i T) k:=by intro k hk;rw[mi,dD];by_cases X:i=k;(.grind);.rw[BW X];exact hk);(have G:mi (cN b i T) i:=by rw[mi,dD,rW rfl,rW l]);(have D:∀k,mi b k->ot ops (a.put ops[i].dst v) k=ot ops a k:=by intro k hk;unfold ot;cases hd:(ops[k]?).bind (·.dst)with|none=>rfl|some d=>simp only[];rw[BB,BW];grind);refine V9 z F R f x hloc hob c hend g _ _ t (by simpa using hs) ?_ H (hS.put p v) ?_ ?_;(.have:=Pg l q;omega);(.grind);grind
def adP{id:V}{w:u}(c:Act)(m:P.follows .mixedOrders=T)(d:Cz ops=T)(F:u->U)(R:V->(V->y)->u->U)(hloc:∀k s h w,(∀o,ops[k]?=J o->∀j,(j=k\/∃e∈o.after,bQ .any e=T/\e.on=j)->s j=h j)->R k s w->R k h w)(hF:F w.drew)(hob:∀(i:V)o,ops[i]?=J o->∀a w,F w->tj ops c a->(∀e∈o.after,bQ .any e=T->R e.on (ot ops a) w)->o.wp P a w (λg f=>F f/\(∀k s,k≠i->R k s w->R k s f)/\∃v,g=a.put o.dst v/\R i (ot ops g) f) Q)(hend:∀a w,F w->tj ops c a->(∀k,k<ops.size->R k (ot ops a) w)->Q .normal a w):(Code.region id ops T).wp P Q c w:=by
 apply wp_region_any m;refine V9 c F R (UC d) (Xy d) hloc hob (Te d) hend _ _ _ _ F0 ?_ hF ⟨rfl,rfl,λ_ _=>rfl⟩ (λk hk=>?_) λk o _ hk=>?_;.unfold AQ;have:=List.countP_le_length (p:=λb=>!b) (l:=(Array.replicate ops aj).toList);simpa using this
 .simp[mi,gj]at hk
 .simp[mi,gj]at hk
def Db(ops:Z aM)(k:V)(s:V->y)(j:V):y:=match ops[k]? with|J o=>if(j==k||o.after.toList.any λe=>bQ .any e&&e.on==j)=T then s j else aX|ae=>aX
abbrev Qp(F:u->U)(R:V->(V->y)->u->U)(ops:Z aM)(i:V)(o:aM)(a:Act)(w:u)(c:Act)(b:u):U:=F b/\(∀k s,k≠i->R k s w->R k s b)/\∃v,c=a.put o.dst v/\R i (Db ops i<|ot ops c) b
inductive G1(P:bO)(Q:cO->Act->u->U)(F:u->U)(R:V->(V->y)->u->U)(ops:Z aM)(a:Act)(w:u):L aM->V->U|n{i:V}:G1 P Q F R ops a w [] i|c{o:aM}{l:L aM}{i:V}(h:(∀j,(o.after.toList.any λe=>bQ .any e&&e.on==j)=true->R j (Db ops j<|ot ops a) w)->o.wp P a w (Qp F R ops i o a w) Q)(t:G1 P Q F R ops a w l<|i+1):G1 P Q F R ops a w (o::l) i
def G1.at{F:u->U}{R:V->(V->y)->u->U}{a:Act}{w:u}{l:L aM}{i:V}(H:G1 P Q F R ops a w l i):∀(j:V)o,l[j]?=J o->(∀e,(o.after.toList.any λx=>bQ .any x&&x.on==e)=T->R e (Db ops e<|ot ops a) w)->o.wp P a w (Qp F R ops (i+j) o a w) Q:=by induction H with|n=>intro j o e;cases e|c h t b=>intro j o e f;cases j with|zero=>cases e;exact h f|succ j=>have:=b j o e f;rwa[cr,Nat.add_comm 1]at this
def CU{id:V}{w:u}(F:u->U)(R:V->(V->y)->u->U)(hF:F w.drew)(hob:∀a w,F w->tj ops N a->G1 P Q F R ops a w ops.toList 0)(hend:∀a w,F w->tj ops N a->(∀(k:V)(_:k<ops.size:=by decide),R k (Db ops k<|ot ops a) w)->Q .normal a w)(q:P.follows .mixedOrders=T:=by kernel_rfl)(l:Cz ops=T:=by kernel_rfl):(Code.region id ops T).wp P Q N w:=by
 refine adP N q l F (λk s=>R k<|Db ops k s) (λk s n w hs h=>?_) hF (λi o f a w m hS b=>?_) hend;. (have:Db ops k s=Db ops k n:=by funext j;unfold Db;split;(.rename_i o f;split;(.rename_i h;simp only[cf,fg,aD,DB]at h;exact hs o f j<|h.imp (λx=>x) λ⟨e,d,c⟩=>⟨e,by simpa using d,c⟩);.rfl);.rfl);rwa[<-this]
 .have:=(hob a w m hS).at i o (by simpa using f) (λj g=>by simp only[fg,aD,DB]at g;obtain⟨e,d,c,rfl⟩:=g;exact b e (by simpa using d) c);rw[cZ]at this;refine fa ?_ this;rintro r t⟨d,c,p⟩;exact⟨d,λk s hk h=>c k _ hk h,p⟩
def vq{F:u->U}{R:V->(V->y)->u->U}{i n d:V}{o:aM}{a:Act}{w:u}{v:y}(hF:F w)(c:a.tmps=n)(h:(cV a.eval o).run P w=.ok (.value v) w)(b:(a.put (J d) v) d aX=v->R i (Db ops i<|ot ops<|a.put o.dst v) w:=by exact id)(hd:d<n:=by decide):o.wp P a w (Qp F R ops i o a w) Q:=mZ h ⟨hF,λ_ _ _ h=>h,v,rfl,b<|by rw[BB,rW ⟨rfl,A⟩]⟩
inductive PL(a:Act):L (V×y)->U|n:PL a []|c{v:y}{l:L<|V×y}(d:V)(h:a d undef=v)(t:PL a l):PL a<|(d,v)::l
def PL.at{a:Act}{l:L<|V×y}(h:PL a l):∀b:Act,l.foldl (λc p=>c.put (J p.1) p.2) b=yz b (l.map (·.1)) λd=>a d aX:=by induction h with|n=>intro b;rfl|c d h t e=>intro b;subst h;exact e _
def Ex{a:Act}{l:L<|V×y}(h:tj ops N a)(b:PL a l)(hd:(ops.toList.all λo=>match o.dst with|J d=>(l.map (·.1)).contains d|ae=>T)=T:=by kernel_rfl):a=l.foldl (λc p=>c.put (J p.1) p.2) N:=(Nt _ h<|NJ hd).trans (b.at N).symm
def Ge{x:y}{g:V}(h:x=ay g)(a:x=ay v):g=v:=by subst h;cases a;rfl
def afU{x:y}{g n c:V}(h:x=ah g n c)(a:x=ah v b d):g=v:=by subst h;cases a;rfl
end
def ku(p:V->I):V->V|0=>0|k+1=>ku p k+(if p k then 1 else 0)
def wj(p:V->I):∀n,ku p n<=n|0=>jK|n+1=>by have:=wj p n;simp[ku];split<;>omega
def Dp{p:V->I}{k:V}(h:p k=T):ku p (k+1)=ku p k+1:=by simp[ku,h]
def AS{p:V->I}{k:V}(h:p k=aj):ku p (k+1)=ku p k:=by simp[ku,h]
def mo(nb:V)(fb:V->Y)(x:Y):V:=ku (λi=>decide<|fb i<=x) nb
structure jM where
 nb:V
 fb:V->Y
 nl:V
 ts:V->jE
instance aop:CoeFun jM λ_=>V->jE:=⟨jM.ts⟩
structure pD(w:u)(e:V)(D:jM)(vB vL:y):U where
 lt:e<w
 c0:ai w e=some vB
 c4:ai w (e 4 none)=some vL
 b:kY w vB 1 D.nb D.fb
 l:sV w vL D.nl D.ts
def pD.below{w w':u}{e:V}{D:jM}{vB vL:y}(h:pD w e D vB vL)(a:aq w w w'):pD w' e D vB vL:=⟨bG h.lt a.size,by rw[aQ a (p:=e) h.lt];exact h.c0,by rw[aQ a (p:=(e 4 ae)) h.lt];exact h.c4,h.b.below a,h.l.below a⟩
def AI(v:y)(n:V)(f:V->Y)(x:Y)(w:u)(h:kY w v 1 n f):aA ar 52 #[v,x] w λe o=>e=az (mo n f x:V)/\o=w:=by
 obtain⟨a,cap,rfl,r,j⟩:=h;go_enter Tryz.func52,Tryz.ntmps52;go_wp2;go_loop[5,6](λc i=>∃k:V,k<=n/\i=k/\c=(ku (λi=>decide<|f i<=x) k:V))(λ_ i=>n-(aF i).toNat);exact⟨0,j9,rfl,rfl⟩;obtain⟨k,hk,rfl,rfl⟩:=hrel;have m:=wj (λi=>decide<|f i<=x) k;by_cases q:k<n;.obtain⟨b,off,rfl,s,d⟩:=j A;simp[cD]at d;clear j;by_cases l:f k<=x;(.have hs:=Dp (p:=λi=>decide<|f i<=x) (k:=k) (by simpa using l);have g:Hid<|_=_:=hs;clear hs;go_wp2;go_round;exact⟨k+1,A,pR,by rw[g.out];go_num⟩;simp[aF];omega);.have hs:=AS (p:=λi=>decide<|f i<=x) (k:=k) (by simpa using l);have g:Hid<|_=_:=hs;clear hs;go_wp2;go_round;exact⟨k+1,A,pR,by rw[g.out]⟩;simp[aF];omega
 .go_wp2;go_ret;(have:k=n:=A);subst this;exact⟨rfl,rfl⟩
def Fh(e:V)(D:jM)(vB vL:y)(x:Y)(w:u)(h:pD w e D vB vL):aA ar 71 #[ay e,x] w λe l=>e=az (mo D.nb D.fb x:V)/\l=w:=by
 obtain⟨a,cap,rfl,r,j⟩:=id h.b;have o:=h.c0;let⟨nb,fb,nl,ts⟩:=D;dsimp only at*;clear h;go_enter Tryz.func71,Tryz.ntmps71;go_wp2;go_loop[5,14](λc i=>∃k:V,k<=nb/\i=k/\c=(ku (λi=>decide<|fb i<=x) k:V))(λ_ i=>nb-(aF i).toNat);exact⟨0,j9,rfl,rfl⟩;obtain⟨k,hk,rfl,rfl⟩:=hrel;have m:=wj (λi=>decide<|fb i<=x) k;by_cases n:k<nb;.obtain⟨b,off,rfl,q,d⟩:=j A;simp[cD]at d;clear j;by_cases g:fb k<=x;(.have hs:=Dp (p:=λi=>decide<|fb i<=x) (k:=k) (by simpa using g);have f:Hid<|_=_:=hs;clear hs;go_wp2;go_round;exact⟨k+1,A,pR,by rw[f.out];go_num⟩;simp[aF];omega);.have hs:=AS (p:=λi=>decide<|fb i<=x) (k:=k) (by simpa using g);have f:Hid<|_=_:=hs;clear hs;go_wp2;go_round;exact⟨k+1,A,pR,by rw[f.out]⟩;simp[aF];omega
 .go_wp2;go_ret;(have:k=nb:=A);subst this;exact⟨rfl,rfl⟩
def Nc(e:V)(D:jM)(vB vL:y)(w:u)(h:pD w e D vB vL):aA ar 68 #[ay e] w λe c=>e=az (au ak<|(D.nb:Y)+1)/\c=w:=by obtain⟨a,cap,rfl,g,f⟩:=id h.b;have d:=h.c0;go_enter Tryz.func68,Tryz.ntmps68;go_wp2;go_ret;exact⟨rfl,rfl⟩
def CN(e:V)(D:jM)(vB vL:y)(p:Y)(w:u)(h:pD w e D vB vL):aA ar 38 #[ay e,p] w λe b=>e=az (jF p 0 D.nb)/\b=w:=by
 by_cases a:0<=p;.go_enter gC,gD;go_wp2_with(go_at_call 68;apply(Nc _ D vB vL _ h).to);go_ret;refine⟨kT ?_,rfl⟩;rw[jF,decide_eq_true a,gE,decide_eq_decide];omega
 .go_enter gC,gD;go_wp2_with fail;go_ret;exact⟨kT<|by simp[jF,(by simpa using a:decide (0<=p)=aj)],rfl⟩
def SP(bk a e:V)(D:jM)(vB vL:y)(p x:Y)(w:u)(h:pD w e D vB vL)(hk:ai w bk=J (ay e))(c:ai w a=J (au ak p)):aA ar 70 #[x,ay bk,ay a] w λe b=>e=az ((mo D.nb D.fb x:Y)==p)/\aq w w b:=by go_enter Tryz.func70,Tryz.ntmps70;go_wp2_with fail;go_quiet((go_at_call 71;exact dE<|Fh _ D vB vL _ _<|h.below<|below_drewN jQ _));go_wp2_with fail;go_ret;exact⟨rfl,below_drewN jQ _⟩
def vE(t:jE)(x:Y)(i:V):I:=decide (t.g (2*i)<=x)&&decide (x<=t.g (2*i+1))
def lA(t:jE)(x:Y):I:=mS t.nr t.r x||lQ (vE t x) t.ng||mS t.nw t.wr x
def BP(D:jM)(i:V)(p:Y):I:=lQ (λk=>lA (D i) k&&((mo D.nb D.fb k:Y)==p)) 100||(!(lQ (λk=>lA (D i) k) 100)&&p==0)
def CS(s vb B q:y)(t:jE)(x:Y)(w:u)(h:oL w s vb B q t):aA ar 122 #[aK #[s,vb,B,q],x] w λe D=>e=az (lA t x)/\aq w w D:=by
 obtain⟨ag,j,rfl,F,p⟩:=id h.g;have C:=h.lP<|ao #[s,vb,ah ag t.ng j,q] 91;have n:aq w w<|ax w<|ao #[s,vb,ah ag t.ng j,q] 91:=kI;go_enter Tryz.func122,Tryz.ntmps122;go_wp2_with fail;apply(Gy _ t.nr t.r _ _ C.r).to;go_wp2_with fail;apply(Gy _ t.nw t.wr _ _ C.wr).to;go_wp2_with fail;go_loop[5,7](λr i=>∃k:V,k<=t.ng/\i=k/\r=(mS t.nr t.r x||lQ (vE t x) k))(λ_ i=>t.ng-(aF i).toNat);exact⟨0,j9,rfl,by simp[lQ]⟩;obtain⟨k,hk,rfl,rfl⟩:=hrel;by_cases G:k<t.ng;.obtain⟨b,off,rfl,H,d⟩:=p A;(have c0:ai w (b (off+k*2) ae)=J (au ak<|t.g<|2*k):=by rw[d _ A,dk]);(have c1:ai w (b (off+k*2+1) ae)=J (au ak<|t.g<|2*k+1):=by rw[cr,d _ A,dk]);clear p d;(have hs:∀c,(mS t.nr t.r x||lQ (vE t x) k||vE t x k)=c->(mS t.nr t.r x||lQ (vE t x) (k+1))=c:=by intro c z;rw[<-z,lQ,Bool.or_assoc]);have o:vE t x k=(decide (t.g (2*k)<=x)&&decide (x<=t.g (2*k+1))):=rfl;cases l:(mS t.nr t.r x||lQ (vE t x) k)with|true=>have a:=hs T (by rw[l];rfl);have f:Hid<|_=_:=a;clear hs a o;go_wp2_with fail;go_round;exact⟨k+1,A,pR,by rw[f.out]⟩;simp[aF];omega|false=>by_cases v:t.g (2*k)<=x;(.have a:=hs (decide<|x<=t.g (2*k+1)) (by rw[l,o];simp[v]);have f:Hid<|_=_:=a;clear hs a o;go_wp2_with fail;go_round;exact⟨k+1,A,pR,by rw[f.out]⟩;simp[aF];omega);. (have E:decide (t.g (2*k)<=x)=aj:=by simpa using v);have a:=hs aj (by rw[l,o];simp[v]);have f:Hid<|_=_:=a;clear hs a o;go_wp2_with fail;go_round;exact⟨k+1,A,pR,by rw[f.out]⟩;simp[aF];omega
 . (have m:k=t.ng:=A);(have hs:∀c,(mS t.nr t.r x||lQ (vE t x) k||mS t.nw t.wr x)=c->lA t x=c:=by intro c z;rw[lA,<-z,m]);clear m;cases l:(mS t.nr t.r x||lQ (vE t x) k)with|true=>have a:=hs T (by rw[l];rfl);have f:Hid<|_=_:=a;clear hs a;go_wp2_with fail;go_ret;exact⟨kT f.out.symm,n⟩|false=>have a:=hs (mS t.nw t.wr x) (by rw[l];rfl);have f:Hid<|_=_:=a;clear hs a;go_wp2_with fail;go_ret;exact⟨kT f.out.symm,n⟩
structure aak(w:u)(x:V)(D:jM)(vB vL:y)(hs:V->V->I)(vl:V->V->Y):U where
 lt:x<w
 nb:D.nb<=3
 nl:D.nl<=24
 c0:ai w x=some vB
 c4:ai w (x 4 none)=some (au ak<|(D.nb:Y)+1)
 c5:ai w (x 5 none)=some vL
 b:kY w vB 1 D.nb D.fb
 l:sV w vL D.nl D.ts
 t1:∀p k,p<4->k<100->ai w (x (6+p*200+k) none)=some (cF<|hs p k)
 t2:∀p k,p<4->k<100->ai w (x (6+p*200+100+k) none)=some (au ak<|vl p k)
 s0:∀p i,p<4->i<24->ai w (x (806+p*24264+i*1011) none)=some (cF false)
 s2:∀p i,p<4->i<24->ai w (x (806+p*24264+i*1011+2) none)=some (cF false)
 m:∀p q,p<4->q<4->ai w (x (97862+p*4+q) none)=some (ah none 0 0)
def Am(nb:V)(fb:V->Y)(p lo hi:Y):I:=decide ((mo nb fb lo:Y)<=p)&&decide (p<=(mo nb fb hi:Y))
def RN(bk a e:V)(D:jM)(vB vL:y)(p lo hi:Y)(w:u)(h:pD w e D vB vL)(hk:ai w bk=J (ay e))(c:ai w a=J (au ak p)):aA ar 72 #[aK #[lo,hi],ay bk,ay a] w λe d=>e=az (Am D.nb D.fb p lo hi)/\aq w w d:=by
 have b:=h.below<|aJ jQ jK<|ao #[lo,hi] 159;have lk:=bh _ _ hk;have lp:=bh _ _ c;by_cases g:(mo D.nb D.fb lo)<=p;.go_enter gF,gG;go_wp2_with fail;go_quiet((go_at_call 71;exact dE<|Fh _ D vB vL _ _<|b.below<|below_drewN jQ _));go_wp2_with fail;go_ret;exact⟨kT<|by simp[Am,g],below_drewN kI _⟩
 . (have hd:decide ((mo D.nb D.fb lo)<=p)=aj:=by simpa using g);go_enter gF,gG;go_wp2_with fail;go_quiet((go_at_call 71;exact dE<|Fh _ D vB vL _ _<|b.below<|below_drewN jQ _));go_wp2_with fail;go_ret;exact⟨kT<|by simp[Am,hd],below_drewN kI _⟩
def akT(v:y)(n:V)(f:V->Y)(bk l e:V)(D:jM)(vB vL:y)(p:Y)(w:u)(h:pD w e D vB vL)(F:kY w v 1 n f)(hk:ai w bk=J (ay e))(x:ai w l=J (au ak p)):aA ar 114 #[v,bJ (bK 70) #[] #[ay bk,ay l]] w λe s=>∃r:Y,e=az r/\decide (0<=r)=lQ (λi=>(mo D.nb D.fb<|f i:Y)==p) n/\aq w w s:=by
 have lk:=bh _ _ hk;have lp:=bh _ _ x;obtain⟨a,cap,rfl,K,G⟩:=F;go_enter Tryz.func114,Tryz.ntmps114;go_wp2;go_loopw[8](λi wr=>∃k:V,k<=n/\i=k/\lQ (λi=>(mo D.nb D.fb<|f i:Y)==p) k=aj/\aq w w wr)(λi _=>n-(aF i).toNat);exact⟨0,j9,rfl,rfl,jQ⟩;obtain⟨k,H,rfl,z,c⟩:=hrel;by_cases t:k<n;.obtain⟨b,off,rfl,B,g⟩:=G A;(have c0:ai wr (b (off+k) ae)=J (au ak<|f k):=by rw[aQ c B,g _ A]);(have o:ai wr bk=J (ay e):=by rw[aQ c lk];exact hk);(have j:ai wr l=J p:=by rw[aQ c lp];exact x);have q:=λe=>Az z e;cases m:((mo D.nb D.fb<|f k:Y)==p)with|true=>have C:Hid<|_=_:=(λe=>pM t e:((mo D.nb D.fb<|f k:Y)==p)=T->lQ (λi=>(mo D.nb D.fb<|f i:Y)==p) n=T) m;go_wp2_with(go_at_call 70;apply aE (SP bk l e D vB vL p _ _ (h.below c) o j);rintro e s⟨rfl,d⟩);go_ret;refine⟨k,rfl,?_,aO c<|bn d c.size⟩;rw[C.out];simp|false=>have E:Hid<|_=_:=q m;go_wp2_with(go_at_call 70;apply aE (SP bk l e D vB vL p _ _ (h.below c) o j);rintro e s⟨rfl,d⟩);go_roundw;exact⟨k+1,A,pR,E.out,aO c<|bn d c.size⟩;simp[aF];omega
 .go_wp2;go_ret;(have:k=n:=A);subst this;refine⟨-1,rfl,?_,c⟩;rw[z];rfl
def aec(v:y)(n:V)(f:V->Y)(bk l e:V)(D:jM)(vB vL:y)(p:Y)(w:u)(h:pD w e D vB vL)(F:kY w v 2 n f)(hk:ai w bk=J (ay e))(x:ai w l=J (au ak p)):aA ar 115 #[v,bJ (bK 72) #[] #[ay bk,ay l]] w λe s=>∃r:Y,e=az r/\decide (0<=r)=lQ (λi=>Am D.nb D.fb p (f<|2*i)<|f<|2*i+1) n/\aq w w s:=by
 have lk:=bh _ _ hk;have lp:=bh _ _ x;obtain⟨a,cap,rfl,K,G⟩:=F;go_enter Tryz.func115,Tryz.ntmps115;go_wp2;go_loopw[8](λi wr=>∃k:V,k<=n/\i=k/\lQ (λi=>Am D.nb D.fb p (f<|2*i)<|f<|2*i+1) k=aj/\aq w w wr)(λi _=>n-(aF i).toNat);exact⟨0,j9,rfl,rfl,jQ⟩;obtain⟨k,H,rfl,B,c⟩:=hrel;by_cases t:k<n;.obtain⟨b,off,rfl,z,d⟩:=G A;(have c0:ai wr (b (off+k*2) ae)=J (au ak<|f<|2*k):=by rw[aQ c z,d _ A,dk]);(have c1:ai wr (b (off+k*2+1) ae)=J (au ak<|f<|2*k+1):=by rw[aQ c z,cr,d _ A,dk]);(have o:ai wr bk=J (ay e):=by rw[aQ c lk];exact hk);(have j:ai wr l=J p:=by rw[aQ c lp];exact x);have q:=λe=>Az B e;cases m:(Am D.nb D.fb p (f<|2*k)<|f<|2*k+1)with|true=>have C:Hid<|_=_:=(λe=>pM t e:(Am D.nb D.fb p (f<|2*k)<|f<|2*k+1)=T->lQ (λi=>Am D.nb D.fb p (f<|2*i)<|f<|2*i+1) n=T) m;go_wp2_with(go_at_call 72;apply aE (RN bk l e D vB vL p _ _ _ (h.below c) o j);rintro e s⟨rfl,g⟩);go_ret;refine⟨k,rfl,?_,aO c<|bn g c.size⟩;rw[C.out];simp|false=>have E:Hid<|_=_:=q m;go_wp2_with(go_at_call 72;apply aE (RN bk l e D vB vL p _ _ _ (h.below c) o j);rintro e s⟨rfl,g⟩);go_roundw;exact⟨k+1,A,pR,E.out,aO c<|bn g c.size⟩;simp[aF];omega
 .go_wp2;go_ret;(have:k=n:=A);subst this;refine⟨-1,rfl,?_,c⟩;rw[B];rfl
def Ci(D:jM)(p:Y)(n:V)(f:V->Y):I:=lQ (λi=>(mo D.nb D.fb<|f i:Y)==p) n
def JD(D:jM)(p:Y)(n:V)(f:V->Y):I:=lQ (λi=>Am D.nb D.fb p (f<|2*i)<|f<|2*i+1) n
def lY(D:jM)(i:V)(p:Y):I:=if(D i).nr+(D i).nw+(D i).ng=0 then p==0 else Ci D p (D i).nr (D i).r||Ci D p (D i).nw (D i).wr||JD D p (D i).ng (D i).g
def KQ(v:y)(n:V)(f:V->Y)(bk a e:V)(D:jM)(vB vL:y)(p:Y)(w:u)(h:pD w e D vB vL)(i:kY w v 1 n f)(hk:ai w bk=J (ay e))(g:ai w a=J (au ak p)):aA ar 73 #[v,bJ (bK 70) #[] #[ay bk,ay a]] w λe d=>e=az (Ci D p n f)/\aq w w d:=by go_enter Tryz.func73,Tryz.ntmps73;go_wp2_with(go_at_call 114;apply aE (akT _ n f bk a e D vB vL p _ h i hk g);rintro e d⟨r,rfl,c,b⟩;have j:Hid<|_=_:=c;clear c);go_ret;exact⟨kT j.out,b⟩
def ZR(v:y)(n:V)(f:V->Y)(bk a e:V)(D:jM)(vB vL:y)(p:Y)(w:u)(h:pD w e D vB vL)(i:kY w v 2 n f)(hk:ai w bk=J (ay e))(g:ai w a=J (au ak p)):aA ar 74 #[v,bJ (bK 72) #[] #[ay bk,ay a]] w λe d=>e=az (JD D p n f)/\aq w w d:=by go_enter Tryz.func74,Tryz.ntmps74;go_wp2_with(go_at_call 115;apply aE (aec _ n f bk a e D vB vL p _ h i hk g);rintro e d⟨r,rfl,c,b⟩;have j:Hid<|_=_:=c;clear c);go_ret;exact⟨kT j.out,b⟩
def Dy(e:V)(D:jM)(vB vL:y)(i:V)(p:Y)(hi:i<D.nl)(w:u)(h:pD w e D vB vL):aA ar 43 #[ay e,i,p] w λe X=>e=az (lY D i p)/\aq w w X:=by
 have aa:=h.lt;have h0:=h.c0;have h4:=h.c4;obtain⟨a,cap,rfl,hn,m⟩:=id h.l;obtain⟨b,off,rfl,hb,vs,d,R⟩:=m A;have c0:ai w (b (off+i*4) ae)=J (vs<|i*4):=by rw[d _ A]
 have c1:ai w (b (off+i*4+1) ae)=J (vs<|i*4+1):=by rw[cr,d _ A]
 have c2:ai w (b (off+i*4+2) ae)=J (vs<|i*4+2):=by rw[cr,d _ A]
 have c3:ai w (b (off+i*4+3) ae)=J (vs<|i*4+3):=by rw[cr,d _ A]
 have v:=R i hi;generalize vs (i*4)=x0 at*;generalize vs (i*4+1)=x1 at*;generalize vs (i*4+2)=x2 at*;generalize vs (i*4+3)=x3 at*;clear m d R;obtain⟨a0,p0,rfl,m0,-⟩:=id v.r;obtain⟨Q,p1,rfl,m1,-⟩:=id v.wr;obtain⟨H,M,rfl,m2,-⟩:=id v.g;obtain⟨a3,p3,rfl,m3,-⟩:=id v.c;have k:aq w w<|ax (ax (ax w<|ao #[ay e] 122)<|ao #[p] 3)<|ao #[ah a0 (D i).nr p0,ah Q (D i).nw p1,ah H (D i).ng M,ah a3 (D i).nc p3] 91:=yB.alloc Fk _;have F:=h.below k;have o:=v.below k;by_cases S:(D i).nr+(D i).nw+(D i).ng=0;. (have hd:lY D i p=(p==0):=by simp[lY,S]);have B:Hid<|_=_:=hd;(have e1:(((D i).nr:Y)+(D i).nw+(D i).ng==0)=T:=Fk);clear hd;go_enter fi,fj;go_wp2_with fail;go_ret;exact⟨kT B.out.symm,k⟩
 . (have e1:(((D i).nr:Y)+(D i).nw+(D i).ng==0)=aj:=Fk);have B:Hid<|_=_:=(by simp only[lY,BW S]:lY D i p=(Ci D p (D i).nr (D i).r||Ci D p (D i).nw (D i).wr||JD D p (D i).ng (D i).g));cases q1:Ci D p (D i).nr (D i).r with|true=>go_enter fi,fj;go_wp2_with fail;apply aE (KQ _ (D i).nr (D i).r (w) (w.heap.size+1) e D vB _ p _ F o.r (by go_simp)<|by go_simp);rintro C t⟨rfl,j⟩;go_wp2_with fail;go_ret;exact⟨kT<|by rw[B.out,q1];simp,aO k<|bn j Fk⟩|false=>go_enter fi,fj;go_wp2_with fail;apply aE (KQ _ (D i).nr (D i).r (w) (w.heap.size+1) e D vB _ p _ F o.r (by go_simp)<|by go_simp);rintro C t⟨rfl,j⟩;(have z4:w.heap.size+3<=t:=by have:=j.size;simpa using this);have s:=F.below j;have q:=o.below j;have n:=aO k<|bn j Fk;let⟨m,hf⟩:=Jc j;(have K:ai t w=J (ay e):=by rw[m _ _ Fk];go_simp);(have k1:ai t ⟨w.heap.size+1,0,ae⟩=J p:=by rw[m _ _ F0];go_simp);(have j1:ai t ((w.heap.size+2) 1 ae)=J (ah Q (D i).nw p1):=by rw[m _ _ F0];go_simp);(have j2:ai t ((w.heap.size+2) 2 ae)=J (ah H (D i).ng M):=by rw[m _ _ F0];go_simp);cases q2:Ci D p (D i).nw (D i).wr with|true=>go_wp2_with fail;apply aE (KQ _ (D i).nw (D i).wr (w) (w.heap.size+1) e D vB _ p _ s q.wr K k1);rintro C x⟨rfl,f⟩;go_wp2_with fail;go_ret;exact⟨kT<|by rw[B.out,q2];simp,aO n<|bn f A⟩|false=>go_wp2_with fail;apply aE (KQ _ (D i).nw (D i).wr (w) (w.heap.size+1) e D vB _ p _ s q.wr K k1);rintro C x⟨rfl,f⟩;(have z5:w.heap.size+3<=x:=by have:=f.size;omega);have P:=s.below f;have G:=q.below f;have z:=aO n<|bn f A;let⟨m,hf⟩:=Jc f;(have N:ai x w=J (ay e):=by rw[m _ _ A];exact K);(have O:ai x ⟨w.heap.size+1,0,ae⟩=J p:=by rw[m _ _ A];exact k1);(have W:ai x ((w.heap.size+2) 2 ae)=J (ah H (D i).ng M):=by rw[m _ _ A];exact j2);go_wp2_with fail;apply aE (ZR _ (D i).ng (D i).g (w) (w.heap.size+1) e D vB _ p _ P G.g N O);rintro C w6⟨rfl,E⟩;go_wp2_with fail;go_ret;exact⟨kT<|by rw[B.out,q1,q2];simp,aO z<|bn E A⟩
def uq(p:V->I):V->V->V|0,i=>i|m+1,i=>if p i then i else uq p m (i+1)
def D9(D:jM)(p:Y):V:=uq (λi=>lY D i p) D.nl 0
def Ih{p:V->I}:∀(m i k:V),i<=k->k<i+m->(∀j,i<=j->j<k->p j=aj)->p k=T->uq p m i=k|0,i,k,c,d,_,_=>by omega|m+1,i,k,c,d,b,a=>by unfold uq;by_cases e:i=k;(.subst e;rw[rW a]);.rw[BW<|by simp[b i jK A]];exact Ih m (i+1) k A A (λj h f=>b j A f) a
def G8{p:V->I}:∀(m i:V),(∀j,i<=j->j<i+m->p j=aj)->uq p m i=i+m|0,i,_=>rfl|m+1,i,h=>by unfold uq;rw[BW<|by simp[h i jK A],G8 m (i+1) λj a b=>h j A A];omega
def abq(e:V)(D:jM)(vB vL:y)(p:Y)(w:u)(h:pD w e D vB vL):aA ar 102 #[ay e,p,kQ] w λe n=>e=az (D9 D p:V)/\aq w w n:=by
 have r:=h.lt;obtain⟨a,cap,rfl,t,-⟩:=id h.l;go_enter gH,gI;go_wp2;go_loopw[7](λi wr=>∃k:V,k<=D.nl/\i=k/\lQ (λi=>lY D i p) k=aj/\aq w w wr)(λi _=>D.nl-(aF i).toNat);exact⟨0,j9,rfl,rfl,jQ⟩;obtain⟨k,hk,rfl,m,b⟩:=hrel;have f:=h.below b;have c4:=f.c4;by_cases d:k<D.nl;.cases o:lY D k p with|true=>have g:Hid<|D9 D p=k:=Ih D.nl 0 k A A (λj _ q=>Vu m j q) o;go_wp2_with(go_at_call 43;apply aE (Dy _ D vB _ k p d _ f);rintro s n⟨rfl,c⟩);go_ret;exact⟨by rw[g.out];rfl,aO b<|bn c b.size⟩|false=>go_wp2_with(go_at_call 43;apply aE (Dy _ D vB _ k p d _ f);rintro s n⟨rfl,c⟩);go_roundw;exact⟨k+1,A,pR,Az m o,aO b<|bn c b.size⟩;simp[aF];omega
 . (have g:Hid<|D9 D p=D.nl:=by have:=G8 D.nl 0 λj _ q=>Vu m j A;simpa[D9,Hid]using this);go_wp2_with fail;go_ret;exact⟨by rw[g.out];rfl,b⟩
section
variable(x:V)(D:jM)(vB vL:y)(hs:V->V->I)(vl:V->V->Y)(w:u)
def tJ(b:I)(n:Y):Y:=if b then 0 else n
def YO{b:I}{n:Y}(h:b=T):tJ b n=0:=by rw[h];rfl
def QY{b:I}{n:Y}(h:b=aj):tJ b n=n:=by rw[h];rfl
def oH(nb:V)(p q:Y):I:=jF p 0 nb&&jF q 0 nb&&!(p==q)
end
def EO(b:I)(n:Y):Y:=if b then n else 0
def ZY{b:I}{n:Y}(h:b=T):EO b n=n:=by rw[h];rfl
def NM{b:I}{n:Y}(h:b=aj):EO b n=0:=by rw[h];rfl
def Tryz.CP:(Tryz.prog.info? 81).map (λi=>(i.zero,i.size,i.bytes))=J (J<|aK #[au ak 0,au ak 0],2,16):=vI
def vf(hs:V->I)(vl:V->Y):V->L y|0=>[]|k+1=>vf hs vl k++(if hs k then[au ak k,au ak<|vl k]else[])
def Xo{hs:V->I}{vl:V->Y}{k:V}(h:hs k=T):vf hs vl (k+1)=vf hs vl k++[au ak k,au ak<|vl k]:=by simp[vf,h]
def Sj{hs:V->I}{vl:V->Y}{k:V}(h:hs k=aj):vf hs vl (k+1)=vf hs vl k:=by simp[vf,h]
end
section
open Go.RowKit Go.Maps
def Bi:Keyed ar 3:=int_keyed bV
def JW(w:u):(zeroValue 3).run ar w=.ok (au ak 0) w:=vI
def B9{n:V}(h:n<100):(aT ak (n:Y)).wf=T:=by exact WalkArith.wf_i64 A
def abv{k:IntKind}{a b:Y}(h:(DataW.lit<|aT k a:dL Unit)=.lit (aT k b)):a=b:=pC
def O0(a:dL Unit)(hs:V->I)(vl:V->Y):U:=∀k:V,k<100->Maps.has a (aT ak k)=hs k/\(hs k=T->a.atKey (aT ak k) (.lit<|aT ak 0)=.lit (aT ak<|vl k))
end
section
open Go.RowKit
def Cq(j:V):y:=if j%6<2 then aj else kQ
def H3(e:V)(D:jM)(vB vL:y)(p:Y)(w:u)(h:pD w e D vB vL):aA ar 42 #[ay e,p] w λe c=>e=az (jF p 0<|D.nl-1)/\c=w:=by
 obtain⟨a,cap,rfl,f,g⟩:=id h.l;have d:=h.c4;by_cases b:0<=p;.go_enter gJ,gM;go_wp2_with fail;go_ret;refine⟨kT ?_,rfl⟩;rw[jF,decide_eq_true b,gE,decide_eq_decide];omega
 .go_enter gJ,gM;go_wp2_with fail;go_ret;exact⟨kT<|by simp[jF,(by simpa using b:decide (0<=p)=aj)],rfl⟩
def Gl(e:V)(D:jM)(vB vL:y)(p q:Y)(w:u)(h:pD w e D vB vL):aA ar 40 #[ay e,p,q] w λe a=>e=az (oH D.nb p q)/\a=w:=by cases q1:jF p 0 D.nb with|false=>go_enter fl,fo;go_wp2_with(go_at_call 38;apply(CN _ D vB vL _ _ h).to);go_ret;exact⟨kT<|by simp[oH,q1],rfl⟩|true=>cases q2:jF q 0 D.nb with|false=>go_enter fl,fo;go_wp2_with(go_at_call 38;apply(CN _ D vB vL _ _ h).to);go_ret;exact⟨kT<|by simp[oH,q2],rfl⟩|true=>go_enter fl,fo;go_wp2_with(go_at_call 38;apply(CN _ D vB vL _ _ h).to);go_ret;refine⟨kT ?_,rfl⟩;simp[oH,q1,q2,bne]
structure jq(S:V->U)(w w':u):U where
 jB:w<=w'.heap.size
 jg:∀b,S b->b<w.heap.size->w'.heap[b]?=w.heap[b]?
def jq.nH(S:V->U)(w:u):jq S w w:=⟨jK,λ_ _ _=>rfl⟩
def mQ{S:V->U}{w:u}:jq S w w:=jq.nH _ _
def jq.jA{S:V->U}{w:u}(h:jq S w j)(c:jq S j k):jq S w k:=⟨bP h.jB c.jB,λb hs a=>bD (c.jg b hs<|bG a h.jB)<|h.jg b hs a⟩
def jq.km{S:V->U}{w:u}(h:aq w w j):jq S w j:=⟨h.size,λb _ a=>h.block b a⟩
def jq.kZ{S:V->U}{w W:u}(h:jq S j w)(b:aq w w W):jq S j W:=h.jA<|.km b
def jq.jh{S S':V->U}{w:u}(h:jq S w j)(hs:∀b,S' b->S b):jq S' w j:=⟨h.jB,λb c a=>h.jg b (hs b c) a⟩
def jq.lP{S:V->U}{w:u}(h:jq S w j)(o:Obj):jq S w<|ax j o:=h.jA ⟨F0,λb _ a=>eN _ _ _ a⟩
def jq.jl{S:V->U}{w:u}(h:jq S w j){a:aZ}(d:¬S a.block)(c:y):jq S w<|j a c:=h.jA ⟨F0,λb hs _=>bE _ _ _ _ λe=>d<|e▸hs⟩
def jq.DH{S:V->U}{w:u}(h:jq S w j)(n:V):jq S w<|j.drewN n:=⟨h.jB,h.jg⟩
def jq.jP{S:V->U}{w:u}(h:jq S w j){b:V}(hs:S b)(a:b<w)(o:V):ai j (b o ae)=ai w (b o ae):=fp<|h.jg b hs a
def jq.Pm{S:V->U}{w w1:u}{row:n6 V}(h:jq S w w1)(a:w1.grownBy j row)(d:∀k,row=J k->¬S k):jq S w j:=h.jA ⟨a.size,λb hs c=>a.block b c λe=>d b e.symm hs⟩
def lj(S:V->U)(w:u)(v:y)(k n:V)(f:V->Y):U:=∃a cap,v=ah a n cap/\n<=1048577/\(0<n->∃b off,a=J ⟨b,off,ae⟩/\S b/\b<w.heap.size/\∀j,j<n*k->ai w ⟨b,off+j,ae⟩=J (au ak<|f j))
def lj.rd{S:V->U}{w:u}{v:y}{k n:V}{f:V->Y}(h:lj S w v k n f):kY w v k n f:=by obtain⟨a,cap,rfl,b,d⟩:=h;refine⟨a,cap,rfl,b,λc=>?_⟩;grind
def lj.jr{S:V->U}{w w':u}{v:y}{k n:V}{f:V->Y}(h:lj S w v k n f)(hk:jq S w w'):lj S w' v k n f:=by obtain⟨a,cap,rfl,g,l⟩:=h;refine⟨a,cap,rfl,g,λi=>?_⟩;obtain⟨b,off,rfl,hs,d,c⟩:=l i;exact⟨b,off,rfl,hs,bG d hk.jB,λj e=>by rw[hk.jP hs d];exact c j e⟩
def lj.jh{S S':V->U}{w:u}{v:y}{k n:V}{f:V->Y}(h:lj S w v k n f)(hs:∀b,S b->S' b):lj S' w v k n f:=by obtain⟨a,cap,rfl,c,e⟩:=h;refine⟨a,cap,rfl,c,λd=>?_⟩;grind
def lj.lt{S:V->U}{w:u}{v:y}{k n:V}{f:V->Y}(h:lj S w v k n f):lj (λb=>S b/\b<w) w v k n f:=by obtain⟨a,cap,rfl,c,e⟩:=h;refine⟨a,cap,rfl,c,λd=>?_⟩;grind
def kY.uC{w:u}{v:y}{k n:V}{f:V->Y}(h:kY w v k n f):lj (λb=>b<w) w v k n f:=by obtain⟨a,cap,rfl,c,e⟩:=h;refine⟨a,cap,rfl,c,λd=>?_⟩;grind
structure uM(S:V->U)(w:u)(a b c d:y)(t:jE):U where
 r:lj S w a 1 t.nr t.r
 wr:lj S w b 1 t.nw t.wr
 g:lj S w c 2 t.ng t.g
 c:lj S w d 4 t.nc t.c
def uM.rd{S:V->U}{w:u}{a b c d:y}{t:jE}(h:uM S w a b c d t):oL w a b c d t:=⟨h.r.rd,h.wr.rd,h.g.rd,h.c.rd⟩
def uM.jr{S:V->U}{w w':u}{a b c d:y}{t:jE}(h:uM S w a b c d t)(hk:jq S w w'):uM S w' a b c d t:=⟨h.r.jr hk,h.wr.jr hk,h.g.jr hk,h.c.jr hk⟩
def uM.jh{S S':V->U}{w:u}{a b c d:y}{t:jE}(h:uM S w a b c d t)(hs:∀b,S b->S' b):uM S' w a b c d t:=⟨h.r.jh hs,h.wr.jh hs,h.g.jh hs,h.c.jh hs⟩
def oL.uC{w:u}{a b c d:y}{t:jE}(h:oL w a b c d t):uM (λb=>b<w) w a b c d t:=⟨h.r.uC,h.wr.uC,h.g.uC,h.c.uC⟩
def oU(S:V->U)(w:u)(v:y)(n:V)(ts:V->jE):U:=∃a cap,v=ah a n cap/\n<=1048577/\(0<n->∃b off,a=J ⟨b,off,ae⟩/\S b/\b<w.heap.size/\∃vs:V->y,(∀j,j<n*4->ai w ⟨b,off+j,ae⟩=J (vs j))/\∀i,i<n->uM S w (vs<|i*4) (vs<|i*4+1) (vs<|i*4+2) (vs<|i*4+3) (ts i))
def oU.rd{S:V->U}{w:u}{v:y}{n:V}{ts:V->jE}(h:oU S w v n ts):sV w v n ts:=by obtain⟨a,cap,rfl,e,j⟩:=h;refine⟨a,cap,rfl,e,λg=>?_⟩;obtain⟨b,off,rfl,_,d,vs,c,f⟩:=j g;exact⟨b,off,rfl,d,vs,c,λi hi=>(f i hi).rd⟩
def oU.jr{S:V->U}{w w':u}{v:y}{n:V}{ts:V->jE}(h:oU S w v n ts)(hk:jq S w w'):oU S w' v n ts:=by obtain⟨a,cap,rfl,f,l⟩:=h;refine⟨a,cap,rfl,f,λk=>?_⟩;obtain⟨b,off,rfl,hs,d,vs,c,g⟩:=l k;exact⟨b,off,rfl,hs,bG d hk.jB,vs,λj e=>by rw[hk.jP hs d];exact c j e,λi hi=>(g i hi).jr hk⟩
def oU.jh{S S':V->U}{w:u}{v:y}{n:V}{ts:V->jE}(h:oU S w v n ts)(hs:∀b,S b->S' b):oU S' w v n ts:=by obtain⟨a,cap,rfl,f,k⟩:=h;refine⟨a,cap,rfl,f,λj=>?_⟩;obtain⟨b,off,rfl,e,d,vs,c,g⟩:=k j;exact⟨b,off,rfl,hs b e,d,vs,c,λi hi=>(g i hi).jh hs⟩
def uM.lt{S:V->U}{w:u}{a b c d:y}{t:jE}(h:uM S w a b c d t):uM (λb=>S b/\b<w) w a b c d t:=⟨h.r.lt,h.wr.lt,h.g.lt,h.c.lt⟩
def oU.lt{S:V->U}{w:u}{v:y}{n:V}{ts:V->jE}(h:oU S w v n ts):oU (λb=>S b/\b<w) w v n ts:=by obtain⟨a,cap,rfl,f,k⟩:=h;refine⟨a,cap,rfl,f,λj=>?_⟩;obtain⟨b,off,rfl,e,d,vs,c,g⟩:=k j;exact⟨b,off,rfl,⟨e,d⟩,d,vs,c,λi hi=>(g i hi).lt⟩
def NF{w:u}{base e k n:V}{v:y}{f:V->Y}(h:aH w base e k v n W)(l:n<=1048577)(i:∀j,j<n*k->W[j]?=J (au ak<|f j)):lj (λb=>base<=b) w v k n f:=by
 let⟨s,q⟩:=h;obtain⟨rfl,rfl⟩|⟨g,cap,r,rfl,m,c,p,x,hs,o⟩:=q;.exact⟨_,_,rfl,A,λt=>A⟩
 .refine⟨_,_,rfl,l,λ_=>⟨g,0,rfl,m,(bY.1 c).1,λj a=>?_⟩⟩;have d:=i j a;rw[<-o,cd,rW a,dK]at d;simp[ai,c,d]
structure Uu(S:V->U)(w:u)(x:V)(D:jM)(vB vL:y)(hs:V->V->I)(vl:V->V->Y):U where
 vz:aak w x D vB vL hs vl
 sx:S x
 sb:lj S w vB 1 D.nb D.fb
 sl:oU S w vL D.nl D.ts
def Wu{w:u}{c:V->y}(h:je w v d 4 c)(x e z f:y):∃W,w v x (v 1 ae) e (v 2 ae) z (v 3 ae) f=W/\je W v d 4 (lc [x,e,z,f])/\jq (λb=>b≠v) w W/\∀G,G<=v->aq G w W:=⟨_,rfl,((((h.jl 0 x).jl 1 e).jl 2 z).jl 3 f).jY λj g=>by match j,g with|0,_|1,_|2,_|3,_=>rfl,((((jq.nH _ _).jl F0 _).jl F0 _).jl F0 _).jl F0 _,λG a=>bC (bC (bC (bC jQ a _) a _) a _) a _⟩
def JJ{w:u}{a:n6 aZ}{n p k:V}{f:V->Y}(h:kY w (ah a n p) k n f)(e:a=ae):n=0:=by
 let⟨_,_,c,_,d⟩:=h;cases c;obtain b|b:=Nat.eq_zero_or_pos n;.exact b
 .let⟨_,_,e2,_⟩:=d b;rw[e]at e2;cases e2
end
section
open Go.RowKit Go.Maps
def Tryz.EF:(Tryz.prog.info? 3).map (λi=>(i.zero,i.size,i.bytes))=J (J<|au ak 0,1,8):=vI
def Tryz.Ko:(Tryz.prog.info? 159).map (λi=>(i.zero,i.size,i.bytes))=J (J<|aK #[kQ,kQ],2,16):=vI
def Tryz.JH:(Tryz.prog.info? 161).map (λi=>(i.zero,i.size,i.bytes))=J (J<|aK Jk,4,32):=vI
def Tryz.Qh:(Tryz.prog.info? 91).map (λi=>(i.zero,i.size,i.bytes))=J (J<|aK FQ,4,96):=vI
def KY{P:bO}{e:aU}{z:y}{size bytes:V}(h:(P.info? e).map (λi=>(i.zero,i.size,i.bytes))=J (J z,size,bytes)):(P.info? e).map (·.size)=J size:=by let⟨i,hi,_,a,_⟩:=bI h;simp[hi,a]
def mD(n:V)(f:V->Y)(j:V):Y:=if j<n then f j else 0
def QH(v:y)(n:V)(f:V->Y)(w:u)(h:kY w v 1 n f):aA ar 24 #[v] w λe g=>e=az (ah w (n+1)<|n+1)/\je g w 3 (n+1) (ld<|mD n f)/\g=w.heap.size+1/\aq w w g:=by obtain⟨a,cap,rfl,q,-⟩:=id h;go_enter Tryz.func24,Tryz.ntmps24;go_wp2_with(at_make;apply adx rfl _ _ 22 rfl 3 kQ 1 8 gQ Tryz.EF _ _ (n+1) rfl rfl rfl rfl A (by unfold bu;omega) (λ_=>kQ) (λj _=>by simp[cY,Nat.mod_one]);intro w1 d k m;let⟨p,l,b,c,o,i⟩:=Kb 22 22 3 gQ 1 (KY Tryz.EF) w (n+1) (n+1) _ n A 3 _ _ d A (ld f) (h.below m).src);go_ret;refine⟨rfl,(b.Mj<|cD _).jY λj _=>?_,bD c k,aO m i⟩;simp[ld,mD,cD];split<;>rfl
def oA(n:V)(w:u)(b:V)(hs:V->I)(vl:V->Y):U:=∃a:dL Unit,w.ownsMap ar 3 (plainElem ar 3) b n a/\O0 a hs vl
def oA.jg{n:V}{w w':u}{b:V}{hs:V->I}{vl:V->Y}(h:oA n w b hs vl)(f:w'.heap[b]?=w.heap[b]?):oA n w' b hs vl:=by let⟨c,⟨e,a,g,d⟩,hd⟩:=h;exact⟨c,⟨e,a,by rwa[f],d⟩,hd⟩
def oA.mq{n:V}{w:u}{b:V}{hs:V->I}{vl:V->Y}(h:oA n w b hs vl):oA (n+1) w b hs vl:=by let⟨c,a,hd⟩:=h;exact⟨c,a.mono A,hd⟩
def oA.jY{n:V}{w:u}{b:V}{hs c:V->I}{vl a:V->Y}(h:oA n w b hs vl)(e1:∀k,k<100->hs k=c k)(e2:∀k,k<100->hs k=T->vl k=a k):oA n w b c a:=by let⟨e,f,hd⟩:=h;refine⟨e,f,λk hk=>?_⟩;let⟨d,g⟩:=hd k hk;exact⟨bD d<|e1 k hk,λh=>by rw[<-e2 k hk<|bD (e1 k hk) h];exact g<|bD (e1 k hk) h⟩
def SY(w:u):oA 0 (ax w<|.map #[] 0) w (λ_=>aj) λ_=>0:=⟨.map [],World.ownsMap_made _ _ _ _,λk _=>⟨rfl,λh=>by cases h⟩⟩
def agF(w:u):aA ar 83 #[] w λe a=>∃m,e=az (aK #[bH<|J m])/\w<=m/\m<a/\oA 0 a m (λ_=>aj) (λ_=>0)/\aq w w a:=by
 have b:=@run_makeMap ar;go_enter Tryz.func83,Tryz.ntmps83;go_wp2_with fail;refine fq (v:=aK #[bH<|J<|w.heap.size+1]) (by simp[ft,Tryz.results83,go_sem]) rfl ⟨_,rfl,A,F0,?_,?_⟩;.have:=SY<|ax w<|ao #[bH<|J<|w.heap.size+1] 121;simpa using this
 .exact yB
def aiv(e:V)(D:jM)(vB vL:y)(k:Y)(w:u)(h:pD w e D vB vL):aA ar 84 #[ay e,k] w λr d=>r=az (aK #[ay e,k,(D9 D k:V),jw])/\aq w w d:=by have a:aq w w<|ax w<|ao #[ay ae,kQ,kQ,jw] 125:=kI;go_enter Tryz.func84,Tryz.ntmps84;go_wp2_with fail;apply aE (abq _ D vB vL k _<|h.below a);rintro r w1⟨rfl,b⟩;have r1:=(lZ w [ay ae,kQ,kQ,jw] 125).below b;have d0:=r1.el 0;have d1:=r1.el 1;have d2:=r1.el 2;have d3:=r1.el 3;have g:=r1.kr;generalize c:((D9 D k))=N at*;have f:Hid<|_=_:=c;go_wp2_with fail;exact fq (v:=aK #[ay e,k,N,jw]) (by simp[ft,Tryz.results84,go_sem,d0,d1,d2,d3]) rfl ⟨by rw[<-f.out],bC (bC (bC (bC (aO a<|bn b F0) jK _) jK _) jK _) jK _⟩
def jd(f:V->G)(k:V)(x:G)(j:V):G:=if j=k then x else f j
def ki(f:V->G)(k:V)(x:G):jd f k x k=x:=rW rfl
def j8(f:V->G){k:V}(x:G)(h:v≠k):jd f k x v=f v:=BW h
def Yo(K off b:V)(hs:V->I)(vl:V->Y)(k:V)(x:Y)(w:u)(hk:k<100)(i:(aT ak x).wf=T)(n:V)(p:n<=40)(q:ai w (K off ae)=J (bH b))(m:oA n w b hs vl):aA ar 85 #[ay<|K off ae,k,x] w λe g=>e=az (bj #[])/\oA (n+1) g b (jd hs k T) (jd vl k x)/\w.grownBy g b:=by
 let⟨r,a,o⟩:=m;go_enter Tryz.func85,Tryz.ntmps85;go_wp2_with(at_mapUpdate;refine gR _ rfl _ _ _ 119 rfl 3 3 Bi dM _ b n _ rfl a (by unfold bu;omega) _ _ _ rfl rfl (dN bV<|B9 hk) _ [] (fu bV i) ?_;intro w1 d c);go_end0;refine⟨rfl,⟨_,d,λj l=>?_⟩,c⟩;by_cases e:j=k;.subst e;rw[ki,ki];exact⟨gS a.isMap (by simp[eh]) _,λ_=>gT a.isMap (by simp[eh]) _ _⟩
 . (have f:(aT ak<|j)≠aT ak (k):=by intro h;injection h with _ h;exact e A);rw[j8 _ _ e,j8 _ _ e,gU f,gV f];exact o j l
def Tryz.akZ:(Tryz.prog.info? 131).map (λi=>(i.zero,i.size,i.bytes))=J (J<|aK #[bH ae,ay ae,kQ,kQ,jw,jw,jw,jw,jw,jw],10,176):=vI
def qJ(nb:V)(fb:V->Y)(fs:V->Y):V->V->V->I|0,_,_=>aj|n+1,p,k=>if mo nb fb (fs<|2*n)=p/\fs (2*n)=k then T else qJ nb fb fs n p k
def qQ(nb:V)(fb:V->Y)(fs:V->Y):V->V->V->Y|0,_,_=>0|n+1,p,k=>if mo nb fb (fs<|2*n)=p/\fs (2*n)=k then fs (2*n+1)else qQ nb fb fs n p k
def aeM(nb:V)(fb:V->Y)(x:Y):mo nb fb x<=nb:=wj _ _
def je.alL{w:u}{g m:V}{c:V->y}(h:je w g v m c){n b:V}{hs:V->I}{vl:V->Y}(i:oA n w b hs vl):g≠b:=by intro e;subst e;let⟨j,f,_⟩:=h;let⟨_,⟨k,a,d,_⟩,_⟩:=i;rw[f]at d;cases d
def NT(r:V):y:=if r=0 then bH ae else if r=1 then ay ae else if r=2\/r=3 then kQ else jw
def Dr(D:jM)(e:V)(M:V->V)(p r:V):y:=if r=0 then bH (M p)else if r=1 then ay e else if r=2 then(p:V)else if r=3 then(D9 D (p:Y):V)else jw
def sD(D:jM)(e:V)(M:V->V)(k:V)(j:V):y:=if j<k*10 then Dr D e M (j/10) (j%10)else NT (j%10)
def Nv(D:jM)(e:V)(M:V->V){k p r:V}(h:p<k)(a:r<10):sD D e M k (p*10+r)=Dr D e M p r:=by unfold sD;rw[nD,show(p*10+r)/10=p from A,show(p*10+r)%10=r from A]
def alN(D:jM)(e:V)(M:V->V)(k m:V)(f:V->y)(c:∀r,r<10->f (k*10+r)=Dr D e (jd M k m) k r)(b:∀j,j<k*10\/k*10+10<=j->f j=sD D e M k j)(j:V):f j=sD D e (jd M k m) (k+1) j:=by
 by_cases a:j<k*10;.rw[b j<|aP a];unfold sD;rw[rW a,nD];unfold Dr;rw[j8 _ _ A]
 .by_cases d:j<k*10+10;(.obtain⟨r,rfl⟩:∃r,j=k*10+r:=⟨j-k*10,A⟩;rw[c r A,Nv _ _ _ A A]);.rw[b j<|aN A];unfold sD;rw[BW a,jz]
def Bh(w:u)(b:V):U:=∃x t fr,w.heap[b]?=J (ao x t fr)
def vg(w:u)(v:y)(sz n:V)(d:L y):U:=∃a cap,v=ah a n cap/\d=n*sz/\(∀c∈d,c.oneCell'=T)/\((a=ae->n=0/\cap=0)/\∀b,a=J b->Bh w b.block)/\∀b,a=J b->(n≠0->b.spot=ae/\b.block<w)/\∀j c,d[j]?=J c->ai w (b.add j)=J c
def vg.below{w w':u}{v:y}{sz n:V}(h:vg w v sz n W)(c:aq w w w'):vg w' v sz n W:=by obtain⟨a,cap,rfl,k,o,g,d⟩:=h;refine⟨a,cap,rfl,k,o,⟨g.1,λb e=>by let⟨x,t,fr,l⟩:=g.2 b e;exact⟨x,t,fr,by rwa[c.block _ (bY.1 l).1]⟩⟩,λb e=>⟨λf=>⟨((d b e).1 f).1,bG ((d b e).1 f).2 c.size⟩,λj i m=>?_⟩⟩;have:=(d b e).2 j i m;rw[<-this];exact aQ c<|bh _ _ this
def Ke{w:u}{base:V}{e:aU}{sz n:V}{v:y}(h:aH w base e sz v n W)(b:∀f∈W,f.oneCell'=T):vg w v sz n W:=by
 obtain⟨rfl,rfl⟩|⟨g,cap,d,rfl,_,c,_⟩:=h.2;.exact⟨ae,0,rfl,h.1,b,⟨λ_=>⟨rfl,rfl⟩,λa e=>by cases e⟩,λa e=>by cases e⟩
 .refine⟨g,cap,rfl,h.1,b,⟨λe=>(by cases e),λa e=>by cases e;exact⟨_,_,_,c⟩⟩,λa e=>?_⟩;cases e;exact⟨λ_=>⟨rfl,(bY.1 c).1⟩,h.cells rfl⟩
def aco(w:u)(sz:V):vg w jw sz 0 []:=⟨ae,0,rfl,F0,F0,⟨λ_=>⟨rfl,rfl⟩,λa e=>by cases e⟩,λa e=>by cases e⟩
def qy:L (V×Y)->L y|[]=>[]|p::l=>p.1::p.2::qy l
def LW(l m:L<|V×Y):qy (l++m)=qy l++qy m:=by induction l with|nil=>rfl|cons p l a=>simp[qy,a]
def OY(l:L<|V×Y):∀a∈qy l,a.oneCell'=T:=by induction l with|nil=>simp[qy]|cons p l b=>simp only[qy,List.mem_cons];rintro a(rfl|rfl|h)<;>first|rfl|exact b a h
def Xt{l:L<|V×Y}{k:V}{p:V×Y}(h:l[k]?=J p):(qy l)[k*2]?=J (au ak p.1)/\(qy l)[k*2+1]?=J (au ak p.2):=by induction l generalizing k with|nil=>simp at h|cons q l a=>cases k with|zero=>simp at h;subst h;simp[qy]|succ k=>have:=a (by simpa using h);rwa[show(k+1)*2=k*2+1+1 by omega,show k*2+1+1+1=k*2+1+1+1 from rfl]
abbrev uk(w:u)(v:y)(l:L<|V×Y):U:=vg w v 2 l<|qy l
structure kU where
 fr:V
 jb:V
 ps:L<|V×Y
inductive xv(w:u):L y->L kU->U|nil:xv w [] []|cons{p:kU}{pv:y}{xs:L y}{l:L kU}(h:uk w pv p.ps)(hs:xv w xs l):xv w (p.fr::p.jb::pv::xs)<|p::l
def xv.kZ{w:u}{l:L kU}(h:xv w W l)(a:aq w w j):xv j W l:=by induction h with|nil=>exact .nil|cons h _ b=>exact .cons (h.below a) b
def xv.get{w:u}{l:L kU}(h:xv w W l){k:V}{p:kU}(b:l[k]?=J p):∃a,W[k*3]?=J (au ak p.fr)/\W[k*3+1]?=J (au ak p.jb)/\W[k*3+2]?=J a/\uk w a p.ps:=by induction h generalizing k with|nil=>simp at b|@cons q a W l h hs c=>grind
def z9(w:u)(v:y)(l:L kU):U:=∃a,vg w v 3 l a/\xv w a l
def z9.below{w w':u}{v:y}{l:L kU}(h:z9 w v l)(a:aq w w w'):z9 w' v l:=by let⟨c,d,b⟩:=h;exact⟨c,d.below a,b.kZ a⟩
def nZ(i:V)(l:L kU):L<|V×Y:=(l.filter λp=>p.jb==i).flatMap (·.ps)
def ahO{i:V}{l:L kU}{k:V}{p:kU}(h:l[k]?=J p)(a:(p.jb==i)=T):nZ i (l.take<|k+1)=nZ i (l.take k)++p.ps:=by rw[dO,h];simp[nZ,ej,a]
def YV{i:V}{l:L kU}{k:V}{p:kU}(h:l[k]?=J p)(a:(p.jb==i)=aj):nZ i (l.take<|k+1)=nZ i (l.take k):=by rw[dO,h];simp[nZ,ej,a]
def WY(i:V)(l:L kU)(h:∀p∈l,p.ps.length<=100):(nZ i l)<=l.length*100:=by induction l with|nil=>simp[nZ]|cons p l a=>have c:=a λq b=>h q (by simp[b]);have d:=h p F0;unfold nZ at*;grind
def ali(K off i:V)(X:y)(l:L kU)(w:u)(hc:ai w (K (off+4) ae)=J X)(hT:z9 w X l)(hl:l.length<=200)(F:∀p∈l,p.ps.length<=100):aA ar 135 #[ay<|K off ae,i] w λe w'=>∃v,e=az v/\aH w' w 81 2 v (nZ i l) (qy<|nZ i l)/\aq w w w':=by
 let⟨i0,hi,W,R,P⟩:=bI Tryz.CP;have am:K<w:=bh _ _ hc;let⟨xs,hV,hP⟩:=hT;obtain⟨a,cap,rfl,al,ac,s,x⟩:=id hV;go_enter Tryz.func135,Tryz.ntmps135;go_wp2_with fail;go_loopw[5,13](λv j wr=>∃k:V,k<=l/\j=k/\aH wr w 81 2 v (nZ i<|l.take k) (qy<|nZ i<|l.take k)/\aq w w wr)(λ_ j _=>l-(aF j).toNat);exact⟨0,j9,rfl,dP _ _ _ _,jQ⟩;obtain⟨k,hk,rfl,c,f⟩:=hrel;by_cases Q:k<l;.obtain⟨p,z⟩:∃p,l[k]?=J p:=⟨l[k],by simp[Q]⟩;let⟨pv,x0,x1,x2,S⟩:=(hP.kZ f).get z;cases a with|none=>exact zW (s.1 rfl).1 A|some ad=>let⟨h1,N⟩:=x ad rfl;let⟨C,d⟩:=h1 A;let⟨b,o,sp⟩:=ad;simp only at C d;subst C;(have y0:ai wr (b (o+k*3) ae)=J (au ak p.fr):=by have:=N _ _ x0;rw[qn]at this;rw[aQ f d];exact this);(have y1:ai wr (b (o+k*3+1) ae)=J (au ak p.jb):=by have:=N _ _ x1;rw[qn]at this;rw[aQ f d];exact this);(have y2:ai wr (b (o+k*3+2) ae)=J pv:=by have:=N _ _ x2;rw[qn]at this;rw[aQ f d];exact this);have M:=WY i (l.take k) λp z=>F p<|gW z;rw[List.length_take]at M;have aw:=F p<|cj z;(have aa:(k:Y)<(l:Y):=A);(have aC:(0:Y)<=(k:Y):=A);have q:=f.size;obtain⟨pa,m,rfl,E,D,t,n⟩:=S;cases hq:(p.jb==i)with|false=>have hB:Hid<|_=_:=YV z hq;(have aB:((p.jb:Y)==(i:Y))=aj:=pC);go_wp2_with fail;go_roundw;exact⟨k+1,A,pR,by rw[hB.out];exact c.alloc _,aJ f q _⟩;simp[aF];omega|true=>have hB:Hid<|_=_:=ahO z hq;(have av:((p.jb:Y)==(i:Y))=T:=pC);cases pa with|none=>let⟨z1,z2⟩:=t.1 rfl;rw[dQ z1]at hB;rw[z1,z2]at y2;go_wp2_with(at_builtin;apply gX rfl _ _ 26 rfl w 81 i0 2 dR hi _ _ _ rfl (c.alloc _) rfl);go_roundw;exact⟨k+1,A,pR,by rw[hB.out,gY];exact c.alloc _,aJ f q _⟩;simp[aF];omega|some h=>have pc:=(n h rfl).2;(have O:∀j H,(qy p.ps)[j]?=J H->ai (ax wr<|ao #[p.fr,p.jb,ah h p.ps m] 195) (h.add j)=J H:=by intro j H hj;have:=pc j H hj;rw[gZ _ _ _<|bh _ _ this];exact this);go_wp2_with(at_builtin;apply hJ _ rfl _ _ 26 rfl w 81 i0 (aK #[kQ,kQ]) 2 16 dR hi W R P rfl E1 _ _ _ rfl (c.alloc _) h p.ps m (qy p.ps) rfl E O D (by unfold bu;omega) A Fk;intro v' w2 g r _);have G:=(aJ f q _).grown r Fk λb hb=>(c.lt b hb).1;rw[<-LW]at g;go_wp2_with fail;go_roundw;exact⟨k+1,A,pR,by rw[hB.out,cG];exact g,G⟩;simp[aF];omega
 . (have B:k=l:=A);rw[B,fw]at c;(have an:¬(k:Y)<(l:Y):=A);clear B;go_wp2_with fail;go_ret;simp_all
section
variable{P:bO}{w:u}{ops:Z aM}{rest:L aM}{o:aM}{a:Act}{Q:cO->Act->u->U}
def Nf(k:o.guard=ae)(s x:dW)(t e:aU)(i:o.op=.call {callee:=.builtin ia,args:=#[s,x],argTypes:=#[t,e]})(d f:y)(hs:a.eval s=d)(j:a.eval x=f)(h:y)(g:u)(b:∀ty,(bN #[t,e] ty #[d,f]).run P w=.ok h g)(l:dy P ops Q rest (a.put o.dst h) g):dy P ops Q (o::rest) a w:=by refine eQ k λK c=>?_;unfold cU cV;simp[i,resolve,invoke,builtin,Sem.run_bind,Sem.run_pure,Result.andThen_ok,ib,dt,fx,hs,j,b];exact c _ _ l
def afH(w:u)(t j ty e:aU)(k:IntKind)(i:ek)(z:y)(s:cT P t=J (.slice e))(c:cT P j=J (.int k))(hi:P.info? e=J i)(q:i.zero=J z)(n:V)(B:0<n)(hs:0<i.size)(b:n<=1000000)(f:i.bytes<=1000):(bN #[t,j] ty #[jw,n]).run P w=.ok (ah w n<|grownCap w n 0 e) (ax w.drew<|ao (cx z.cells n++cx z.cells (grownCap w n 0 e-n)) e):=by
 have v:IntKind.i64.wrap (n)=n:=by(have h:n<2^63:=A);unfold ic;simp[ig,ij];omega
 have x:=Nat.mul_le_mul b f;have p:¬281474976710656<(n)*(i.bytes:Y):=A
 have d:¬n=0:=A
 have r:¬(n*i.size=0):=by intro h;obtain h|h:=Nat.mul_eq_zero.1 h<;>omega
 have g:¬9223372036854775807<(n:Y):=A
 have m:¬281474976710656<ik n 0*i.bytes:=by unfold ik;grind
 have l:¬(n:Y)<0:=A
 simp[bN,dY s,dY c,sizeOf,typeInfo,zeroValue,hi,q,v,p,A,d,r,A,g,m,A,l,Question.forced,run_firstCells_none,newRow,grownCap,asInt,asIntOf]
end
def amK(n:V)(g:n<=1000000)(w:u):aA ar 164 #[jw,n] w λe d=>∃v,e=az v/\aH d w 81 2 v 0 []/\aq w w d:=by
 let⟨i0,hi,c,m,l⟩:=bI Tryz.CP;have i:¬(n)<0:=A
 by_cases j:n=0;.subst j;go_enter il,im;go_wp2;go_ret;exact⟨_,rfl,dP _ _ _ _,jQ⟩
 . (have p:(n)>0:=A);(have k:(0)<(n):=A);go_enter il,im;have h:=λty=>afH w 26 3 ty 81 ak i0 _ dR bV hi c n A A g A;have f:=grownCap_ge w n 0 81;have b:=grownCap_le_maxLen w n 0 81 (by unfold bu;omega);generalize grownCap w n 0 81=cap at*;go_wp2_with(at_builtin;apply Nf rfl _ _ 26 3 rfl _ _ rfl rfl _ _ h);go_ret;refine⟨_,rfl,?_,?_⟩;(.refine⟨F0,aN ⟨w,cap,_,rfl,jK,eO w.drew _,j9,b,?_,F0⟩⟩;simp[iq];omega);.exact aJ lD jK _
def zo(k:V)(x b:G):G:=if k=0 then x else b
def Bz(k:V)(b l1:L G):L G:=if k=0 then[]else if k=1 then b else b++l1
def SE{k:V}(hk:k<2)(b l1:L G):Bz (k+1) b l1=Bz k b l1++zo k b l1:=by match k,hk with|0,_=>simp[Bz,zo]|1,_=>simp[Bz,zo]
def MF(k:V)(b l1:L G):(Bz k b l1)<=b+l1.length:=by unfold Bz;grind
def ahj(b off:V)(x F:y)(c l1:L<|V×Y)(w:u)(t:ai w (b off ae)=J x)(X:ai w (b (off+1) ae)=J F)(h0:uk w x c)(h1:uk w F l1)(am:c.length<=100000)(al:l1.length<=100000):aA ar 134 #[ah (b off ae) 2 2] w λe w'=>∃v,e=az v/\aH w' w 81 2 v (c++l1) (qy<|c++l1)/\aq w w w':=by
 let⟨i0,hi,S,R,ac⟩:=bI Tryz.CP;have H:=bh _ _ t;have h:Hid<|∀k,k<2->ai w (b (off+k) ae)=J (zo k x F):=by show∀k,_;intro k hk;match k,hk with|0,_=>exact t|1,_=>exact X
 have M:Hid<|∀k,k<2->uk w (zo k x F) (zo k c l1):=by show∀k,_;intro k hk;match k,hk with|0,_=>exact h0|1,_=>exact h1
 have K:∀k,(zo k c l1).length<=100000:=by intro k;unfold zo;grind
 go_enter Tryz.func134,Tryz.ntmps134;go_wp2_with fail;go_loopw[3,11](λs j wr=>∃k:V,k<=2/\j=k/\s=((Bz k c l1):V)/\w=wr)(λ_ j _=>2-(aF j).toNat);exact⟨0,A,rfl,rfl,rfl⟩;obtain⟨k,hk,rfl,rfl,rfl⟩:=hrel;by_cases d:k<2;.have N:=h.out k d;obtain⟨pa,i,pe,-⟩:=M.out k d;rw[pe]at N;have z:=MF k c l1;have W:=K k;have hS:Hid<|_=_:=SE d c l1;(have E:(k:Y)<2:=A);(have aa:(0:Y)<=(k:Y):=A);(have ad:¬(((Bz k c l1):Y)+((zo k c l1).length:Y))<0:=A);go_wp2_with fail;go_roundw;exact⟨k+1,A,pR,by rw[hS.out,cG];go_num,n7⟩;simp[aF];omega
 . (have n:k=2:=A);subst n;have z:=MF 2 c l1;go_wp2_with fail;apply aE (amK _ A _);rintro r w1⟨gv,rfl,hg,O⟩;go_wp2_with fail;go_loopw[6,27](λv j wr=>∃k:V,k<=2/\j=k/\aH wr w 81 2 v (Bz k c l1) (qy<|Bz k c l1)/\aq w w wr)(λ_ j _=>2-(aF j).toNat);exact⟨0,A,rfl,hg,O⟩;obtain⟨k,hk,rfl,f,g⟩:=hrel;by_cases d:k<2;(. (have N:ai wr (b (off+k) ae)=J (zo k x F):=by rw[aQ g H];exact h.out k d);have z:=MF k c l1;have W:=K k;have hS:Hid<|_=_:=SE d c l1;(have E:(k:Y)<2:=A);(have aa:(0:Y)<=(k:Y):=A);have D:=g.size;let⟨pa,i,pe,C,G,q,p⟩:=(M.out k d).below g;rw[pe]at N;cases pa with|none=>let⟨z1,z2⟩:=q.1 rfl;rw[dQ z1]at hS;rw[z1,z2]at N;go_wp2_with(at_builtin;apply gX rfl _ _ 26 rfl w 81 i0 2 dR hi _ _ _ rfl f rfl);go_roundw;exact⟨k+1,A,pR,by rwa[hS.out,gY],g⟩;simp[aF];omega|some B=>go_wp2_with(at_builtin;apply hJ _ rfl _ _ 26 rfl w 81 i0 (aK #[kQ,kQ]) 2 16 dR hi S R ac rfl E1 _ _ _ rfl f B (zo k c l1).length i (qy<|zo k c l1) rfl C (p B rfl).2 G (by unfold bu;omega) A D;intro v' w2 l m _);rw[<-LW]at l;go_wp2_with fail;go_roundw;exact⟨k+1,A,pR,by rwa[hS.out,cG],g.grown m D λb hb=>(f.lt b hb).1⟩;simp[aF];omega);. (have n:k=2:=A);subst n;go_wp2_with fail;go_ret;exact⟨_,rfl,f,g⟩
def GX:y->U|cF _|au _ _=>True|_=>False
def uQ(w:u)(v:y):U:=∀g b d fr,v.ownBlock=J g->w.heap[g]?=J (ao b d fr)->b.size≠0/\∀c∈b.toList,GX c
def uQ.pU(w:u)(n c:V):uQ w<|ah ae n c:=λg b d fr h=>by cases h
def uQ.mn{w:u}{v:y}(h:uQ w v)(f:∀g,v.ownBlock=J g->j.heap[g]?=w.heap[g]?):uQ j v:=λg b c fr d e=>h g b c fr d pC
def Uw{z:Z y}(f:∀b∈z.toList,GX b)(n:V):∀b∈(cx z n).toList,GX b:=by
 intro v c;simp[cx]at c;obtain⟨j,d,rfl⟩:=c;by_cases hs:z.size=0;.simp[hs]at d
 .have e:j%z<z:=fy _ A;grind
def akf{P:bO}(w:u)(base:V)(t e:aU)(i:ek)(z:y)(size bytes:V)(R:cT P t=J (.slice e))(hi:P.info? e=J i)(W:i.zero=J z)(B:i.size=size)(G:i.bytes=bytes)(aa:z.cells=size)(ac:0<size)(M:∀k∈z.cells.toList,GX k)(v:y)(n:V)(H:L y)(l:aH w base e size v n H)(ad:uQ w v)(a:aZ)(m c:V)(b:L y)(F:b=m*size)(d:∀j k,b[j]?=J k->ai w (a.add j)=J k)(h1:∀k∈b,k.oneCell'=T)(av:∀k∈b,GX k)(hm:0<m)(K:n+m<=bu)(q:(n+m)*bytes<=140737488355328)(D:base<=w):∃r p,(∀ty,(bN #[t,t] ty #[v,ah a m c]).run P w=.ok r p)/\aH p base e size r (n+m) (H++b)/\w.grownBy p v.ownBlock/\uQ p r:=by
 have key:∀ty,∃r p,(bN #[t,t] ty #[v,ah a m c]).run P w=.ok r p/\aH p base e size r (n+m) (H++b)/\w.grownBy p v.ownBlock:=λty=>by let⟨r,p,r1,r2,r3,_⟩:=ir w base t ty e i z size bytes R hi W B G aa ac v n H l a m c b F d h1 K q D;grind
 have O:n+m<=9223372036854775807:=by simp[bu]at K;omega
 subst B;subst G;have nt:b.length≠0:=by rw[F];exact Nat.mul_ne_zero A A
 have h:∀(f:Z y)(n' c':V),f.size≠0->(∀k∈f.toList,GX k)->uQ (ax w.drew<|ao f e) (ah w n' c'):=by intro f n' c' aw hc g N aC fr C hh;injection C with C;subst C;have:=eO w.drew<|ao f e;simp_all
 have one:∃r p,(∀ty,(bN #[t,t] ty #[v,ah a m c]).run P w=.ok r p)/\uQ p r:=by obtain⟨rfl,rfl⟩|⟨g,cap,f,rfl,am,C,an,aB,X,S⟩:=l.2;(.refine⟨_,_,λty=>iu w t ty e i z R hi W a m c b F d A A pC,h _ _ _ (λh0=>nt pC) ?_⟩;intro k s;simp only[iw,cH]at s;obtain s|s:=s;(.grind);.exact Uw M _ k s);.let⟨aG,al⟩:=ad g f e (0,0) rfl C;by_cases x:n+m<=cap;(.refine⟨_,_,λty=>eu w t ty e i R hi g n cap f C a m c b F d h1 x<|by rw[F,X,<-iy];exact de _ x,?_⟩;intro g' N aC fr E hh;injection E with E;subst E;rw[dJ w g f _ e (0,0) C]at hh;grind);.refine⟨_,_,λty=>iz w t ty e i z R hi W g n cap H l.1 (l.cells rfl) a m c b F d A A<|iA A q,h _ _ _ (λh0=>nt pC) ?_⟩;intro k s;simp only[iw,cH]at s;obtain(s|s)|s:=s;(.grind);(.grind);.exact Uw M _ k s
 let⟨r,p,hr,hb⟩:=one;refine⟨r,p,hr,?_⟩;let⟨v2,w2,r1,r2,r3⟩:=key 0;grind
structure qU where
 lX:V
 nk:Y
 vP:I
def sJ:L qU->L y|[]=>[]|c::l=>c.lX::c.nk::c.vP::sJ l
def XB(l m:L qU):sJ (l++m)=sJ l++sJ m:=by induction l with|nil=>rfl|cons p l a=>simp[sJ,a]
structure kC where
 ab:I
 r:V->Y
 ch:L qU
 hs:V->I
 vl:V->Y
 nx:V
def wO(m:kC)(e a b c d:y)(f:V):V->y|0=>m.ab|1=>(m.r 0)|2=>(m.r 1)|3=>(m.r 2)|4=>(m.r 3)|5=>e|6=>a|7=>b|8=>c|9=>d|10=>bH f|11=>m.nx|_=>aX
structure lG(w:u)(B mb xb:V)(a b c d:y)(n:V)(m:kC):U where
 ge:B<=mb/\B<=xb
 ex:∃vC,je w mb 249 12 (wO m vC a b c d xb)/\aH w B 229 3 vC m.ch (sJ m.ch)/\vC.ownBlock≠some mb/\uQ w vC
 pQ:oA n w xb m.hs m.vl
def xH{w:u}{a b c d:y}{m:kC}(h:je w v 249 12<|wO m n a b c d g)(e:i<4):ai w (v (1+i) ae)=J (au ak<|m.r i):=by have:=h.el<|1+i;rw[this];match i,e with|0,_|1,_|2,_|3,_=>rfl
def aeA{w:u}{a b c d:y}{m:kC}(h:je w v 249 12<|wO m n a b c d g)(f:i<4)(x:Y):je (w (v (1+i) ae) x) v 249 12<|wO {m with r:=jd m.r i x} n a b c d g:=by refine(h.jl (1+i) x).jY λj e=>?_;match i,f with|0,_=>(match j,e with|0,_|1,_|2,_|3,_|4,_|5,_|6,_|7,_|8,_|9,_|10,_|11,_=>rfl)|1,_=>(match j,e with|0,_|1,_|2,_|3,_|4,_|5,_|6,_|7,_|8,_|9,_|10,_|11,_=>rfl)|2,_=>(match j,e with|0,_|1,_|2,_|3,_|4,_|5,_|6,_|7,_|8,_|9,_|10,_|11,_=>rfl)|3,_=>match j,e with|0,_|1,_|2,_|3,_|4,_|5,_|6,_|7,_|8,_|9,_|10,_|11,_=>rfl
def lG.lh{w:u}{k:V}{a b c d:y}{n:V}{m:kC}(h:lG w v i k a b c d n m)(e:aq w w j):lG j v i k a b c d n m:=by
 let⟨t,q,f,s,C⟩:=h.ex;refine⟨h.ge,⟨t,q.below e,?_,s,C.mn λg r=>e.block g (f.lt g r).2⟩,h.pQ.jg<|e.block k ?_⟩;.obtain x|⟨g,cap,l,rfl,o,p,z⟩:=f.2;(.exact⟨f.1,aP x⟩);.exact⟨f.1,aN ⟨g,cap,l,rfl,o,by rwa[e.block g (bY.1 p).1],z⟩⟩
 .let⟨D,o,_⟩:=h.pQ;exact o.lt
def lG.lt{w:u}{a b c d:y}{n:V}{m:kC}(h:lG w v g i a b c d n m):g<w:=let⟨_,e,_⟩:=h.ex;e.lt
def lG.ne{w:u}{a b c d:y}{n:V}{m:kC}(h:lG w v g i a b c d n m):g≠i:=by let⟨q,f,_⟩:=h.ex;let⟨p,⟨o,k,l,_⟩,_⟩:=h.pQ;let⟨e,j,_⟩:=f;grind
def lG.uy{w:u}{f o:V}{a b c d:y}{n:V}{m l:kC}(h:lG w i f o a b c d n m){j:V}{v:y}(t:l.ch=m.ch/\l.hs=m.hs/\l.vl=m.vl)(z:∀k,je w f 249 12 (wO m k a b c d o)->je (w (f j ae) v) f 249 12 (wO l k a b c d o)):lG (w (f j ae) v) i f o a b c d n l:=by
 have E:=h.ne;let⟨k,x,r,p,C⟩:=h.ex;let⟨e1,e2,e3⟩:=t;refine⟨h.ge,⟨k,z k x,?_,p,C.mn λg K=>bE _ _ _ _ λH=>p pC⟩,?_⟩;.rw[e1];obtain D|⟨g,cap,q,rfl,F,G,s⟩:=r.2;(.exact⟨r.1,aP D⟩);.refine⟨r.1,aN ⟨g,cap,q,rfl,F,?_,s⟩⟩;rwa[bE _ _ _ _<|by simp;exactλe=>p<|by simp[cJ,e]]
 .rw[e2,e3];exact h.pQ.jg<|bE _ _ _ _ pC
structure U6(w:u)(N:V)(k A X C:Y):U where
 i0:ai w N=some (au ak k)
 i1:ai w (N 1 none)=some (au ak A)
 i2:ai w (N 2 none)=some (au ak X)
 i3:ai w (N 3 none)=some (au ak C)
def Cm(w:u)(k a X C:Y):U6 (ax w<|ao #[k,a,X,C] 161) w k a X C:=⟨F0,F0,F0,F0⟩
def lG.vW{w:u}{a b c d:y}{n:V}{m:kC}(h:lG w v g i a b c d n m):lG w.drew v g i a b c d n m:=h.lh lD
def lG.vD{w:u}{a b c d:y}{n:V}{m:kC}(h:lG w v g i a b c d n m):v<=w:=by have:=h.lt;have:=h.ge;omega
def lG.Gk{w:u}{a b c d:y}{n:V}{m:kC}(h:lG w v g i a b c d n m){e:V}(f:e<4)(x:Y):lG (w (g (1+e) ae) x) v g i a b c d n {m with r:=jd m.r e x}:=h.uy ⟨rfl,rfl,rfl⟩ λk j=>aeA j f x
def agZ(B j l:V)(a b c d:y)(n:V)(m:kC)(w:u)(h:lG w B j l a b c d n m)(k X C:Y)(f:V)(o:f<4):aA ar 197 #[ay j,aK #[k,f,X,C]] w λe p=>e=az (bj #[])/\lG p B j l a b c d n {m with r:=jd m.r f X}/\aq B w p:=by
 have i:aq B w<|ax w<|ao #[k,f,X,C] 161:=aJ jQ h.vD _;have g:=h.lh<|aJ jQ jK<|ao #[k,f,X,C] 161;let⟨i0,i1,i2,i3⟩:=Cm w k f X C;have s:(f)<4:=A7
 have t:(0)<=(f):=A7
 go_enter Tryz.func197,Tryz.ntmps197;go_wp2_with fail;generalize(ax w<|ao #[k,f,X,C] 161)=w1 at*;obtain⟨v,q,-⟩:=g.ex;have x:=q.kr;have c1:=xH q o;go_region;go_end0;exact⟨rfl,(g.Gk o X).vW,((bC i g.ge.1 _).drew)⟩
def afN(B l p:V)(a b c d:y)(n:V)(m:kC)(w:u)(h:lG w B l p a b c d n m)(k:Y)(f X C:V)(q:f<4)(z:X<4)(x:C<4):aA ar 206 #[ay l,aK #[k,f,X,C]] w λe o=>e=az (bj #[])/\lG o B l p a b c d n {m with r:=jd m.r f<|wrap64<|m.r X+m.r C}/\aq B w o:=by
 have j:aq B w<|ax w<|ao #[k,f,X,C] 161:=aJ jQ h.vD _;have g:=h.lh<|aJ jQ jK<|ao #[k,f,X,C] 161;let⟨i0,i1,i2,i3⟩:=Cm w k f X C;have F:(f)<4:=A7
 have v:(0)<=(f):=A7
 have t:(X)<4:=A7
 have D:(0)<=(X):=A7
 have s:(C)<4:=A7
 have E:(0)<=(C):=A7
 go_enter Tryz.func206,Tryz.ntmps206;go_wp2_with fail;generalize(ax w<|ao #[k,f,X,C] 161)=w1 at*;obtain⟨H,i,-⟩:=g.ex;have G:=i.kr;have c1:=xH i q;have c2:=xH i z;have c3:=xH i x;go_region;go_end0;exact⟨rfl,(g.Gk q _).vW,((bC j g.ge.1 _).drew)⟩
def ajL(B l p:V)(a b c d:y)(n:V)(m:kC)(w:u)(h:lG w B l p a b c d n m)(k:Y)(f X C:V)(q:f<4)(z:X<4)(x:C<4):aA ar 207 #[ay l,aK #[k,f,X,C]] w λe o=>e=az (bj #[])/\lG o B l p a b c d n {m with r:=jd m.r f<|wrap64<|m.r X-m.r C}/\aq B w o:=by
 have j:aq B w<|ax w<|ao #[k,f,X,C] 161:=aJ jQ h.vD _;have g:=h.lh<|aJ jQ jK<|ao #[k,f,X,C] 161;let⟨i0,i1,i2,i3⟩:=Cm w k f X C;have F:(f)<4:=A7
 have v:(0)<=(f):=A7
 have t:(X)<4:=A7
 have D:(0)<=(X):=A7
 have s:(C)<4:=A7
 have E:(0)<=(C):=A7
 go_enter Tryz.func207,Tryz.ntmps207;go_wp2_with fail;generalize(ax w<|ao #[k,f,X,C] 161)=w1 at*;obtain⟨H,i,-⟩:=g.ex;have G:=i.kr;have c1:=xH i q;have c2:=xH i z;have c3:=xH i x;go_region;go_end0;exact⟨rfl,(g.Gk q _).vW,((bC j g.ge.1 _).drew)⟩
def kL(hs:V->I)(vl:V->Y)(k:V):Y:=if hs k then vl k else 0
def abk{n:V}{w:u}{b:V}{hs:V->I}{vl:V->Y}(h:oA n w b hs vl){k:V}(hk:k<100):(Instr.lookup 119 (bH b) k aj).run ar w=.ok (kL hs vl k) w:=by let⟨l,f,e⟩:=h;let⟨x,a,i,g⟩:=f.lookup_int Bi dM bV (JW _)<|dN bV<|B9 hk;let⟨c,j⟩:=e k hk;rw[a];unfold kL;cases d:hs k with|true=>grind|false=>rw[d]at c;have:=iC c<|.lit<|aT ak 0;grind
def YD(B i o:V)(a b c d:y)(n:V)(m:kC)(w:u)(h:lG w B i o a b c d n m)(k C:Y)(f X:V)(q:f<4)(s:X<100):aA ar 198 #[ay i,aK #[k,f,X,C]] w λe p=>e=az (bj #[])/\lG p B i o a b c d n {m with r:=jd m.r f<|kL m.hs m.vl X}/\aq B w p:=by
 have j:aq B w<|ax w<|ao #[k,f,X,C] 161:=aJ jQ h.vD _;have g:=h.lh<|aJ jQ jK<|ao #[k,f,X,C] 161;let⟨i0,i1,i2,i3⟩:=Cm w k f X C;have x:(f)<4:=A7
 have v:(0)<=(f):=A7
 go_enter Tryz.func198,Tryz.ntmps198;go_wp2_with fail;generalize(ax w<|ao #[k,f,X,C] 161)=w1 at*;obtain⟨z,l,-⟩:=g.ex;have D:=l.kr;have c1:=xH l q;have E:ai w1 (i 10 ae)=J (bH o):=l.el _;have t:=abk g.vW.pQ s;go_region;go_end0;exact⟨rfl,(g.Gk q _).vW,((bC j g.ge.1 _).drew)⟩
def ajO{w:u}{a b c d:y}{m:kC}(h:je w v 249 12<|wO m n a b c d g)(x:V):je (w (v 11 ae) x) v 249 12<|wO {m with nx:=x} n a b c d g:=by refine(h.jl 11 x).jY λj e=>?_;match j,e with|0,_|1,_|2,_|3,_|4,_|5,_|6,_|7,_|8,_|9,_|10,_|11,_=>rfl
def lG.Rb{w:u}{a b c d:y}{n:V}{m:kC}(h:lG w v g i a b c d n m)(x:V):lG (w (g 11 ae) x) v g i a b c d n {m with nx:=x}:=h.uy ⟨rfl,rfl,rfl⟩ λf e=>ajO e x
def acA(B o p:V)(a b c d:y)(n:V)(m:kC)(w:u)(h:lG w B o p a b c d n m)(k:Y)(f X C:V)(t:f<4)(s:X<4):aA ar 208 #[ay o,aK #[k,f,X,C]] w λe q=>e=az (bj #[])/\lG q B o p a b c d n {m with nx:=if m.r f<m.r X then C else m.nx}/\aq B w q:=by
 have j:aq B w<|ax w<|ao #[k,f,X,C] 161:=aJ jQ h.vD _;have g:=h.lh<|aJ jQ jK<|ao #[k,f,X,C] 161;let⟨i0,i1,i2,i3⟩:=Cm w k f X C;have D:(f:Y)<4:=A
 have x:(0:Y)<=(f:Y):=A
 have v:(X:Y)<4:=A
 have E:(0:Y)<=(X:Y):=A
 by_cases l:m.r f<m.r X;.rw[rW l];go_enter iD,iE;go_wp2_with fail;clear h;generalize(ax w<|ao #[k,f,X,C] 161)=w1 at*;obtain⟨z,i,-⟩:=g.ex;have F:=i.kr;have c1:=xH i t;have c2:=xH i s;have G:=i.el 11;go_region;go_wp2;go_end0;exact⟨rfl,(g.vW.Rb C),((bC j.drew g.ge.1 _))⟩
 .rw[BW l];go_enter iD,iE;go_wp2_with fail;generalize(ax w<|ao #[k,f,X,C] 161)=w1 at*;obtain⟨z,i,-⟩:=g.ex;have c1:=xH i t;have c2:=xH i s;go_region;go_wp2;go_end0;exact⟨rfl,g.vW,j.drew⟩
def abV{w:u}{a b c d:y}{m:kC}(h:je w v 249 12<|wO m n a b c d g)(x:V):je (w v T (v 5 ae) jw (v 11 ae) x) v 249 12<|wO {m with ab:=T,ch:=[],nx:=x} jw a b c d g:=by refine(((h.jl 0 T).jl 5 jw).jl 11 x).jY λj e=>?_;match j,e with|0,_|1,_|2,_|3,_|4,_|5,_|6,_|7,_|8,_|9,_|10,_|11,_=>rfl
def lG.afM{w:u}{a b c d:y}{n:V}{m:kC}(h:lG w v g i a b c d n m)(x:V):lG (w g T (g 5 ae) jw (g 11 ae) x) v g i a b c d n {m with ab:=T,ch:=[],nx:=x}:=by have f:=h.ne;let⟨l,e,j,k,_⟩:=h.ex;refine⟨h.ge,⟨_,abV e x,dP _ _ _ _,by simp[cJ],uQ.pU _ _ _⟩,h.pQ.jg ?_⟩;rw[bE _ _ _ _ pC,bE _ _ _ _ pC,bE _ _ _ _ pC]
def akh(B f k:V)(a b c:y)(g:n6 aZ)(nc i:V)(n:V)(m:kC)(w:u)(h:lG w B f k a b c (ah g nc i) n m):aA ar 195 #[ay f] w λe j=>e=az (bj #[])/\lG j B f k a b c (ah g nc i) n {m with ab:=T,ch:=[],nx:=nc}/\aq B w j:=by obtain⟨o,d,-⟩:=h.ex;have p:=d.kr;have c0:=d.el 0;have c5:=d.el 5;have c9:ai w (f 9 ae)=J (ah g nc i):=d.el 9;have l:=d.el 11;go_enter Tryz.func195,Tryz.ntmps195;go_wp2;go_end0;exact⟨rfl,h.afM nc,bC (bC (bC jQ h.ge.1 _) h.ge.1 _) h.ge.1 _⟩
def agH(B d g:V)(a b c:y)(i:n6 aZ)(nc f:V)(n:V)(m:kC)(w:u)(h:lG w B d g a b c (ah i nc f) n m)(k j X C:Y):aA ar 209 #[ay d,aK #[k,j,X,C]] w λe l=>e=az (bj #[])/\lG l B d g a b c (ah i nc f) n {m with ab:=T,ch:=[],nx:=nc}/\aq B w l:=by go_enter Tryz.func209,Tryz.ntmps209;go_wp2_with fail;apply aE (akh B d g a b c i nc f n m _<|h.lh<|aJ jQ jK<|ao #[k,j,X,C] 161);rintro e w1⟨rfl,o,p⟩;go_wp2_with fail;go_end0;exact⟨rfl,o,aO (aJ jQ h.vD _) p⟩
def lG.VN{w:u}{f:V}{a b c d:y}{n D:V}{m:kC}{hs:V->I}{vl:V->Y}(h:lG w v i f a b c d n m)(H:oA D j f hs vl)(z:∀k,k<w.heap.size->k≠f->j.heap[k]?=w.heap[k]?):lG j v i f a b c d D {m with hs:=hs,vl:=vl}:=by
 have F:=h.ne;let⟨x,M,o,N,P⟩:=h.ex;let⟨p,r1,r2,r3⟩:=M;have q:x.ownBlock≠J f:=by intro e;obtain⟨rfl,_⟩|⟨g,cap,C,rfl,s,r,t⟩:=o.2;(.simp[cJ]at e);.simp[cJ,dZ]at e;subst e;let⟨E,⟨Q,K,O,_⟩,_⟩:=h.pQ;grind
 refine⟨h.ge,⟨x,⟨p,pC,r2,r3⟩,?_,N,P.mn λg l=>z g (o.lt g l).2 λe=>q<|by rw[l,e]⟩,H⟩;obtain G|⟨g,cap,C,rfl,s,r,t⟩:=o.2;.exact⟨o.1,aP G⟩
 .refine⟨o.1,aN ⟨g,cap,C,rfl,s,?_,t⟩⟩;rw[z g (bY.1 r).1];(.exact r);.rintro rfl;let⟨E,⟨Q,K,O,_⟩,_⟩:=h.pQ;grind
def aaP{w:u}{a b c d:y}{m:kC}(h:je w v 249 12<|wO m n a b c d g)(l:L qU):je (w (v 5 ae) p) v 249 12<|wO {m with ch:=l} p a b c d g:=by refine(h.jl 5 p).jY λj e=>?_;match j,e with|0,_|1,_|2,_|3,_|4,_|5,_|6,_|7,_|8,_|9,_|10,_|11,_=>rfl
def lG.changed{w:u}{f:V}{a b c d:y}{n:V}{m:kC}(h:lG w v i f a b c d n m)(H:je w i 249 12<|wO m p a b c d f)(M:p.ownBlock≠J i)(l:L qU)(t:aH j v 229 3 q l<|sJ l)(x:uQ j q)(O:∀k,k<w.heap.size->J k≠p.ownBlock->j.heap[k]?=w.heap[k]?)(P:p.ownBlock≠J f):lG (j (i 5 ae) q) v i f a b c d n {m with ch:=l}:=by
 have F:=h.ne;have r:je j i 249 12<|wO m p a b c d f:=by let⟨o,r1,r2,r3⟩:=H;exact⟨o,pC,r2,r3⟩
 have jX:q.ownBlock≠J i:=by intro e;obtain⟨rfl,_⟩|⟨g,cap,C,rfl,s,G,z⟩:=t.2;(.simp[cJ]at e);.simp[cJ,dZ]at e;subst e;let⟨o,r1,_⟩:=r;grind
 have K:f<w:=by let⟨N,s,_⟩:=h.pQ;exact s.lt
 refine⟨h.ge,⟨q,aaP r l,?_,jX,x.mn λg E=>bE _ _ _ _ λQ=>jX pC⟩,?_⟩;.obtain D|⟨g,cap,C,rfl,s,G,z⟩:=t.2;(.exact⟨t.1,aP D⟩);.refine⟨t.1,aN ⟨g,cap,C,rfl,s,?_,z⟩⟩;rwa[bE _ _ _ _<|by simp;exactλe=>jX<|by simp[cJ,e]]
 .refine h.pQ.jg ?_;rw[bE _ _ _ _ pC];grind
def lG.aaN{w:u}{f:V}{a b c d:y}{n:V}{m:kC}(h:lG w v i f a b c d n m)(j:aH w v 229 3 p m.ch<|sJ m.ch):p.ownBlock≠J f:=by
 intro e;obtain⟨rfl,_⟩|⟨g,cap,r,rfl,l,k,s⟩:=j.2;.simp[cJ]at e
 .simp[cJ,dZ]at e;subst e;let⟨o,⟨x,q,t,_⟩,_⟩:=h.pQ;grind
def Tryz.NN:(Tryz.prog.info? 229).map (λi=>(i.zero,i.size,i.bytes))=J (J<|aK #[kQ,kQ,aj],3,24):=vI
def P9{n:V}{w w1:u}{b:V}{hs:V->I}{vl:V->Y}{d:dL Unit}(a:w.ownsMap ar 3 (plainElem ar 3) b n d)(h:O0 d hs vl){k:V}{x:Y}(g:w1.ownsMap ar 3 (plainElem ar 3) b (n+1)<|d.put (aT ak k)<|.lit<|aT ak x):oA (n+1) w1 b (jd hs k T)<|jd vl k x:=by
 refine⟨_,g,λj f=>?_⟩;by_cases e:j=k;.subst e;rw[ki,ki];exact⟨gS a.isMap (by simp[eh]) _,λ_=>gT a.isMap (by simp[eh]) _ _⟩
 . (have c:(aT ak<|j)≠aT ak (k):=pC);rw[j8 _ _ e,j8 _ _ e,gU c,gV c];exact h j f
def Vj{n:V}{w w1:u}{b:V}{hs:V->I}{vl:V->Y}{c:dL Unit}(d:w.ownsMap ar 3 (plainElem ar 3) b n c)(i:O0 c hs vl){k:V}(g:w1.ownsMap ar 3 (plainElem ar 3) b n<|c.del<|aT ak k):oA n w1 b (jd hs k aj) vl:=by
 refine⟨_,g,λj f=>?_⟩;by_cases e:j=k;.subst e;rw[ki];exact⟨has_del_same,λh=>by cases h⟩
 . (have a:(aT ak<|j)≠aT ak (k):=pC);rw[j8 _ _ e,has_del_other a,atKey_del_other a];exact i j f
def xJ{w:u}{base:V}{e:aU}{sz n:V}{v:y}(h:aH w base e sz v n W):∃a c,v=ah a n c:=by
 obtain⟨rfl,rfl⟩|⟨g,cap,b,rfl,_⟩:=h.2;.simp
 simp
def lG.V5{w w1:u}{o:V}{a b c d:y}{n H:V}{m:kC}{hs:V->I}{vl:V->Y}(h:lG w v i o a b c d n m)(K:oA H w1 o hs vl)(t:w.grownBy w1 o):∃f l,je w1 i 249 12 (wO {m with hs:=hs,vl:=vl} (ah f m.ch l) a b c d o)/\aH w1 v 229 3 (ah f m.ch l) m.ch (sJ m.ch)/\(ah f m.ch l).ownBlock≠J i/\(ah f m.ch l).ownBlock≠J o/\lG w1 v i o a b c d H {m with hs:=hs,vl:=vl}/\aq v w w1/\ai w1 (i 5 ae)=J (ah f m.ch l)/\v<=w1/\uQ w1 (ah f m.ch l):=by
 have x:=h.VN K λk hk D=>t.block k hk (by simpa using D);let⟨N,O,z,C,F⟩:=h.ex;have p:=h.aaN z;have s:=z.kept t<|aN p;have q:je w1 i 249 12<|wO {m with hs:=hs,vl:=vl} N a b c d o:=by let⟨E,r1,r2,r3⟩:=O;exact⟨E,by rwa[t.block i (bY.1 r1).1<|by simpa using h.ne],r2,λj G=>by rw[r3 j G];match j,G with|0,_|1,_|2,_|3,_|4,_|5,_|6,_|7,_|8,_|9,_|10,_|11,_=>rfl⟩
 obtain⟨f,l,rfl⟩:=xJ s;exact⟨f,l,q,s,C,p,x,jQ.grown t h.vD λb M=>by cases M;exact h.ge.2,q.el _,x.vD,F.mn λg r=>t.block g (z.lt g r).2 λe=>p<|by rw[r,e]⟩
def lG.Uk{w1:u}{a b c d:y}{n:V}{m:kC}{r:n6 aZ}{q:V}{o:Obj}{l:L qU}(h:lG w1 v g i a b c d n m)(C:je w1 g 249 12<|wO m (ah r m.ch q) a b c d i)(D:aH w1 v 229 3 (ah r m.ch q) m.ch<|sJ m.ch)(f:(ah r m.ch q).ownBlock≠J g)(x:(ah r m.ch q).ownBlock≠J i)(s:aH j v 229 3 p l<|sJ l)(z:uQ j p)(w:(ax w1 o).grownBy j (ah r m.ch q).ownBlock):lG (j (g 5 ae) p) v g i a b c d n {m with ch:=l}/\aq v w1 j/\ai j (g 5 ae)=J (ah r m.ch q)/\bU j (g 5 ae)=aj:=by
 have t:=h.vD;have k:=C.lP o;refine⟨(h.lh<|aJ jQ jK o).changed k f l s z w.block x,(aJ jQ t _).grown w Fk λb E=>(D.lt b E).1,?_,?_⟩;.have:=k.el 5;exact bD (fp<|w.block g (by simp;exact iF C.lt) λe=>f e.symm) this
 .rw[fA<|w.block g (by simp;exact iF C.lt) λe=>f e.symm];exact k.kr 5
def anw(w:u)(a b c:y):∀j d,[a,b,c][j]?=J d->ai (ax w<|ao #[a,b,c] 229) ((w:aZ).add j)=J d:=by intro j d e;have:=(lZ w [a,b,c] 229).jP (du.1 e).1;rw[qn,cZ,this];simp[lc,e]
def Xx(w1:u)(B:V)(l:L qU)(o:n6 aZ)(n:V)(k:V)(x:Y)(q:I)(i:aH w1 B 229 3 (ah o l n) l<|sJ l)(j:uQ w1<|ah o l n)(D:l.length<=1000)(v:B<=w1):∃d c f,(∀ty,(bN #[(200:aU),200] ty #[ah o l n,ah (Addr.mk w1 0 ae) 1 1]).run ar (ax w1<|ao #[k,x,q] 229)=.ok (ah d (l.length+1) c) f)/\aH f B 229 3 (ah d (l.length+1) c) (l++[qU.mk k x q]) (sJ<|l++[qU.mk k x q])/\(ax w1<|ao #[k,x,q] 229).grownBy f (ah o l n).ownBlock/\uQ f (ah d (l.length+1) c):=by
 let⟨i0,hi,r,s,p⟩:=bI Tryz.NN;let⟨E,f,h,e,b,m⟩:=akf (ax w1<|ao #[k,x,q] 229) B 200 229 i0 (aK #[au ak 0,au ak 0,aj]) 3 24 Tryz.underlying200 hi r s p rfl A (by intro t a;simp[cY]at a;obtain rfl|rfl:=a<;>trivial) _ _ _ (i.alloc _) (j.mn λg C=>eN _ _ _ (i.lt g C).2) w1 1 1 [k,x,q] rfl (anw w1 _ _ _) (by intro t a;simp at a;obtain rfl|rfl|rfl:=a<;>rfl) (by intro t a;simp at a;obtain rfl|rfl|rfl:=a<;>trivial) A (by unfold bu;omega) A Fk;obtain⟨rfl,w⟩|⟨g,cap,z,rfl,_⟩:=e.2;.simp at w
 .exact⟨_,cap,f,h,by rwa[XB,cG],b,m⟩
def Zo(B D C:V)(a b c d:y)(n:V)(m:kC)(w:u)(h:lG w B D C a b c d n m)(k:V)(x:Y)(hk:k<100)(hx:(aT ak x).wf=T)(hn:n<=100000)(R:m.ch.length<=1000):aA ar 200 #[ay D,k,x] w λe M=>e=az (bj #[])/\lG M B D C a b c d (n+1) {m with hs:=jd m.hs k T,vl:=jd m.vl k x,ch:=m.ch++[⟨k,x,aj⟩]}/\aq B w M:=by
 let⟨i0,hi,ad,aa,N⟩:=bI Tryz.NN;let⟨Dm,q,P⟩:=h.pQ;have X:ai w (D 10 ae)=J (bH C):=by obtain⟨vC,Q,-⟩:=h.ex;exact Q.el _
 go_enter Tryz.func200,Tryz.ntmps200;go_wp2_with(first|(at_mapUpdate;refine gR _ rfl _ _ _ 119 rfl 3 3 Bi dM _ C n _ rfl q (by unfold bu;omega) _ _ _ rfl rfl (dN bV<|B9 hk) _ [] (fu bV hx) ?_;intro w1 i f;obtain⟨va,O,t,s,K,E,r,H,c5,z,o⟩:=h.V5 (P9 q P i) f;clear i f X)|(at_builtin;obtain⟨S,W,w2,l,j,g,p⟩:=Xx w1 B m.ch va O k x aj s o R z;obtain⟨G,F,ac,ff⟩:=r.Uk t s K E j p g;have v:=r.ge.1;refine Nf rfl _ _ 200 200 rfl _ _ rfl rfl _ _ l ?_;clear g j r s t c5 h p o l));go_end0;exact⟨rfl,G,bC (aO H F) v _⟩
def Ti{w:u}{b:V}(h:w.mapTurned j b):w.grownBy j b:=by obtain⟨f,e,a,d,g,rfl⟩:=h;refine⟨rfl,rfl,rfl,by simp[Go.ChangeMaps.setBlock],λk hk c=>?_⟩;simp[Go.ChangeMaps.setBlock];grind
def adM(B z C:V)(a b c d:y)(n:V)(m:kC)(w:u)(h:lG w B z C a b c d n m)(k:V)(hk:k<100)(M:m.ch.length<=1000):aA ar 202 #[ay z,k] w λe K=>e=az (bj #[])/\lG K B z C a b c d n {m with hs:=jd m.hs k aj,ch:=m.ch++[⟨k,0,T⟩]}/\aq B w K:=by
 let⟨i0,hi,al,aa,ac⟩:=bI Tryz.NN;let⟨X,q,S⟩:=h.pQ;have Q:ai w (z 10 ae)=J (bH C):=by obtain⟨vC,N,-⟩:=h.ex;exact N.el _
 go_enter Tryz.func202,Tryz.ntmps202;go_wp2_with(first|(at_delete;refine wpList_delete_own _ rfl _ _ 119 3 rfl 3 Bi dM _ C n X rfl q _ _ rfl (dN bV<|B9 hk) ?_;intro w1 j f;obtain⟨W,R,t,r,H,D,s,G,c5,v,p⟩:=h.V5 (Vj q S j)<|Ti f;clear j f Q)|(at_builtin;obtain⟨P,O,w2,l,i,g,o⟩:=Xx w1 B m.ch W R k 0 T r p M v;obtain⟨F,E,ad,ff⟩:=s.Uk t r H D i o g;have x:=s.ge.1;refine Nf rfl _ _ 200 200 rfl _ _ rfl rfl _ _ l ?_;clear g i s r t c5 h o p l));go_end0;exact⟨rfl,F,bC (aO G E) x _⟩
def adz(B g i:V)(a b c d:y)(n:V)(m:kC)(w:u)(h:lG w B g i a b c d n m)(k X C:Y)(f:V)(o:f<100)(p:m.ch.length<=1000):aA ar 201 #[ay g,aK #[k,f,X,C]] w λe j=>e=az (bj #[])/\lG j B g i a b c d n {m with hs:=jd m.hs f aj,ch:=m.ch++[⟨f,0,T⟩]}/\aq B w j:=by go_enter Tryz.func201,Tryz.ntmps201;go_wp2_with fail;apply aE (adM B g i a b c d n m _ (h.lh<|aJ jQ jK<|ao #[k,f,X,C] 161) f o p);rintro e w1⟨rfl,l,q⟩;go_wp2_with fail;go_end0;exact⟨rfl,l,aO (aJ jQ h.vD _) q⟩
def XL(B i l:V)(a b c d:y)(n:V)(m:kC)(w:u)(h:lG w B i l a b c d n m)(k C:Y)(f X:V)(E:f<100)(x:X<4)(q:(aT ak<|m.r X).wf=T)(z:n<=100000)(s:m.ch.length<=1000):aA ar 199 #[ay i,aK #[k,f,X,C]] w λe p=>e=az (bj #[])/\lG p B i l a b c d (n+1) {m with hs:=jd m.hs f T,vl:=jd m.vl f<|m.r X,ch:=m.ch++[⟨f,m.r X,aj⟩]}/\aq B w p:=by
 have j:aq B w<|ax w<|ao #[k,f,X,C] 161:=aJ jQ h.vD _;have g:=h.lh<|aJ jQ jK<|ao #[k,f,X,C] 161;let⟨i0,i1,i2,i3⟩:=Cm w k f X C;have v:(X)<4:=A
 have D:(0)<=(X):=A
 go_enter Tryz.func199,Tryz.ntmps199;go_wp2_with fail;generalize(ax w<|ao #[k,f,X,C] 161)=w1 at*;obtain⟨H,o,-⟩:=g.ex;have G:=o.kr;have c2:=xH o x;go_region_with(go_at_call 200;apply aE (Zo B i l a b c d n m _ g.vW f (m.r X) E q z s);rintro e K⟨rfl,t,F⟩);all_goals(go_end0;exact⟨rfl,t,aO (j.drew) F⟩)
def pF(hs:V->I)(vl:V->Y)(lo:V):V->Y|0=>0|k+1=>if hs (lo+k)then wrap64 (pF hs vl lo k+vl (lo+k))else pF hs vl lo k
def rh(hs:V->I)(lo:V)(k:V):V:=ku (λj=>hs<|lo+j) k
def Ml{hs:V->I}{vl:V->Y}{lo k:V}(h:hs (lo+k)=T):pF hs vl lo (k+1)=wrap64 (pF hs vl lo k+vl (lo+k)):=by simp[pF,h]
def L1{hs:V->I}{vl:V->Y}{lo k:V}(h:hs (lo+k)=aj):pF hs vl lo (k+1)=pF hs vl lo k:=by simp[pF,h]
def WJ(hs:V->I)(vl:V->Y)(lo k:V):(aT ak<|pF hs vl lo k).wf=T:=by induction k with|zero=>rfl|succ k a=>unfold pF;split;(.exact fB _);.exact a
def afZ{n:V}{w:u}{b:V}{hs:V->I}{vl:V->Y}(h:oA n w b hs vl){k:V}(hk:k<100):(Instr.lookup 119 (bH b) k T).run ar w=.ok (bj #[(kL hs vl k),(hs k)]) w:=by let⟨l,f,i⟩:=h;let⟨v,ps,a,d⟩:=f.look_ok Bi dM (JW _) (fu bV E1)<|dN bV<|B9 hk;obtain⟨x,rfl,j,e⟩:=plainElem_int_inv bV d;simp[Prod.mk.injEq]at j;let⟨c,m⟩:=i k hk;rw[a,c];unfold kL;cases g:hs k with|true=>grind|false=>rw[g]at c;have:=iC c<|.lit<|aT ak 0;grind
def Vo(B E K:V)(a b c d:y)(n:V)(m:kC)(w:u)(h:lG w B E K a b c d n m)(ng:V)(g:V->Y)(Q:kY w c 2 ng g)(j lo hi:V)(hj:j<ng)(al:g (2*j)=lo)(ac:g (2*j+1)=hi)(aa:lo<=hi)(ad:hi<=99):aA ar 204 #[ay E,j] w λe R=>e=az (bj #[(pF m.hs m.vl lo<|hi+1-lo),(rh m.hs lo<|hi+1-lo:V)])/\lG R B E K a b c d n m/\aq w w R:=by
 obtain⟨ga,t,rfl,am,G⟩:=id Q;obtain⟨O,go,rfl,S,l⟩:=G A;have e0:ai w (O (go+j*2) ae)=J (au ak lo):=pC
 have e1:ai w (O (go+j*2+1) ae)=J (au ak hi):=pC
 obtain⟨vC,H,-⟩:=h.ex;have W:ai w (E 8 ae)=J (ah (O go ae) ng t):=H.el 8;have aw:(j:Y)<(ng:Y):=A
 have an:(0:Y)<=(j:Y):=A
 have D:aq w w<|ax w<|ao #[lo,hi] 159:=kI;have r:=h.lh D;clear l G Q H;go_enter Tryz.func204,Tryz.ntmps204;go_wp2_with fail;have r1:ai (ax w<|ao #[lo,hi] 159) ⟨w,1,ae⟩=J (au ak hi):=F0
 have cm:ai (ax w<|ao #[lo,hi] 159) (E 10 ae)=J (bH K):=by obtain⟨vC,H,-⟩:=r.ex;exact H.el 10
 have z:=r.pQ;clear e0 e1 W;generalize(ax w<|ao #[lo,hi] 159)=w1 at*;go_loopw[4,5,7](λs q i wr=>∃k:V,lo<=k/\k<=hi+1/\i=k/\s=(pF m.hs m.vl lo<|k-lo)/\q=(rh m.hs lo<|k-lo:V)/\w1=wr)(λ_ _ i _=>hi+1-(aF i).toNat);exact⟨lo,jK,A,rfl,by simp[pF],by simp[rh,ku],rfl⟩;obtain⟨k,o,hk,rfl,rfl,rfl,rfl⟩:=hrel;have f:Hid<|k+1-lo=(k-lo)+1:=by show _=_;omega
 by_cases av:k<=hi;.have o:=afZ z (k:=k) A;(have F:(k:Y)<=(hi:Y):=A);have P:=wj (λj=>m.hs<|lo+j)<|k-lo;cases C:m.hs k with|false=>have M:Hid<|_=_:=L1 (hs:=m.hs) (vl:=m.vl) (lo:=lo) (k:=k-lo) pC;have N:Hid<|_=_:=AS (p:=λj=>m.hs<|lo+j) (k:=k-lo) pC;rw[C]at o;clear C;go_wp2;go_roundw;exact⟨k+1,A,A,pR,by rw[f.out,M.out],by rw[f.out];unfold rh;rw[N.out],n7⟩;simp[aF];omega|true=>have M:Hid<|_=_:=Ml (hs:=m.hs) (vl:=m.vl) (lo:=lo) (k:=k-lo) pC;have N:Hid<|_=_:=Dp (p:=λj=>m.hs<|lo+j) (k:=k-lo) pC;rw[C,show kL m.hs m.vl k=m.vl k by simp[kL,C]]at o;clear C;go_wp2;go_roundw;exact⟨k+1,A,A,pR,by rw[f.out,M.out,(by show _=_;omega:Hid<|lo+(k-lo)=k).out],by rw[f.out];unfold rh at*;rw[N.out,Go.IntWalk.wrap64_in _ A];simp,n7⟩;simp[aF];omega
 . (have x:k=hi+1:=A);(have F:¬(k:Y)<=(hi:Y):=A);have X:Hid<|k=hi+1:=x;clear x;go_wp2;exact fq (v:=bj #[(pF m.hs m.vl lo<|k-lo),(rh m.hs lo<|k-lo:V)]) (by simp[ft,Tryz.results204,go_sem]) rfl ⟨by rw[X.out],r,D⟩
def Yc(B l p:V)(a b c d:y)(n:V)(m:kC)(w:u)(h:lG w B l p a b c d n m)(k C:Y)(f X lo hi ng:V)(g:V->Y)(D:kY w c 2 ng g)(F:f<4)(O:X<ng)(q:g (2*X)=lo)(v:g (2*X+1)=hi)(s:lo<=hi)(x:hi<=99):aA ar 203 #[ay l,aK #[k,f,X,C]] w λe E=>e=az (bj #[])/\lG E B l p a b c d n {m with r:=jd m.r f<|pF m.hs m.vl lo<|hi+1-lo}/\aq B w E:=by
 have o:aq B w<|ax w<|ao #[k,f,X,C] 161:=aJ jQ h.vD _;have i:=h.lh<|aJ jQ jK<|ao #[k,f,X,C] 161;have t:=D.lP<|ao #[k,f,X,C] 161;let⟨i0,i1,i2,i3⟩:=Cm w k f X C;have H:(f:Y)<4:=A
 have K:(0:Y)<=(f:Y):=A
 have Q:w<(ax w<|ao #[k,f,X,C] 161).heap.size:=F0
 go_enter Tryz.func203,Tryz.ntmps203;go_wp2_with fail;clear h D;generalize(ax w<|ao #[k,f,X,C] 161)=w1 at*;obtain⟨S,P,-⟩:=i.ex;have R:=P.kr;go_region_with(go_at_call 204;apply aE (Vo B l p a b c d n m w1.drew i.vW ng g (t.below lD) X lo hi O q v s x);rintro e M⟨rfl,z,G⟩;have j1:ai M ⟨w,1,ae⟩=J (au ak f):=(by rw[aQ G Q];exact i1);obtain⟨N,j,-⟩:=z.ex;have c2:=xH j F;have W:=j.kr);all_goals(go_end0;exact⟨rfl,z.Gk F _,bC (aO (o.drew)<|bn G i.vW.vD) i.ge.1 _⟩)
def adf(B l p:V)(a b c d:y)(n:V)(m:kC)(w:u)(h:lG w B l p a b c d n m)(k C:Y)(f X lo hi ng:V)(g:V->Y)(D:kY w c 2 ng g)(F:f<4)(O:X<ng)(q:g (2*X)=lo)(v:g (2*X+1)=hi)(s:lo<=hi)(x:hi<=99):aA ar 205 #[ay l,aK #[k,f,X,C]] w λe E=>e=az (bj #[])/\lG E B l p a b c d n {m with r:=jd m.r f (rh m.hs lo<|hi+1-lo:V)}/\aq B w E:=by
 have o:aq B w<|ax w<|ao #[k,f,X,C] 161:=aJ jQ h.vD _;have i:=h.lh<|aJ jQ jK<|ao #[k,f,X,C] 161;have t:=D.lP<|ao #[k,f,X,C] 161;let⟨i0,i1,i2,i3⟩:=Cm w k f X C;have H:(f:Y)<4:=A
 have K:(0:Y)<=(f:Y):=A
 have Q:w<(ax w<|ao #[k,f,X,C] 161).heap.size:=F0
 go_enter Tryz.func205,Tryz.ntmps205;go_wp2_with fail;clear h D;generalize(ax w<|ao #[k,f,X,C] 161)=w1 at*;obtain⟨S,P,-⟩:=i.ex;have R:=P.kr;go_region_with(go_at_call 204;apply aE (Vo B l p a b c d n m w1.drew i.vW ng g (t.below lD) X lo hi O q v s x);rintro e M⟨rfl,z,G⟩;have j1:ai M ⟨w,1,ae⟩=J (au ak f):=(by rw[aQ G Q];exact i1);obtain⟨N,j,-⟩:=z.ex;have c2:=xH j F;have W:=j.kr);all_goals(go_end0;exact⟨rfl,z.Gk F _,bC (aO (o.drew)<|bn G i.vW.vD) i.ge.1 _⟩)
def vQ(t:jE)(X:Y):V:=(t.g<|2*X.toNat).toNat
def ze(t:jE)(X:Y):V:=(t.g<|2*X.toNat+1).toNat
def vh(t:jE)(K a X C:Y)(m:kC):kC:=if K=1 then{m with r:=jd m.r a.toNat X}else if K=2 then{m with r:=jd m.r a.toNat<|kL m.hs m.vl X.toNat}else if K=3 then{m with hs:=jd m.hs a.toNat T,vl:=jd m.vl a.toNat<|m.r X.toNat,ch:=m.ch++[⟨a.toNat,m.r X.toNat,aj⟩]}else if K=4 then{m with hs:=jd m.hs a.toNat aj,ch:=m.ch++[⟨a.toNat,0,T⟩]}else if K=5 then{m with r:=jd m.r a.toNat<|pF m.hs m.vl (vQ t X)<|ze t X+1-vQ t X}else if K=6 then{m with r:=jd m.r a.toNat (rh m.hs (vQ t X)<|ze t X+1-vQ t X:V)}else if K=7 then{m with r:=jd m.r a.toNat<|wrap64<|m.r X.toNat+m.r C.toNat}else if K=8 then{m with r:=jd m.r a.toNat<|wrap64<|m.r X.toNat-m.r C.toNat}else if K=9 then{m with nx:=if m.r a.toNat<m.r X.toNat then C.toNat else m.nx}else{m with ab:=T,ch:=[],nx:=t.nc}
def qg(t:jE)(m:kC):kC:=vh t (t.c<|4*m.nx) (t.c<|4*m.nx+1) (t.c<|4*m.nx+2) (t.c<|4*m.nx+3) {m with nx:=m.nx+1}
def sk(t:jE):V->kC->kC|0,m=>m|f+1,m=>if m.nx<t.nc then sk t f (qg t m)else m
def EV(K:Y):FuncId:=if K=1 then 197 else if K=2 then 198 else if K=3 then 199 else if K=4 then 201 else if K=5 then 203 else if K=6 then 205 else if K=7 then 206 else if K=8 then 207 else if K=9 then 208 else 209
def oz{n lo hi:Y}(h:jF n lo hi=T)(a:0<=lo):∃k:V,n=k/\lo<=k/\(k:Y)<=hi:=by simp[jF,aD,DA]at h;exact⟨n.toNat,A,A,A⟩
def Bn{n:V}{f:V->Y}{x:Y}(h:mS n f x=T)(hk:qZ n f=T):∃k:V,x=k/\k<100:=by let⟨i,hi,a⟩:=vi h;simp[qZ,aD]at hk;have:=rO hk.2 hi;rw[DB]at a;rw[a]at this;obtain⟨k,rfl,_,b⟩:=oz this<|aY 0;grind
structure wN(t:jE):U where
 ok:oo t=true
 wf:∀j,j<t.nc*4->(aT ak<|t.c j).wf=true
def wN.Bs{t:jE}(h:wN t):qZ t.nr t.r=T/\qZ t.nw t.wr=T/\wP t.ng t.g=T/\t.nc<=16/\lU (vj t) t.nc=T:=by have:=h.ok;simp[oo,BM,aD,DA]at this;grind
def wN.Al{t:jE}(h:wN t){j:V}(b:j<t.ng):∃lo hi:V,t.g (2*j)=lo/\t.g (2*j+1)=hi/\lo<=hi/\hi<=99:=by have:=h.Bs.2.2.1;simp[wP,aD]at this;have:=rO this.2 b;simp[tK,aD,DA]at this;let⟨⟨a,c⟩,f⟩:=this;let⟨lo,e1,d,e⟩:=oz a<|aY 0;let⟨hi,e2,b1,b2⟩:=oz c<|aY 0;grind
def RQ(m:kC):U:=∀i,i<4->(aT ak<|m.r i).wf=T
def aaE(t:jE)(z:wN t)(B p q:V)(a b c d:y)(n:V)(m:kC)(w:u)(h:lG w B p q a b c d n m)(E:oL w a b c d t)(R:RQ m)(Q:n<=100000)(H:m.ch.length<=1000)(at':V)(G:at'<t.nc):aA ar (EV<|t.c<|4*at') #[ay p,aK #[(t.c<|4*at'),(t.c<|4*at'+1),(t.c<|4*at'+2),(t.c<|4*at'+3)]] w λe o=>e=az (bj #[])/\lG o B p q a b c d (n+1) (vh t (t.c<|4*at') (t.c<|4*at'+1) (t.c<|4*at'+2) (t.c<|4*at'+3) m)/\aq B w o:=by
 let⟨k1,k2,k3,k4,k5⟩:=z.Bs;have i:=rO k5 G;unfold vj at i;have aa:=z.wf (4*at'+2) A;generalize t.c (4*at')=K at*;generalize t.c (4*at'+1)=l at*;generalize t.c (4*at'+2)=X at*;generalize t.c (4*at'+3)=C at*;unfold Cu at i;have up:∀{o:u}{O:kC},lG o B p q a b c d n O->lG o B p q a b c d (n+1) O:=λh=>⟨h.ge,h.ex,h.pQ.mq⟩;by_cases e1:K=1;.subst e1;rw[rW rfl]at i;obtain⟨l,rfl,_,r⟩:=oz i<|aY 0;refine aE (agZ B p q a b c d n m w h 1 X C l A) λe o f=>⟨f.1,up ?_,f.2.2⟩;simpa[vh]using f.2.1
 by_cases e2:K=2;.subst e2;rw[jz,rW rfl,aD,cf]at i;obtain⟨l,rfl,_,r⟩:=oz i.1<|aY 0;obtain⟨X,rfl,s⟩:∃k:V,X=k/\k<100:=i.2.elim (λh=>Bn h k1) λh=>Bn h k2;refine aE (YD B p q a b c d n m w h 2 C l X A s) λe o f=>⟨f.1,up ?_,f.2.2⟩;simpa[vh]using f.2.1
 by_cases e3:K=3;.subst e3;rw[jz,jz,rW rfl,aD]at i;obtain⟨l,rfl,r⟩:=Bn i.1 k2;obtain⟨X,rfl,_,s⟩:=oz i.2<|aY 0;refine aE (XL B p q a b c d n m w h 3 C l X r A (R X A) Q H) λe o f=>⟨f.1,?_,f.2.2⟩;simpa[vh]using f.2.1
 by_cases P:K=4;.subst P;rw[jz,jz,jz,rW rfl]at i;obtain⟨l,rfl,r⟩:=Bn i k2;refine aE (adz B p q a b c d n m w h 4 X C l r H) λe o f=>⟨f.1,up ?_,f.2.2⟩;simpa[vh]using f.2.1
 by_cases e5:K=5;.subst e5;rw[jz,jz,jz,jz,rW<|aP rfl,aD]at i;obtain⟨l,rfl,_,r⟩:=oz i.1<|aY 0;obtain⟨X,rfl,_,s⟩:=oz i.2<|aY 0;let⟨lo,hi,v,x,F,D⟩:=z.Al (j:=X) A;refine aE (Yc B p q a b c d n m w h 5 C l X lo hi t.ng t.g E.g A A v x F D) λe o f=>⟨f.1,up ?_,f.2.2⟩;simpa[vh,vQ,ze,v,x]using f.2.1
 by_cases e6:K=6;.subst e6;rw[jz,jz,jz,jz,rW<|aN rfl,aD]at i;obtain⟨l,rfl,_,r⟩:=oz i.1<|aY 0;obtain⟨X,rfl,_,s⟩:=oz i.2<|aY 0;let⟨lo,hi,v,x,F,D⟩:=z.Al (j:=X) A;refine aE (adf B p q a b c d n m w h 6 C l X lo hi t.ng t.g E.g A A v x F D) λe o f=>⟨f.1,up ?_,f.2.2⟩;simpa[vh,vQ,ze,v,x]using f.2.1
 by_cases e7:K=7;.subst e7;rw[jz,jz,jz,jz,jz,rW<|aP rfl,aD,aD]at i;obtain⟨l,rfl,_,r⟩:=oz i.1.1<|aY 0;obtain⟨X,rfl,_,s⟩:=oz i.1.2<|aY 0;obtain⟨C,rfl,_,N⟩:=oz i.2<|aY 0;refine aE (afN B p q a b c d n m w h 7 l X C A A A) λe o f=>⟨f.1,up ?_,f.2.2⟩;simpa[vh]using f.2.1
 by_cases S:K=8;.subst S;rw[jz,jz,jz,jz,jz,rW<|aN rfl,aD,aD]at i;obtain⟨l,rfl,_,r⟩:=oz i.1.1<|aY 0;obtain⟨X,rfl,_,s⟩:=oz i.1.2<|aY 0;obtain⟨C,rfl,_,N⟩:=oz i.2<|aY 0;refine aE (ajL B p q a b c d n m w h 8 l X C A A A) λe o f=>⟨f.1,up ?_,f.2.2⟩;simpa[vh]using f.2.1
 by_cases M:K=9;.subst M;rw[jz,jz,jz,jz,jz,jz,rW rfl,aD,aD]at i;obtain⟨l,rfl,_,r⟩:=oz i.1.1<|aY 0;obtain⟨X,rfl,_,s⟩:=oz i.1.2<|aY 0;obtain⟨C,rfl,_,N⟩:=oz i.2 A;refine aE (acA B p q a b c d n m w h 9 l X C A A) λe o f=>⟨f.1,up ?_,f.2.2⟩;simpa[vh]using f.2.1
 .rw[BW e1,BW e2,BW e3,BW P,jz,jz,BW M,DB]at i;subst i;obtain⟨da,W,rfl,-⟩:=E.c;refine aE (agH B p q a b c da t.nc W n m w h 10 l X C) λe o f=>⟨f.1,up ?_,f.2.2⟩;simpa[vh]using f.2.1
end
section
open Go.RowKit
def DG(l:L<|V×Y):(V->I)×(V->Y):=l.foldl (λs p=>(jd s.1 p.1 T,jd s.2 p.1 p.2)) (λ_=>aj,λ_=>0)
def xV(l:L<|V×Y):kC:=⟨aj,λ_=>0,[],(DG l).1,(DG l).2,0⟩
def oy(t:jE)(l:L<|V×Y):kC:=sk t t.nc<|xV l
def ajV{l:L<|V×Y}{k:V}{p:V×Y}(h:l[k]?=J p):xV (l.take<|k+1)={xV (l.take k)with hs:=jd (xV<|l.take k).hs p.1 T,vl:=jd (xV<|l.take k).vl p.1 p.2}:=by
 have:DG (l.take<|k+1)=(jd (DG<|l.take k).1 p.1 T,jd (DG<|l.take k).2 p.1 p.2):=by rw[dO,h];simp[DG,fE]
 simp[xV,this]
abbrev mH(x:Y):U:=(aT ak x).wf=T
structure um(t:jE)(m:kC):U where
 VH:RQ m
 aoo:∀k,m.hs k=true->mH (m.vl k)
 nx:m.nx<=t.nc
 len:m.ch<=m.nx
 Bs:∀c∈m.ch,c.lX<100/\mH c.nk/\(c.vP=true->c.nk=0)
def abB{r:V->Y}(h:∀i,i<4->mH (r i))(a:V){x:Y}(b:mH x):∀i,i<4->mH (jd r a x i):=by intro i hi;unfold jd;grind
def L9{n:V}(h:n<=1000):mH (n:Y):=WalkArith.wf_i64 A
def ahG{hs:V->I}{vl:V->Y}(h:∀k,hs k=T->mH (vl k))(k:V):mH<|kL hs vl k:=by
 unfold kL;split;.grind
 .exact L9 (n:=0) A
def WT(t:jE){l:L<|V×Y}(h:∀p∈l,mH p.2):um t<|xV l:=by
 refine⟨λi _=>L9 (n:=0) A,?_,j9,j9,by simp[xV]⟩;have:∀(l:L<|V×Y)(s:(V->I)×(V->Y)),(∀k,s.1 k=T->mH (s.2 k))->(∀p∈l,mH p.2)->∀k,(l.foldl (λs p=>(jd s.1 p.1 T,jd s.2 p.1 p.2)) s).1 k=T->mH ((l.foldl (λs p=>(jd s.1 p.1 T,jd s.2 p.1 p.2)) s).2 k):=by intro l;induction l with|nil=>simp|cons p l c=>intro s hs a;refine c _ ?_ λq b=>a q (by simp[b]);intro k hk;simp[jd]at hk⊢;grind
 exact this l _ (λk hk=>by cases hk) h
def um.mq{t:jE}(w:wN t){m:kC}(h:um t m)(d:m.nx<t.nc):um t (qg t m)/\m.nx<(qg t m).nx:=by
 let⟨k1,k2,k3,k4,k5⟩:=w.Bs;have a:=rO k5 d;unfold vj at a;have H:=w.wf (4*m.nx+2) A;unfold qg;generalize t.c (4*m.nx)=K at*;generalize t.c (4*m.nx+1)=f at*;generalize t.c (4*m.nx+2)=X at*;generalize t.c (4*m.nx+3)=C at*;unfold Cu at a;unfold vh;let⟨i,l,P,Q,E⟩:=h;have b:∀(f:V){x:Y},mH x->um t {m with nx:=m.nx+1,r:=jd m.r f x}/\m.nx<m.nx+1:=λf x q=>⟨⟨abB i f q,l,d,pC,E⟩,iG _⟩;have g:∀(hs:V->I)(vl:V->Y)(c:qU),(∀k,hs k=T->mH (vl k))->c.lX<100/\mH c.nk/\(c.vP=T->c.nk=0)->um t {m with nx:=m.nx+1,hs:=hs,vl:=vl,ch:=m.ch++[c]}/\m.nx<m.nx+1:=λhs vl c o p=>⟨⟨i,o,d,pC,λx q=>pC⟩,iG _⟩;by_cases e1:K=1;.grind
 rw[BW e1];rw[BW e1]at a;by_cases e2:K=2;.rw[rW e2];exact b _<|ahG l _
 rw[BW e2];rw[BW e2]at a;by_cases e3:K=3;.rw[rW e3];rw[rW e3,aD]at a;obtain⟨f,rfl,z⟩:=Bn a.1 k2;obtain⟨X,rfl,_,F⟩:=oz a.2<|aY 0;have q:=i X A;refine g _ _ ⟨f,m.r X,aj⟩ (λk hk=>?_) ⟨z,q,λe=>by cases e⟩;simp[dz]at hk⊢;unfold jd at hk⊢;grind
 rw[BW e3];rw[BW e3]at a;by_cases s:K=4;.rw[rW s];rw[rW s]at a;obtain⟨f,rfl,z⟩:=Bn a k2;refine g _ m.vl ⟨f,0,T⟩ (λk hk=>l k ?_) ⟨z,L9 (n:=0) A,λ_=>rfl⟩;unfold jd at hk;grind
 rw[BW s];rw[BW s]at a;by_cases e5:K=5;.rw[rW e5];exact b _<|WJ _ _ _ _
 rw[BW e5];by_cases e6:K=6;.rw[rW e6];rw[rW<|aN e6,aD]at a;obtain⟨X,rfl,_,F⟩:=oz a.2<|aY 0;let⟨lo,hi,o,p,N,O⟩:=w.Al (j:=X) A;refine b _<|L9 ?_;apply bP (wj _ _);simp[vQ,ze,o,p];omega
 rw[BW e6];rw[jz]at a;by_cases D:K=7;.rw[rW D];exact b _<|fB _
 rw[BW D];by_cases B:K=8;.rw[rW B];exact b _<|fB _
 rw[BW B];rw[jz]at a;by_cases v:K=9;.rw[rW v];rw[rW v,aD,aD]at a;obtain⟨C,rfl,G,M⟩:=oz a.2 A;have:∀x,m.nx+1<=x->x<=t.nc->um t {m with nx:=x}/\m.nx<x:=λx o p=>⟨⟨i,l,p,pC,E⟩,o⟩;grind
 rw[BW v];exact⟨⟨i,l,jK,j9,F0⟩,d⟩
def Qe{t:jE}(b:wN t):∀(f:V)(m:kC),um t m->t.nc-m.nx<=f->sk t f m=sk t (t.nc-m.nx) m|0,m,_,h=>by grind|f+1,m,e,h=>by by_cases a:m.nx<t.nc;(.let⟨c,i⟩:=e.mq b a;let⟨g,d⟩:=(⟨t.nc-m.nx-1,A⟩:∃g,t.nc-m.nx=g+1);rw[d];unfold sk;rw[rW a,rW a,Qe b f _ c A,<-Qe b g _ c A]);.rw[show t.nc-m.nx=0 by omega];unfold sk;rw[BW a]
def Dz(t:jE)(m:kC):kC:=sk t (t.nc-m.nx) m
def alM{t:jE}(b:wN t){m:kC}(h:um t m)(a:m.nx<t.nc):Dz t m=Dz t (qg t m):=by
 let⟨d,e⟩:=h.mq b a;unfold Dz;obtain⟨g,c⟩:∃g,t.nc-m.nx=g+1:=⟨t.nc-m.nx-1,A⟩;rw[c];conv=>lhs;unfold sk
 rw[rW a,Qe b g _ d A]
def akD{t:jE}{m:kC}(h:¬m.nx<t.nc):Dz t m=m:=by unfold Dz;rw[show t.nc-m.nx=0 by omega];rfl
def ahz(t:jE)(l:L<|V×Y):Dz t (xV l)=oy t l:=rfl
end
section
structure Good(D:jM):U where
 nb:D.nb<=3
 nl:D.nl<=24
 SW:lU (nz 1 D.fb) D.nb=true
 jb:lU (λi=>oo<|D i) D.nl=true
def Ak{n lo hi:Y}:jF n lo hi=T↔lo<=n/\n<=hi:=by simp[jF]
def Rl{lo:Y}{f:V->Y}{n j:V}(h:lU (nz lo f) n=T)(a:j+1<n):f j<f (j+1):=by have:=rO h a;simp[nz,Ak]at this;omega
def SN{lo:Y}{f:V->Y}{n:V}(h:lU (nz lo f) n=T):∀d i,i+d+1<n->f i<f (i+d+1)|0,i,hi=>Rl h hi|d+1,i,hi=>by have a:=SN h d i A;have b:=Rl (j:=i+d+1) h A;grind
def alr{lo:Y}{f:V->Y}{n i:V}(h:lU (nz lo f) n=T)(a:i<v)(b:v<n):f i<f v:=by have:=SN h (v-i-1) i A;grind
def UL{f:V->Y}{n:V}(x:Y)(a:∀i j,i<j->j<n->f i<f j):∀m,m<=n->∀i,i<m->(f i<=x↔i<ku (λi=>decide<|f i<=x) m)|0,_,i,hi=>by omega|m+1,e,i,hi=>by have c:=UL x a m A;have d:=wj (λi=>decide<|f i<=x) m;by_cases b:f m<=x;(. (have all:ku (λi=>decide<|f i<=x) m=m:=by cases m with|zero=>rfl|succ k=>have g:=(c k A).1 (by have:=a k (k+1) A A;omega);omega);rw[Dp<|by simpa using b,all];grind);.rw[AS<|by simpa using b];grind
def WB{p q:V->I}(h:∀i,p i=T->q i=T):∀n,ku p n<=ku q n|0=>jK|n+1=>by have:=WB h n;simp[ku];grind
def Ue(nb:V)(fb:V->Y){x:Y}(h:x<=B):mo nb fb x<=mo nb fb B:=WB (λi hi=>pC) nb
def CO(nb:V)(fb:V->Y)(x:Y):mo nb fb x<=nb:=wj _ _
def Good.Br{D:jM}(G:Good D):∀i j,i<j->j<D.nb->D.fb i<D.fb j:=λ_ _ h a=>alr G.SW h a
def Good.bound{D:jM}(G:Good D)(i:V)(h:i<D.nb):1<=D.fb i/\D.fb i<=99:=by
 have:∀k,k<=D.nb->∀j,j<k->1<=D.fb j/\D.fb j<=99:=by intro k;induction k with|zero=>omega|succ k a=>intro hk j b;by_cases e:j=k;(.subst e;have:=rO G.SW (k:=j) A;cases j with|zero=>simpa[nz,Ak]using this|succ i=>simp[nz,Ak]at this;grind);grind
 grind
def Good.lX{D:jM}(G:Good D){i:V}(hi:i<D.nl):qZ (D i).nr (D i).r=T/\qZ (D i).nw (D i).wr=T/\wP (D i).ng (D i).g=T:=by have:=rO G.jb hi;simp[oo,aD]at this;grind
def Good.VD{D:jM}(G:Good D){i:V}(hi:i<D.nl)(a:v<(D i).nr):0<=(D i).r v/\(D i).r v<=99:=by have:=(G.lX hi).1;simp[qZ,aD]at this;exact Ak.1<|rO this.2 a
def Good.JI{D:jM}(G:Good D){i:V}(hi:i<D.nl)(a:v<(D i).nw):0<=(D i).wr v/\(D i).wr v<=99:=by have:=(G.lX hi).2.1;simp[qZ,aD]at this;exact Ak.1<|rO this.2 a
def Good.Tz{D:jM}(G:Good D){i:V}(hi:i<D.nl)(a:v<(D i).ng):0<=(D i).g (2*v)/\(D i).g (2*v)<=(D i).g (2*v+1)/\(D i).g (2*v+1)<=99:=by have:=(G.lX hi).2.2;simp[wP,aD]at this;have:=rO this.2 a;simp[tK,aD,Ak,DA]at this;omega
def Good.reach{D:jM}(G:Good D){i:V}(hi:i<D.nl)(n:v<(D i).ng){p:V}(h:Am D.nb D.fb p ((D i).g<|2*v) ((D i).g<|2*v+1)=T):∃k:V,k<100/\vE (D i) k v=T/\mo D.nb D.fb k=p:=by
 let⟨t,z,w⟩:=G.Tz hi n;simp[Am,aD,DA]at h;have pre:=λx=>UL x G.Br D.nb jK;by_cases e:mo D.nb D.fb ((D i).g<|2*v)=p;.refine⟨((D i).g<|2*v).toNat,A,?_,?_⟩;(.simp[vE,aD,DA];omega);grind
 .have f:=CO D.nb D.fb<|(D i).g<|2*v+1;(have c:p-1<D.nb:=A);have b:=G.bound (p-1) c;(have lo:¬D.fb (p-1)<=(D i).g (2*v):=λm=>by have r:=(pre ((D i).g<|2*v) (p-1) c).1 m;(have q:mo D.nb D.fb ((D i).g<|2*v)<=p:=A);simp[mo]at e q;omega);have l:=(pre ((D i).g<|2*v+1) (p-1) c).2 (by(have:p<=mo D.nb D.fb ((D i).g<|2*v+1):=A);simp[mo]at this;omega);refine⟨(D.fb<|p-1).toNat,A,?_,?_⟩;(.simp[vE,aD,DA];omega);.rw[show((D.fb<|p-1).toNat)=D.fb (p-1)from A];have s:=(pre (D.fb<|p-1) (p-1) c).1 A;(have o:mo D.nb D.fb (D.fb<|p-1)<=p:=by obtain a|a:=ey p D.nb;(.obtain d|d:=ey p<|mo D.nb D.fb<|D.fb<|p-1;(.exact zW ((pre (D.fb<|p-1) p a).2 d)<|by have:=G.Br (p-1) p A a;omega);.exact d);.have:=CO D.nb D.fb<|D.fb<|p-1;omega);simp[mo]at o⊢;omega
def Good.Vb{D:jM}(G:Good D){i:V}(hi:i<D.nl)(d:¬(D i).nr+(D i).nw+(D i).ng=0):∃k:V,k<100/\lA (D i) k=T:=by
 by_cases a:0<(D i).nr;.have:=G.VD hi a;refine⟨((D i).r 0).toNat,A,?_⟩;rw[show(((D i).r 0).toNat)=(D i).r 0 from A,lA,mS,pM a F0];rfl
 .by_cases c:0<(D i).nw;(.have:=G.JI hi c;refine⟨((D i).wr 0).toNat,A,?_⟩;rw[show(((D i).wr 0).toNat)=(D i).wr 0 from A,lA];rw[show mS (D i).nw (D i).wr ((D i).wr 0)=T from pM c F0];simp);. (have b:0<(D i).ng:=A);have:=G.Tz hi b;refine⟨((D i).g<|2*0).toNat,A,?_⟩;rw[show(((D i).g<|2*0).toNat)=(D i).g (2*0)from A,lA];rw[pM b<|by simp only[vE,aD,DA];omega];simp
def R4{t:jE}(a:t.nr+t.nw+t.ng=0)(x:Y):lA t x=aj:=by simp[lA,mS,(by omega:t.nr=0),(by omega:t.nw=0),(by omega:t.ng=0),lQ]
def Good.Tw{D:jM}(G:Good D){i:V}(hi:i<D.nl)(p:V):BP D i p=lY D i p:=by
 by_cases d:(D i).nr+(D i).nw+(D i).ng=0;. (have e1:lQ (λk=>lA (D i) k&&((mo D.nb D.fb k)==(p:Y))) 100=aj:=by cases e:lQ (λk=>lA (D i) k&&((mo D.nb D.fb k:Y)==(p))) 100 with|false=>rfl|true=>let⟨k,_,hk⟩:=vi e;simp[R4 d]at hk);(have e2:lQ (λk=>lA (D i) k) 100=aj:=by cases e:lQ (λk=>lA (D i) k) 100 with|false=>rfl|true=>let⟨k,_,hk⟩:=vi e;simp[R4 d]at hk);rw[BP,e1,e2,lY,rW d];rfl
 .let⟨q,l,m⟩:=G.Vb hi d;rw[BP,(pM l m:lQ (λk=>lA (D i) k) 100=T),lY,BW d];simp[iH,Bool.false_and,ez];rw[eF];constructor;(.intro h;let⟨k,hk,f⟩:=vi h;simp[aD,DB]at f;let⟨c,o⟩:=f;simp[lA,cf]at c;obtain(c|c)|c:=c;(.let⟨j,b,a⟩:=vi c;rw[DB]at a;rw[show Ci D p (D i).nr (D i).r=T from pM b pC];rfl);(.let⟨j,b,a⟩:=vi c;simp[vE,aD,DA]at a;have m1:=Ue D.nb D.fb a.1;have m2:=Ue D.nb D.fb a.2;rw[show JD D p (D i).ng (D i).g=T from pM b (by simp[Am,aD,DA];omega)];simp);.let⟨j,b,a⟩:=vi c;rw[DB]at a;rw[show Ci D p (D i).nw (D i).wr=T from pM b pC];simp);.intro h;simp[cf]at h;obtain(h|h)|h:=h;(.let⟨j,b,a⟩:=vi h;have:=G.VD hi b;apply pM (k:=((D i).r j).toNat) A;rw[show(((D i).r j).toNat)=(D i).r j from A,a,lA];rw[show mS (D i).nr (D i).r ((D i).r j)=T from pM b F0];rfl);(.let⟨j,b,a⟩:=vi h;have:=G.JI hi b;apply pM (k:=((D i).wr j).toNat) A;rw[show(((D i).wr j).toNat)=(D i).wr j from A,a,lA];rw[show mS (D i).nw (D i).wr ((D i).wr j)=T from pM b F0];simp);.let⟨j,b,a⟩:=vi h;let⟨k,hk,n,o⟩:=G.reach hi b a;apply pM hk;rw[o,lA];rw[pM b n];simp
structure jy where
 jb:V
 kh:I
 jR:L<|V×Y
 jv:V->I
structure Part where
 hs:V->I
 vl:V->Y
 n:V
 up:V
 jf:L jy
 jS:V->L kU
 ko:L kU
structure AF where
 dn:I
 ab:I
 r:V->Y
structure jL where
 jo:V->Part
 kO:V->AF
structure jH where
 D:jM
 W:V
 C:V
 K:V
instance aof:CoeFun jL λ_=>V->Part:=⟨jL.jo⟩
instance anY:CoeFun jH λ_=>V->jE:=⟨λc=>c.D.ts⟩
instance aoq:Coe jH jM:=⟨jH.D⟩
def nh(D:jM)(k:V):V:=mo D.nb D.fb k
def EH(D:jM)(a b p:V):I:=lQ (λj=>(mo D.nb D.fb ((D a).wr j)==p)&&lA (D b) ((D a).wr j)) (D a).nw
def ri(D:jM)(a b p:V):I:=EH D a b p||EH D b a p
def tI(D:jM)(p i:V):V:=uq (λi=>lY D i p) (D.nl-i) i
def tX(hs:V->I)(vl:V->Y):V->L (V×Y)|0=>[]|k+1=>tX hs vl k++if hs k then[(k,vl k)]else[]
def yI(t:jE)(hs:V->I)(vl:V->Y):L<|V×Y:=(tX hs vl 100).filter λx=>lA t x.1
def rZ(i:V):jy:=⟨i,aj,[],λ_=>aj⟩
def sh(c:jH)(p:V)(P:Part):n6 Part:=if P.up<c.D.nl/\P.jf≠c.W then J {P with jf:=P.jf++[rZ P.up],up:=tI c p<|P.up+1}else ae
def ym(D:jM)(p:V)(l:L jy)(i:V):I:=l.all λe=>!ri D e.jb i p
def tM(D:jM)(p:V)(l:L jy)(at':V):I:=match l[at']? with|J e=>ym D p (l.take at') e.jb|ae=>aj
def pN(f:jy->I)(l:L jy)(at':V):I:=match l[at']? with|J e=>f e|ae=>aj
def pA(D:jM)(p:V)(l:L jy)(at':V):I:=pN (λe=>!e.kh) l at'&&tM D p l at'
def ry(D:jM)(p:V)(l:L jy):V:=uq (pA D p l) l 0
def yL(D:jM)(P:Part)(e:jy):jy:={e with kh:=T,jR:=e.jR++yI (D e.jb) P.hs P.vl}
def pX(c:jH)(p:V)(P:Part):n6 Part:=if ry c p P.jf<P.jf then J {P with jf:=P.jf.modify (ry c p P.jf)<|yL c P}else ae
def ui(D:jM)(q:V)(e:jy):I:=e.kh&&!e.jv q&&lY D e.jb q
def oD(D:jM)(q:V)(l:L jy):V:=uq (pN (ui D q) l) l 0
def vG(q:V)(e:jy):jy:={e with jv:=jd e.jv q T}
def wK(p:V)(l:L jy)(i:V):kU:=match l[i]? with|J e=>⟨p,e.jb,e.jR⟩|ae=>⟨p,0,[]⟩
def tH(q i:V)(P:Part):Part:={P with jf:=P.jf.modify i<|vG q}
def xu(p:V)(x:kU)(P:Part):Part:={P with jS:=jd P.jS p<|P.jS p++[x]}
def se(c:jH)(p q:V)(E:jL):n6 jL:=if oD c q (E p).jf<(E p).jf.length/\((E q).jS p)≠c.C then J ⟨jd (jd E.jo p<|tH q (oD c q (E p).jf)<|E p) q<|xu p (wK p (E p).jf<|oD c q (E p).jf)<|E q,E.kO⟩else ae
def qi(q:V)(P:Part):n6 Part:=match P.jS q with|[]=>ae|x::l=>J {P with ko:=P.ko++[x],jS:=jd P.jS q l}
def lM(P:Part)(i q:V):I:=P.ko.any λt=>t.jb==i&&t.fr==q
def sU(D:jM)(p:V)(P:Part)(e:jy):I:=lU (λq=>q==p||!lY D e.jb q||(e.jv q&&lM P e.jb q))<|D.nb+1
def mP(c:jH)(p:V)(P:Part):L jy:=(P.jf.filter λe=>e.kh&&sU c p P e).take c.K
def Fj(D:jM)(p:V)(s:(V->I)×(V->Y))(x:qU):(V->I)×(V->Y):=if nh D x.lX=p then(if x.vP then(jd s.1 x.lX aj,s.2)else(jd s.1 x.lX T,jd s.2 x.lX x.nk))else s
def qW(D:jM)(p:V)(s:(V->I)×(V->Y))(l:L qU):(V->I)×(V->Y):=l.foldl (Fj D p) s
def yl(D:jM)(P:Part)(e:jy):kC:=oy (D e.jb)<|e.jR++nZ e.jb P.ko
def xh(D:jM)(p i:V)(m:kC)(P:Part):Part:={P with hs:=(qW D p (P.hs,P.vl) m.ch).1,vl:=(qW D p (P.hs,P.vl) m.ch).2,n:=P.n+m.ch,jf:=P.jf.filter λe=>!(e.jb==i),ko:=P.ko.filter λt=>!(t.jb==i)}
def qF(D:jM)(p:V)(E:jL)(x:V×kC):jL:=⟨jd E.jo p<|xh D p x.1 x.2<|E p,jd E.kO x.1 ⟨T,x.2.ab,x.2.r⟩⟩
def qC(c:jH)(p:V)(P:Part):L<|V×kC:=(mP c p P).map λe=>(e.jb,yl c P e)
def sC(c:jH)(p:V)(E:jL):n6 jL:=if mP c p (E p)=[]then ae else J ((qC c p<|E p).foldl (qF c p) E)
def qp(E:jL)(p:V)(o:n6 Part):n6 jL:=o.map λP=>{E with jo:=jd E.jo p P}
def qc(c:jH)(E:jL)(p k q:V):n6 jL:=if k=1 then qp E p (sh c p<|E p)else if k=2 then qp E p (pX c p<|E p)else if k=3 then(if q<=c.D.nb/\p≠q then se c p q E else ae)else if k=4 then(if q<=c.D.nb/\p≠q then qp E p (qi q<|E p)else ae)else if k=5 then sC c p E else ae
def my(P:Part)(i:V):I:=decide (i<P.up)&&!(P.jf.any λe=>e.jb==i)
def Aj(c:jH)(E:jL)(i:V):I:=lU (λp=>!lY c i p||my (E p) i)<|c.D.nb+1
def zZ:AF:=⟨aj,aj,λ_=>0⟩
def ub(c:jH)(E:jL)(i:V):AF:=if Aj c E i then E.kO i else zZ
def BJ(D:jM)(p:V)(l:L jy):V:=ku (pA D p l) l
def B7(D:jM)(p:V)(l:L jy):V:=ku (λi=>!tM D p l i) l
def tQ(D:jM)(ns:V)(fs:V->Y)(p:V):Part:=⟨qJ D.nb D.fb fs ns p,qQ D.nb D.fb fs ns p,100,tI D p 0,[],λ_=>[],[]⟩
def tW(D:jM)(ns:V)(fs:V->Y):jL:=⟨tQ D ns fs,λ_=>zZ⟩
def yv(fs:V->Y):V->V->I|0,_=>aj|n+1,k=>if fs (2*n)=k then T else yv fs n k
def Bx(fs:V->Y):V->V->Y|0,_=>0|n+1,k=>if fs (2*n)=k then fs (2*n+1)else Bx fs n k
def nQ(t:jE)(s:(V->I)×(V->Y)):kC:=sk t t.nc ⟨aj,λ_=>0,[],s.1,s.2,0⟩
def ov(t:jE)(s:(V->I)×(V->Y)):(V->I)×(V->Y):=if(nQ t s).ab then s else((nQ t s).hs,(nQ t s).vl)
def rH(D:jM)(s:(V->I)×(V->Y)):V->(V->I)×(V->Y)|0=>s|i+1=>ov (D i) (rH D s i)
abbrev lH:=(V->I)×(V->Y)
def jZ(s:lH)(k:V):n6 Y:=if s.1 k then J (s.2 k)else ae
def Gz(s:lH)(k:V)(x:Y)(j:V):jZ (jd s.1 k T,jd s.2 k x) j=if j=k then J x else jZ s j:=by by_cases h:j=k<;>simp[jZ,jd,h]
def Hy(s:lH)(k j:V):jZ (jd s.1 k aj,s.2) j=if j=k then ae else jZ s j:=by by_cases h:j=k<;>simp[jZ,jd,h]
def JO(hs:V->I)(vl:V->Y)(k:V):kL hs vl k=(jZ (hs,vl) k).getD 0:=by cases h:hs k<;>simp[kL,jZ,h]
def LD(hs:V->I)(vl:V->Y)(k:V):hs k=(jZ (hs,vl) k).isSome:=by cases h:hs k<;>simp[jZ,h]
def UK{s a:lH}{k:V}(h:jZ s k=jZ a k):s.1 k=a.1 k/\(s.1 k=T->s.2 k=a.2 k):=by unfold jZ at h;grind
def Rf{hs a:V->I}{vl b:V->Y}{lo:V}:∀{n:V},(∀j,j<n->jZ (hs,vl) (lo+j)=jZ (a,b) (lo+j))->pF hs vl lo n=pF a b lo n|0,_=>rfl|n+1,h=>by let⟨c,d⟩:=UK<|h n A;simp at c d;simp[pF,Rf (n:=n) λj e=>h j A,<-c];grind
def Xw{hs a:V->I}{vl b:V->Y}{lo:V}:∀{n:V},(∀j,j<n->jZ (hs,vl) (lo+j)=jZ (a,b) (lo+j))->rh hs lo n=rh a lo n|0,_=>rfl|n+1,h=>by have c:=Xw (n:=n) λj e=>h j A;let⟨d,f⟩:=UK<|h n A;simp at d;simp[rh]at c⊢;simp[ku,c,d]
structure xW(t:jE)(m m':kC):U where
 ab:m.ab=m'.ab
 r:m.r=m'.r
 ch:m.ch=m'.ch
 nx:m.nx=m'.nx
 c:∀k:V,lA t k=true->jZ (m.hs,m.vl) k=jZ (m'.hs,m'.vl) k
def HZ{t:jE}{k:Y}(h:mS t.nr t.r k=T\/mS t.nw t.wr k=T):lA t k=T:=by obtain h|h:=h<;>simp[lA,h]
def GH{t:jE}(h:oo t=T):qZ t.nr t.r=T/\qZ t.nw t.wr=T/\wP t.ng t.g=T/\t.nc<=16/\lU (vj t) t.nc=T:=by simp[oo,BM,aD,DA]at h;grind
def KE{n lo hi:Y}(h:jF n lo hi=T)(a:0<=lo):∃k:V,n=k/\lo<=k/\(k:Y)<=hi:=by simp[jF,aD,DA]at h;exact⟨n.toNat,A,A,A⟩
def GJ{n:V}{f:V->Y}{x:Y}(h:mS n f x=T)(hk:qZ n f=T):∃k:V,x=k/\k<100:=by let⟨i,hi,a⟩:=vi h;simp[qZ,aD]at hk;have:=rO hk.2 hi;rw[DB]at a;rw[a]at this;obtain⟨k,rfl,_,b⟩:=KE this<|aY 0;grind
def Xd{t:jE}(h:oo t=T){j:V}(b:j<t.ng):∃lo hi:V,t.g (2*j)=lo/\t.g (2*j+1)=hi/\lo<=hi/\hi<=99:=by have:=(GH h).2.2.1;simp[wP,aD]at this;have:=rO this.2 b;simp[tK,aD,DA]at this;let⟨⟨a,c⟩,f⟩:=this;let⟨lo,e1,d,e⟩:=KE a<|aY 0;let⟨hi,e2,b1,b2⟩:=KE c<|aY 0;grind
def KC{t:jE}(h:oo t=T){k:V}(hk:lA t k=T):k<100:=by
 let⟨d,b,f,_,_⟩:=GH h;simp[lA,cf]at hk;obtain(hk|hk)|hk:=hk;.let⟨j,e,a⟩:=GJ hk d;omega
 .let⟨j,a,c⟩:=vi hk;let⟨lo,hi,e1,e2,_,_⟩:=Xd h a;simp[vE,e1,e2,aD,DA]at c;omega
 .let⟨j,e,a⟩:=GJ hk b;omega
def UB{t:jE}(h:oo t=T)(a:jF B 0 (t.ng-1)=T){j:V}(b:j<ze t B+1-vQ t B):lA t ((vQ t B+j:V):Y)=T:=by obtain⟨x,rfl,_,e⟩:=KE a<|aY 0;let⟨lo,hi,e1,e2,d,c⟩:=Xd h (j:=x) A;simp only[vQ,ze,dz,e1,e2]at b⊢;have:lQ (vE t ((lo+j:V):Y)) t.ng=T:=pM (k:=x) A (by simp[vE,e1,e2,aD,DA];omega);unfold lA;rw[this];simp
def xW.mq{t:jE}(i:oo t=T){m e:kC}(h:xW t m e)(l:m.nx<t.nc):xW t (qg t m)<|qg t e:=by
 let⟨k1,k2,k3,k4,k5⟩:=GH i;have d:=rO k5 l;unfold vj at d;let⟨e1,e2,e3,o,e5⟩:=h;unfold qg;rw[<-o];generalize t.c (4*m.nx)=K at*;generalize t.c (4*m.nx+1)=f at*;generalize t.c (4*m.nx+2)=X at*;generalize t.c (4*m.nx+3)=C at*;unfold Cu at d;unfold vh;by_cases c1:K=1;.simp[rW c1];exact⟨e1,by simp[e2],e3,rfl,e5⟩
 simp only[BW c1]at d⊢;by_cases c2:K=2;.simp only[rW c2]at d⊢;simp[aD,cf]at d;(have hk:∃k:V,X=k/\k<100:=by obtain h|h:=d.2;(.exact GJ h k1);.exact GJ h k2);obtain⟨k,rfl,_⟩:=hk;refine⟨e1,?_,e3,rfl,e5⟩;simp[JO,e2,dz,e5 k<|HZ d.2]
 simp[BW c2]at d⊢;by_cases c3:K=3;.simp[rW c3]at d⊢;refine⟨e1,e2,pC,rfl,λk hk=>?_⟩;have a:=Gz (m.hs,m.vl) f.toNat (m.r X.toNat) k;have b:=Gz (e.hs,e.vl) f.toNat (e.r X.toNat) k;grind
 simp[BW c3]at d⊢;by_cases c4:K=4;.simp[rW c4]at d⊢;refine⟨e1,e2,by simp[e3],rfl,λk hk=>?_⟩;have a:=Hy (m.hs,m.vl) f.toNat k;have b:=Hy (e.hs,e.vl) f.toNat k;grind
 simp[BW c4]at d⊢;by_cases c5:K=5;.simp[rW c5]at⊢;simp[rW<|aP c5,aD]at d;refine⟨e1,?_,e3,rfl,e5⟩;simp[e2];rw[Rf λj g=>e5 _<|UB i d.2 g]
 simp[BW c5]at⊢;by_cases c6:K=6;.simp[rW c6]at⊢;simp[rW<|aN c6,aD]at d;refine⟨e1,?_,e3,rfl,e5⟩;simp[e2];rw[Xw λj g=>e5 _<|UB i d.2 g]
 simp[BW c6]at⊢;by_cases c7:K=7;.simp[rW c7];exact⟨e1,by simp[e2],e3,rfl,e5⟩
 simp[BW c7]at⊢;by_cases n:K=8;.simp[rW n];exact⟨e1,by simp[e2],e3,rfl,e5⟩
 simp[BW n]at⊢;by_cases c9:K=9;.simp[rW c9];exact⟨e1,e2,e3,by simp[e2],e5⟩
 simp[BW c9];exact⟨rfl,e2,rfl,rfl,e5⟩
def xW.BO{t:jE}(c:oo t=T):∀(f:V){m b:kC},xW t m b->xW t (sk t f m) (sk t f b)|0,_,_,h=>h|f+1,m,b,h=>by unfold sk;by_cases a:m.nx<t.nc;(.rw[rW a,rW<|by rwa[<-h.nx]];exact xW.BO c f<|h.mq c a);.rwa[BW a,BW<|by rwa[<-h.nx]]
def CG(k:V)(o:n6 Y)(x:qU):n6 Y:=if x.lX=k then(if x.vP then ae else J x.nk)else o
structure CV(t:jE)(s:lH)(m:kC):U where
 c:∀k,m.ab=false->jZ (m.hs,m.vl) k=m.ch.foldl (CG k) (jZ s k)
 w:∀x∈m.ch,mS t.nw t.wr (x.lX:Y)=true
 a:m.ab=true->m.ch=[]/\t.nc<=m.nx
def CV.mq{t:jE}(n:oo t=T){s:lH}{m:kC}(h:CV t s m)(i:m.nx<t.nc):CV t s<|qg t m:=by
 let⟨k1,k2,k3,k4,k5⟩:=GH n;have b:=rO k5 i;unfold vj at b;let⟨d,f,q⟩:=h;have g:m.ab=aj:=pC
 unfold qg;generalize t.c (4*m.nx)=K at*;generalize t.c (4*m.nx+1)=p at*;generalize t.c (4*m.nx+2)=X at*;generalize t.c (4*m.nx+3)=C at*;unfold Cu at b;unfold vh;by_cases c1:K=1;.simp[rW c1];exact⟨d,f,λe=>pC⟩
 simp[BW c1]at b⊢;by_cases c2:K=2;.simp[rW c2];exact⟨d,f,λe=>pC⟩
 simp[BW c2]at b⊢;by_cases c3:K=3;.simp[rW c3,aD]at b⊢;obtain⟨k,rfl,_⟩:=GJ b.1 k2;refine⟨λj _=>?_,λx o=>?_,λe=>pC⟩;(.have a:=Gz (m.hs,m.vl) (k:Y).toNat (m.r X.toNat) j;simp only[dz]at a⊢;rw[a,d j g,fE];simp[dF,CG];grind);grind
 simp[BW c3]at b⊢;by_cases c4:K=4;.simp[rW c4]at b⊢;obtain⟨k,rfl,_⟩:=GJ b k2;refine⟨λj _=>?_,λx o=>?_,λe=>pC⟩;(.have a:=Hy (m.hs,m.vl) (k:Y).toNat j;simp only[dz]at a⊢;rw[a,d j g,fE];simp[dF,CG];grind);grind
 simp[BW c4]at b⊢;by_cases c5:K=5;.simp[rW c5];exact⟨d,f,λe=>pC⟩
 simp[BW c5]at⊢;by_cases c6:K=6;.simp[rW c6];exact⟨d,f,λe=>pC⟩
 simp[BW c6]at⊢;by_cases c7:K=7;.simp[rW c7];exact⟨d,f,λe=>pC⟩
 simp[BW c7]at⊢;by_cases l:K=8;.simp[rW l];exact⟨d,f,λe=>pC⟩
 simp[BW l]at⊢;by_cases c9:K=9;.simp[rW c9];exact⟨d,f,λe=>pC⟩
 simp[BW c9];exact⟨λk e=>by simp at e,F0,λ_=>⟨rfl,jK⟩⟩
def CV.BO{t:jE}(b:oo t=T){s:lH}:∀(f:V){m:kC},CV t s m->CV t s (sk t f m)|0,_,h=>h|f+1,m,h=>by unfold sk;by_cases a:m.nx<t.nc;(.rw[rW a];exact CV.BO b f<|h.mq b a);grind
def Jl{t:jE}(a:oo t=T)(s:lH):CV t s<|nQ t s:=CV.BO a _ ⟨λk _=>rfl,F0,λe=>by cases e⟩
def OA{t:jE}(b:oo t=T)(s:lH)(k:V):jZ (ov t s) k=(nQ t s).ch.foldl (CG k) (jZ s k):=by
 have h:=Jl b s;unfold ov;split;.rename_i e;rw[(h.a e).1];rfl
 .rename_i e;exact h.c k<|by simpa using e
def Hi{k:V}:∀(l:L qU)(o:n6 Y),(∀x∈l,x.lX≠k)->l.foldl (CG k) o=o|[],_,_=>rfl|x::l,o,h=>by simp[dF];rw[show CG k o x=o from BW (h x F0)];exact Hi l o λa b=>h a (by simp[b])
def ajM{t:jE}(a:oo t=T)(s:lH){k:V}(hk:mS t.nw t.wr (k:Y)=aj):jZ (ov t s) k=jZ s k:=by rw[OA a];refine Hi _ _ λx b e=>?_;have:=(Jl a s).w x b;grind
def Kz(D:jM)(p k:V):∀(l:L qU)(s:lH),jZ (qW D p s l) k=if nh D k=p then l.foldl (CG k) (jZ s k)else jZ s k|[],s=>by simp[qW]|x::l,s=>by have b:=Kz D p k l<|Fj D p s x;simp[qW,dF]at b⊢;rw[b];(have one:jZ (Fj D p s x) k=if nh D k=p then CG k (jZ s k) x else jZ s k:=by unfold Fj CG;by_cases e:x.lX=k;(.subst e;by_cases h:nh D x.lX=p;(.simp[rW h];split;(.rw[Hy];simp);.rw[Gz];simp);grind);.have a:¬k=x.lX:=λh=>e h.symm;(have c:jZ (if nh D x.lX=p then(if x.vP then(jd s.1 x.lX aj,s.2)else(jd s.1 x.lX T,jd s.2 x.lX x.nk))else s) k=jZ s k:=by split;(.split;(.rw[Hy,BW a]);.rw[Gz,BW a]);.rfl);grind);grind
def ajJ{f:V->n6 Y}{k:V}(l:L<|V×Y)(d:∀x∈l,f x.1=J x.2)(i:∀v,f k=J v->(k,v)∈l):jZ (DG l) k=f k:=by
 have a:∀(l:L<|V×Y)(s:lH),(∀x∈l,f x.1=J x.2)->jZ (l.foldl (λs p=>(jd s.1 p.1 T,jd s.2 p.1 p.2)) s) k=if l.any (λx=>x.1==k)then f k else jZ s k:=by intro l;induction l with|nil=>intro s _;simp|cons x l c=>intro s h;simp[dF];rw[c _ λb g=>h b<|by simp[g],Gz];grind
 have:=a l (λ_=>aj,λ_=>0) d;rw[show DG l=l.foldl (λs p=>(jd s.1 p.1 T,jd s.2 p.1 p.2)) (λ_=>aj,λ_=>0)from rfl,this];cases e:f k with|none=>split<;>rfl|some v=>grind
def aeG{t:jE}(d:oo t=T)(s:lH)(l:L<|V×Y)(c:∀x∈l,jZ s x.1=J x.2)(a:∀k v,lA t (k:V)=T->jZ s k=J v->(k,v)∈l):xW t (oy t l)<|nQ t s:=xW.BO d _ ⟨rfl,rfl,rfl,rfl,λk hk=>ajJ l c λv b=>a k v hk b⟩
def Tt(hs:V->I)(vl:V->Y)(k:V)(v:Y):∀n,(k,v)∈tX hs vl n↔k<n/\jZ (hs,vl) k=J v|0=>by simp[tX]|n+1=>by simp[tX,cH,Tt hs vl k v n];cases e:hs n with|false=>simp[jZ];grind|true=>simp[jZ];grind
def Ja(t:jE)(hs:V->I)(vl:V->Y)(k:V)(v:Y):(k,v)∈yI t hs vl↔k<100/\jZ (hs,vl) k=J v/\lA t k=T:=by simp[yI,cA,Tt,and_assoc]
def O6(hs:V->I)(vl:V->Y):∀n,(tX hs vl n)<=n|0=>jK|n+1=>by have:=O6 hs vl n;simp[tX,cG];grind
def ahT(t:jE)(hs:V->I)(vl:V->Y):(yI t hs vl).length<=100:=bP (iI _ _)<|O6 _ _ _
def yy(D:jM)(s0:lH)(i q:V)(l:L<|V×Y):U:=∀k v,(k,v)∈l↔(lA (D i) (k:V)=T/\nh D k=q/\jZ (rH D s0 i) k=J v)
def xd(D:jM)(i k:V):I:=mS (D i).nw (D i).wr (k:Y)
structure oQ(c:jH)(s0:lH)(p:V)(P:Part):U where
 vt:(P.jf.map (·.jb)).Pairwise (·<·)
 kZ:∀e∈P.jf,e.jb<P.up
 tk:∀e∈P.jf,lY c e.jb p=true
 oN:P.up<=c.D.nl
 DK:P.up<c.D.nl->lY c P.up p=true
 xq:P.jf<=c.W
 zY:∀q,(P.jS q)<=c.C
 xi:P.n+16*P.jf.length<=100+16*P.up
 zR:∀q,∀x∈P.jS q,x.fr=q/\x.jb<c.D.nl/\yy c s0 x.jb q x.ps
 yo:∀x∈P.ko,x.jb<c.D.nl/\yy c s0 x.jb x.fr x.ps
 CR:∀e∈P.jf,e.kh=true->yy c s0 e.jb p e.jR
 AG:∀e∈P.jf,e.kh=false->e.jR=[]
 gr:∀i,lY c i p=true->(my P i=true\/∃e∈P.jf,e.jb=i/\e.kh=true)->∀j,j<i->ri c j i p=true->my P j=true
 pQ:∀k j,nh c k=p->j<=c.D.nl->(∀i,i<c.D.nl->xd c i k=true->(i<j↔my P i=true))->jZ (P.hs,P.vl) k=jZ (rH c s0 j) k
 jV:∀k v,jZ (P.hs,P.vl) k=some v->k<100/\nh c k=p
structure mu(c:jH):U where
 G:Good c
 W:1<=c.W/\c.W<=8
 C:1<=c.C/\c.C<=8
 K:1<=c.K/\c.K<=4
def mu.jb{c:jH}(H:mu c){i:V}(h:i<c.D.nl):oo (c i)=T:=rO H.G.jb h
def Es{c:jH}(H:mu c){i k:V}(hi:i<c.D.nl)(h:lA (c i) (k:V)=T):lY c i (nh c k:V)=T:=by rw[<-H.G.Tw hi];have:lQ (λa=>lA (c i) a&&((mo c.D.nb c.D.fb a:Y)==((nh c k:V):Y))) 100=T:=pM (KC (H.jb hi) h) (by simp[h,nh]);simp[BP,this,Bool.true_or]
def Bw{D:jM}{i k:V}(h:xd D i k=T):lA (D i) (k:V)=T:=HZ<|aN h
def U2{D:jM}{a b p k:V}(d:xd D a k=T)(f:nh D k=p)(e:lA (D b) (k:V)=T):EH D a b p=T:=by let⟨i,hi,c⟩:=vi d;rw[DB]at c;apply pM hi;rw[c];simp[e,Bool.and_true,DB];exact f
def Mf{D:jM}{a b p k:V}(c:xd D a k=T)(e:nh D k=p)(d:lA (D b) (k:V)=T):ri D a b p=T:=by simp[ri,U2 c e d]
def RJ{D:jM}{a b p k:V}(c:xd D b k=T)(e:nh D k=p)(d:lA (D a) (k:V)=T):ri D a b p=T:=by simp[ri,U2 c e d]
def EM(p:V->I):∀(m i:V),i<=uq p m i/\uq p m i<=i+m/\(∀j,i<=j->j<uq p m i->p j=aj)/\(uq p m i<i+m->p (uq p m i)=T)|0,i=>⟨jK,jK,λj b a=>by simp[uq]at a;omega,λh=>by simp only[uq]at h;omega⟩|m+1,i=>by unfold uq;by_cases e:p i=T;(.grind);.rw[BW e];let⟨b,a,c,d⟩:=EM p m<|i+1;grind
def Dn(D:jM)(p i:V)(hi:i<=D.nl):i<=tI D p i/\tI D p i<=D.nl/\(∀j,i<=j->j<tI D p i->lY D j p=aj)/\(tI D p i<D.nl->lY D (tI D p i) p=T):=by let⟨a,d,b,c⟩:=EM (λi=>lY D i p) (D.nl-i) i;exact⟨a,by unfold tI;omega,b,λh=>c<|by unfold tI at h;omega⟩
def ky(l:L jy)(i:V):I:=l.any λe=>e.jb==i
def sE{l:L jy}{i:V}:ky l i=T↔∃e∈l,e.jb=i:=by simp[ky]
def KZ{l m:L jy}(h:l.map (·.jb)=m.map (·.jb))(i:V):ky l i=ky m i:=by
 have:∀l:L jy,ky l i=(l.map (·.jb)).any (·==i):=λl=>by simp[ky,List.any_map,Function.comp_def]
 grind
def vF{P:Part}{i:V}:my P i=T↔i<P.up/\ky P.jf i=aj:=by simp[my,aD,DA,dB,ky]
def FC{l:L jy}{i:V}(h:∀e∈l,e.jb≠i):ky l i=aj:=by cases e:ky l i with|false=>rfl|true=>let⟨x,a,hi⟩:=sE.1 e;grind
def Ej(l:L jy)(i:V)(f:jy->jy)(a:∀e,(f e).jb=e.jb):(l.modify i f).map (·.jb)=l.map (·.jb):=by apply iK;grind
def JG{l:L jy}{i:V}{f:jy->jy}{e:jy}(h:e∈l.modify i f):(e∈l)\/(∃e0,l[i]?=J e0/\e=f e0):=by let⟨j,a⟩:=dH h;grind
def Km(P:Part)(l:L jy)(h:l.map (·.jb)=P.jf.map (·.jb))(i:V):my {P with jf:=l} i=my P i:=by rw[eF,vF,vF];simp[KZ h]
def oQ.ajY{c:jH}(H:mu c){s0:lH}{p:V}{P v:Part}(h:oQ c s0 p P)(e:sh c p P=J v):oQ c s0 p v:=by
 unfold sh at e;split at e;case isFalse=>cases e
 rename_i x;let⟨n,C⟩:=x;injection e with e;subst e;let⟨n1,n2,D,B⟩:=Dn c p (P.up+1) n;have dn:∀i,lY c i p=T->my {P with jf:=P.jf++[rZ P.up],up:=tI c p<|P.up+1} i=my P i:=by intro i hi;rw[eF,vF,vF];simp[ky,fH,fI,fJ,ez,fK,rZ];grind
 have f:∀{e:jy},e∈P.jf++[rZ P.up]->e∈P.jf\/e=rZ P.up:=λd=>by simpa using d
 refine⟨?_,?_,?_,n2,B,?_,h.zY,?_,h.zR,h.yo,?_,?_,?_,?_,h.jV⟩;.simp[List.map_append,dt,fx];rw[List.pairwise_append];refine⟨h.vt,F0,λa z b t=>?_⟩;simp[dS]at t;obtain⟨e,d,rfl⟩:=List.mem_map.1 z;rw[t];exact h.kZ e d
 .intro e d;show e.jb<tI c p (P.up+1);obtain d|rfl:=f d;(.have:=h.kZ e d;omega);.show P.up<_;omega
 .intro e d;obtain d|rfl:=f d;(.exact h.tk e d);.exact h.DK n
 .simp[cG,eG,eH];have:=h.xq;omega
 .simp[cG,eG,eH];have:=h.xi;omega
 .intro e d q;obtain d|rfl:=f d;(.exact h.CR e d q);.cases q
 .intro e d q;obtain d|rfl:=f d;(.exact h.AG e d q);.rfl
 .intro i hi hd j o m;(have g:i<P.up+1->my P j=T->my {P with jf:=P.jf++[rZ P.up],up:=tI c p<|P.up+1} j=T:=by intro _ hd;let⟨a,b⟩:=vF.1 hd;rw[vF];refine⟨pC,?_⟩;(have:P.up≠j:=A);simp only[ky,fH,fI,fJ,ez,fK,rZ];exact⟨b,by simpa using this⟩);obtain hd|⟨e,d,r,l⟩:=hd;(.rw[dn i hi]at hd;have:=(vF.1 hd).1;exact g A<|h.gr i hi (aP hd) j o m);.obtain d|rfl:=f d;(.have:=h.kZ e d;exact g A<|h.gr i hi (aN ⟨e,d,r,l⟩) j o m);.cases l
 .intro k j hk o w;refine h.pQ k j hk o λi hi s=>?_;have:=Es H hi<|Bw s;grind
def Nb{c:jH}(H:mu c)(s0:lH)(k:V):∀(d a:V),a+d<=c.D.nl->(∀i,a<=i->i<a+d->xd c i k=aj)->jZ (rH c s0<|a+d) k=jZ (rH c s0 a) k|0,_,_,_=>rfl|d+1,a,h,b=>by rw[show a+(d+1)=(a+d)+1 from rfl,rH,ajM (H.jb A) _<|b (a+d) A A,Nb H s0 k d a A λi e f=>b i e A]
def VY{D:jM}{p i:V}{l:L jy}:ym D p l i=T↔∀e∈l,ri D e.jb i p=aj:=by simp[ym]
def acs{l:L jy}(hs:(l.map (·.jb)).Pairwise (·<·)){at':V}{e x:jy}(g:l[at']?=J e)(b:x∈l)(a:x.jb<e.jb):x∈l.take at':=by
 let⟨j,f⟩:=dH b;by_cases c:j<at';.exact cj<|by rwa[cd,rW c]
 .exfalso;by_cases h:j=at';(.grind);.have d:=List.pairwise_iff_getElem.1 hs at' j;grind
def oQ.MU{c:jH}(H:mu c){s0:lH}{p:V}{P:Part}(h:oQ c s0 p P){e:jy}(g:e∈P.jf)(m:∀x∈P.jf,x.jb<e.jb->ri c x.jb e.jb p=aj){k:V}(hk:lA (c e.jb) (k:V)=T)(d:nh c k=p):jZ (P.hs,P.vl) k=jZ (rH c s0 e.jb) k:=by
 have j:=h.kZ e g;have q:=h.oN;refine h.pQ k e.jb d A λi hi a=>?_;constructor;.intro b;rw[vF];refine⟨A,FC λx r f=>?_⟩;have:=m x r A;rw[f,Mf a d hk]at this;cases this
 .intro hd;obtain b|n:=ey i e.jb;(.exact b);.exfalso;let⟨d1,d2⟩:=vF.1 hd;(have o:i≠e.jb:=λx=>by have:=sE.2 ⟨e,g,rfl⟩;grind);have l:=Es H hi<|Bw a;rw[d]at l;have:=h.gr i l (aP hd) e.jb A<|RJ a d hk;have:=(vF.1 this).2;rw[sE.2 ⟨e,g,rfl⟩]at this;cases this
def oQ.Zm{c:jH}(H:mu c){s0:lH}{p:V}{P N:Part}(h:oQ c s0 p P)(e:pX c p P=J N):oQ c s0 p N:=by
 unfold pX at e;split at e;case isFalse=>cases e
 rename_i q;injection e with e;subst e;let⟨_,_,_,f4⟩:=EM (pA c p P.jf) P.jf 0;have f:=f4 (by unfold ry at q;omega);change pA c p P.jf (ry c p P.jf)=T at f;obtain⟨x,z⟩:∃x,P.jf[ry c p P.jf]?=J x:=⟨_,dw q⟩;simp[pA,pN,tM,z,aD,dB]at f;let⟨B,t⟩:=f;have b:=cj z;have K:=λG M w=>VY.1 t G<|acs h.vt z M w;have F:=Ej P.jf (ry c p P.jf) (yL c P) λ_=>rfl;have dn:=Km P _ F;generalize w:P.jf.modify (ry c p P.jf) (yL c P)=l at*;have d:∀{e:jy},e∈l->e∈P.jf\/e=yL c P x:=by intro e a;rw[<-w]at a;obtain a|⟨e0,X,rfl⟩:=JG a;(.exact aP a);grind
 have g:l=P.jf.length:=pC
 refine⟨by rw[F];exact h.vt,?_,?_,h.oN,h.DK,by show l<=c.W;rw[g];exact h.xq,h.zY,by show P.n+16*l.length<=_;rw[g];exact h.xi,h.zR,h.yo,?_,?_,?_,?_,h.jV⟩;.intro e a;obtain a|rfl:=d a;(.exact h.kZ e a);.exact h.kZ x b
 .intro e a;obtain a|rfl:=d a;(.exact h.tk e a);.exact h.tk x b
 .intro e a f;obtain a|rfl:=d a;(.exact h.CR e a f);.intro k v;show(k,v)∈x.jR++yI (c x.jb) P.hs P.vl↔_;rw[h.AG x b B,iM,Ja];constructor;(.rintro⟨E,D,m⟩;have O:=(h.jV k v D).2;exact⟨m,O,by show jZ (rH c s0 x.jb) k=_;rwa[<-h.MU H b K m O]⟩);.rintro⟨E,D,m⟩;change jZ (rH c s0 x.jb) k=J v at m;rw[<-h.MU H b K E D]at m;exact⟨(h.jV k v m).1,m,E⟩
 .intro e a f;obtain a|rfl:=d a;(.exact h.AG e a f);.cases f
 .intro i hi hd j s r;rw[dn];rw[dn]at hd;obtain hd|⟨e,a,o,C⟩:=hd;(.exact h.gr i hi (aP hd) j s r);.obtain a|rfl:=d a;(.exact h.gr i hi (aN ⟨e,a,o,C⟩) j s r);.change x.jb=i at o;subst o;rw[vF];refine⟨by have:=h.kZ x b;omega,FC λG M R=>?_⟩;grind
 .exactλk j hk s S=>h.pQ k j hk s λi hi Q=>pC
def oQ.jv{c:jH}{s0:lH}{p:V}{P:Part}(h:oQ c s0 p P)(q i:V):oQ c s0 p<|tH q i P:=by
 have o:=Ej P.jf i (vG q) λ_=>rfl;have dn:=Km P _ o;unfold tH;generalize w:P.jf.modify i (vG q)=l at*;have b:∀{e:jy},e∈l->∃x∈P.jf,e.jb=x.jb/\e.kh=x.kh/\e.jR=x.jR:=by intro e a;rw[<-w]at a;obtain a|⟨e0,r,rfl⟩:=JG a;(.grind);.exact⟨e0,cj r,rfl,rfl,rfl⟩
 have f:l=P.jf.length:=pC
 refine⟨by rw[o];exact h.vt,?_,?_,h.oN,h.DK,by show l<=c.W;rw[f];exact h.xq,h.zY,by show P.n+16*l.length<=_;rw[f];exact h.xi,h.zR,h.yo,?_,?_,?_,?_,h.jV⟩;.intro e a;let⟨x,d,e1,e2,e3⟩:=b a;rw[e1];exact h.kZ x d
 .intro e a;let⟨x,d,e1,e2,e3⟩:=b a;rw[e1];exact h.tk x d
 .intro e a z;let⟨x,d,e1,e2,e3⟩:=b a;rw[e1,e3];exact h.CR x d pC
 .intro e a z;let⟨x,d,e1,e2,e3⟩:=b a;rw[e3];exact h.AG x d pC
 .intro i hi hd j m g;rw[dn];rw[dn]at hd;obtain hd|⟨e,a,t,v⟩:=hd;(.exact h.gr i hi (aP hd) j m g);.let⟨x,d,e1,e2,e3⟩:=b a;exact h.gr i hi (aN ⟨x,d,A,pC⟩) j m g
 .exactλk j hk m B=>h.pQ k j hk m λi hi s=>pC
def oQ.join{c:jH}{s0:lH}{p:V}{P:Part}(h:oQ c s0 p P){q:V}{x:kU}(d:x.fr=q/\x.jb<c.D.nl/\yy c s0 x.jb q x.ps)(f:(P.jS q)≠c.C):oQ c s0 p<|xu q x P:=by
 have dn:∀i,my (xu q x P) i=my P i:=λ_=>rfl;refine⟨h.vt,h.kZ,h.tk,h.oN,h.DK,h.xq,?_,h.xi,?_,h.yo,h.CR,h.AG,h.gr,h.pQ,h.jV⟩;.intro r;show(jd P.jS q (P.jS q++[x]) r)<=c.C;unfold jd;split;(.simp[cG,eG,eH];have:=h.zY q;omega);.exact h.zY r
 .intro r b a;change b∈jd P.jS q (P.jS q++[x]) r at a;unfold jd at a;split at a;(.rename_i e;subst e;simp[cH,dS]at a;obtain a|rfl:=a;(.exact h.zR _ b a);.exact d);.exact h.zR r b a
def oQ.abT{c:jH}{s0:lH}{p:V}{P d:Part}(h:oQ c s0 p P){q:V}(e:qi q P=J d):oQ c s0 p d:=by
 unfold qi at e;split at e;.cases e
 rename_i x l f;injection e with e;subst e;refine⟨h.vt,h.kZ,h.tk,h.oN,h.DK,h.xq,?_,h.xi,?_,?_,h.CR,h.AG,h.gr,h.pQ,h.jV⟩;.intro r;show(jd P.jS q l r)<=c.C;unfold jd;split;(.have:=h.zY q;grind);.exact h.zY r
 .intro r b a;change b∈jd P.jS q l r at a;unfold jd at a;split at a;(.rename_i e;subst e;exact h.zR _ b pC);.exact h.zR r b a
 .intro b a;simp[cH,dS]at a;obtain a|rfl:=a;(.exact h.yo b a);.let⟨j,i,g⟩:=h.zR q b (by rw[f];simp);grind
def Lu(D:jM)(s0:lH)(i:V)(r:AF):U:=r.dn=T/\r.ab=(nQ (D i)<|rH D s0 i).ab/\r.r=(nQ (D i)<|rH D s0 i).r
structure EB(D:jM)(s0:lH)(i:V)(m:kC):U where
 ab:m.ab=(nQ (D i)<|rH D s0 i).ab
 r:m.r=(nQ (D i)<|rH D s0 i).r
 ch:m.ch=(nQ (D i)<|rH D s0 i).ch
def Tp{t:jE}(d:oo t=T):∀(f:V)(m:kC),m.ch<=m.nx->m.nx<=t.nc->(sk t f m).ch.length<=t.nc|0,m,e,g=>by unfold sk;omega|f+1,m,e,g=>by unfold sk;by_cases a:m.nx<t.nc;(.rw[rW a];have b:=rO (GH d).2.2.2.2 a;unfold vj at b;(have key:(qg t m).ch.length<=(qg t m).nx/\(qg t m).nx<=t.nc:=by unfold qg;generalize t.c (4*m.nx)=K at*;generalize t.c (4*m.nx+1)=h at*;generalize t.c (4*m.nx+2)=X at*;generalize t.c (4*m.nx+3)=C at*;unfold Cu at b;unfold vh;(repeat' split);(all_goals first|(refine⟨?_,?_⟩<;>simp<;>omega)|skip);all_goals simp_all[jF];omega);exact Tp d f _ key.1 key.2);grind
def EB.len{c:jH}(H:mu c){s0:lH}{i:V}(hi:i<c.D.nl){m:kC}(h:EB c s0 i m):m.ch.length<=16:=by rw[h.ch];have:=Tp (H.jb hi) (c i).nc ⟨aj,λ_=>0,[],(rH c s0 i).1,(rH c s0 i).2,0⟩ jK j9;exact bP this (GH<|H.jb hi).2.2.2.1
def XF{l:L jy}{i:V}{e:jy}(a:e∈l)(hi:e.jb=i):(l.filter λe=>!(e.jb==i)).length+1<=l:=by induction l with|nil=>cases a|cons x l b=>grind
def oQ.Hd{c:jH}(H:mu c){s0:lH}{p:V}{P:Part}(h:oQ c s0 p P){e:jy}(O:e∈P.jf)(hr:e.kh=T){m:kC}(F:EB c s0 e.jb m):oQ c s0 p (xh c p e.jb m P)/\(∀j,my (xh c p e.jb m P) j=T↔my P j=T\/j=e.jb):=by
 have B:=h.kZ e O;have X:=h.oN;have d:∀{x:jy},x∈P.jf.filter (λl=>!(l.jb==e.jb))↔x∈P.jf/\x.jb≠e.jb:=F0
 have dn:∀j,my (xh c p e.jb m P) j=T↔my P j=T\/j=e.jb:=by intro j;rw[vF,vF];show j<P.up/\ky (P.jf.filter λl=>!(l.jb==e.jb)) j=aj↔_;constructor;(.rintro⟨o,G⟩;by_cases E:j=e.jb;(.exact aN E);.refine aP ⟨o,FC λx a z=>?_⟩;have:=sE.2 ⟨x,d.2 ⟨a,A⟩,z⟩;grind);.rintro(⟨o,G⟩|rfl);(.refine⟨o,FC λx a z=>?_⟩;have:=sE.2 ⟨x,(d.1 a).1,z⟩;grind);.exact⟨B,FC λx a=>(d.1 a).2⟩
 have Q:my P e.jb=aj:=by cases M:my P e.jb with|false=>rfl|true=>have:=(vF.1 M).2;rw[sE.2 ⟨e,O,rfl⟩]at this;cases this
 refine⟨⟨?_,?_,?_,h.oN,h.DK,?_,h.zY,?_,h.zR,?_,?_,?_,?_,?_,?_⟩,dn⟩;.exact h.vt.sublist<|List.Sublist.map _ iO
 .exactλx a=>h.kZ x (d.1 a).1
 .exactλx a=>h.tk x (d.1 a).1
 .exact bP (iI _ _) h.xq
 .have o:=XF O rfl;have G:=F.len H A;have h3:=h.xi;show P.n+m.ch+16*(P.jf.filter λl=>!(l.jb==e.jb)).length<=100+16*P.up;omega
 .exactλx a=>h.yo x (cA.1 a).1
 .exactλx a=>h.CR x (d.1 a).1
 .exactλx a=>h.AG x (d.1 a).1
 .intro i hi hd j E t;rw[dn];left;(have:my P i=T\/∃e∈P.jf,e.jb=i/\e.kh=T:=by obtain hd|⟨x,a,R,N⟩:=hd;(.grind);.exact aN ⟨x,(d.1 a).1,R,N⟩);exact h.gr i hi this j E t
 .intro k j hk E W;show jZ (qW c p (P.hs,P.vl) m.ch) k=_;rw[Kz,rW hk];(have C:∀i,i<c.D.nl->xd c i k=T->lY c i p=T:=λi hi b=>by have:=Es H hi<|Bw b;grind);(have g:∀i,i<c.D.nl->e.jb<i->ri c e.jb i p=T->lY c i p=T->my P i=aj:=by intro i hi S t ht;cases M:my P i with|false=>rfl|true=>have:=h.gr i ht (aP M) e.jb S t;grind);by_cases f:xd c e.jb k=T;(. (have s:jZ (P.hs,P.vl) k=jZ (rH c s0 e.jb) k:=by refine h.pQ k e.jb hk A λi hi b=>?_;constructor;(.grind);.intro hd;obtain o|o:=ey i e.jb;(.exact o);.exfalso;by_cases G:i=e.jb;(.grind);.rw[g i hi A (Mf f hk<|Bw b)<|C i hi b]at hd;cases hd);rw[s,F.ch,<-OA<|H.jb A];have aa:=(W e.jb A f).2<|(dn _).2<|aN rfl;have:=Nb H s0 k (j-(e.jb+1)) (e.jb+1) A (λi o G=>by cases b:xd c i k with|false=>rfl|true=>obtain K|K:=(dn i).1<|(W i A b).1 A;(.rw[g i A A (Mf f hk<|Bw b)<|C i A b]at K;cases K);.omega);rw[show e.jb+1+(j-(e.jb+1))=j from A]at this;rw[this];rfl);. (have f:xd c e.jb k=aj:=by simpa using f);rw[Hi];(.refine h.pQ k j hk E λi hi b=>?_;grind);.intro x a l;rw[F.ch]at a;have:=(Jl (H.jb A) _).w x a;rw[l]at this;unfold xd at f;grind
 .intro k v r;change jZ (qW c p (P.hs,P.vl) m.ch) k=J v at r;rw[Kz]at r;by_cases hk:nh c k=p;(.rw[rW hk]at r;refine⟨?_,hk⟩;by_cases q:∃x∈m.ch,x.lX=k;(.obtain⟨x,a,rfl⟩:=q;rw[F.ch]at a;have:=(Jl (H.jb A) _).w x a;exact KC (H.jb A)<|HZ<|aN this);.rw[Hi _ _ λx a l=>q ⟨x,a,l⟩]at r;exact(h.jV k v r).1);.rw[BW hk]at r;exact h.jV k v r
def oQ.Gn{c:jH}(H:mu c){s0:lH}{p:V}{P:Part}(h:oQ c s0 p P){e:jy}(o:e∈P.jf)(z:e.kh=T)(a:sU c p P e=T):EB c s0 e.jb<|yl c P e:=by have m:=h.kZ e o;have t:=h.oN;have hk:=h.CR e o z;have j:=aeG (H.jb (i:=e.jb) A) (rH c s0 e.jb) (e.jR++nZ e.jb P.ko) (λx a=>by let⟨k,v⟩:=x;obtain a|a:=cH.1 a;(.exact((hk k v).1 a).2.2);.simp[nZ,fN,cA,DB]at a;let⟨f,⟨d,w⟩,a⟩:=a;have:=((h.yo f d).2 k v).1 a;grind) (λk v n B=>by rw[cH];by_cases s:nh c k=p;(.exact aP<|(hk k v).2 ⟨n,s,B⟩);.right;have:=rO a (by have:=CO c.D.nb c.D.fb k;unfold nh;omega:nh c k<c.D.nb+1);simp only[cf,aD,Es H A n,iH,DB]at this;obtain(g|g)|g:=this;(.omega);(.cases g);.have q:=g.2;simp[lM,fg,aD,DB]at q;let⟨f,d,b,l⟩:=q;simp[nZ,fN,cA,DB];refine⟨f,⟨d,b⟩,?_⟩;rw[((h.yo f d).2 k v),b,l];grind);exact⟨j.ab,j.r,j.ch⟩
structure nj(c:jH)(s0:lH)(E:jL):U where
 jo:∀p,p<=c.D.nb->oQ c s0 p (E p)
 kO:∀p i,p<=c.D.nb->i<c.D.nl->lY c i p=true->my (E p) i=true->Lu c s0 i (E.kO i)
def abw{c:jH}(H:mu c){s0:lH}{p:V}{P b:Part}(h:oQ c s0 p P)(e:sh c p P=J b){i:V}(k:lY c i p=T)(hd:my b i=T):my P i=T:=by
 unfold sh at e;split at e;case isFalse=>cases e
 rename_i d;injection e with e;subst e;let⟨n1,n2,f,j⟩:=Dn c p (P.up+1) d.1;let⟨g,a⟩:=vF.1 hd;rw[vF];simp only[ky,fH,fI,fJ,ez,fK,rZ]at a;refine⟨?_,a.1⟩;grind
def anP{c:jH}{p:V}{P a:Part}(e:pX c p P=J a)(i:V):my a i=my P i:=by
 unfold pX at e;split at e;case isFalse=>cases e
 injection e with e;subst e;exact Km P _ (Ej P.jf _ (yL c P) λ_=>rfl) i
def Z9{q:V}{P a:Part}(e:qi q P=J a)(i:V):my a i=my P i:=by
 unfold qi at e;split at e;.cases e
 injection e with e;subst e;rfl
def ahh(q j:V)(P:Part)(i:V):my (tH q j P) i=my P i:=Km P _ (Ej P.jf _ (vG q) λ_=>rfl) i
def nj.uy{c:jH}{s0:lH}{E:jL}(h:nj c s0 E){p:V}{P:Part}(f:p<=c.D.nb->oQ c s0 p P)(hd:∀i,lY c i p=T->my P i=T->my (E p) i=T):nj c s0 {E with jo:=jd E.jo p P}:=by
 refine⟨λq b=>?_,λq i b hi d a=>?_⟩;.show oQ c s0 q (jd E.jo p P q);unfold jd;split;(.grind);.exact h.jo q b
 .change my (jd E.jo p P q) i=T at a;unfold jd at a;split at a;(.rename_i e;subst e;exact h.kO q i b hi d<|hd i d a);.exact h.kO q i b hi d a
def nj.DQ{c:jH}(H:mu c){s0:lH}{p:V}(k:p<=c.D.nb):∀(l:L jy)(f:jy->kC)(E:jL),nj c s0 E->(∀e∈l,e∈(E p).jf/\e.kh=T/\EB c s0 e.jb (f e))->(l.map (·.jb)).Pairwise (·≠·)->nj c s0 ((l.map λe=>(e.jb,f e)).foldl (qF c p) E)|[],_,E,h,_,_=>h|e::l,f,E,h,w,j=>by simp[dt,dF];let⟨z,C,n⟩:=w e F0;let⟨N,K⟩:=(h.jo p k).Hd H z C n;simp[dt,List.pairwise_cons]at j;(have nt:e.jb<c.D.nl:=by have a:=(h.jo p k).kZ e z;have b:=(h.jo p k).oN;omega);(have M:nj c s0<|qF c p E (e.jb,f e):=by refine⟨λq m=>?_,λq i m hi t d=>?_⟩;(.show oQ c s0 q (jd E.jo p _ q);unfold jd;split;(.grind);.exact h.jo q m);.show Lu c s0 i (jd E.kO e.jb _ i);change my (jd E.jo p _ q) i=T at d;by_cases g:i=e.jb;(.subst g;rw[ki];exact⟨rfl,n.ab,n.r⟩);.rw[j8 _ _ g];unfold jd at d;split at d;(.rename_i G;subst G;obtain v|v:=(K i).1 d;(.exact h.kO q i m hi t v);omega);.exact h.kO q i m hi t d);refine nj.DQ H k l f _ M (λx B=>?_) j.2;let⟨F,s,o⟩:=w x (by simp[B]);refine⟨?_,s,o⟩;show x∈(jd E.jo p (xh c p e.jb (f e)<|E p) p).jf;rw[ki];show x∈(E p).jf.filter _;grind
def Ea{c:jH}{p:V}{P:Part}{e:jy}(h:e∈mP c p P):e∈P.jf/\e.kh=T/\sU c p P e=T:=by have:=cA.1<|gW h;simpa using this
def Pu{c:jH}{s0:lH}{p:V}{P:Part}(h:oQ c s0 p P):((mP c p P).map (·.jb)).Pairwise (·≠·):=by have:((mP c p P).map (·.jb)).Pairwise (·<·):=h.vt.sublist<|List.Sublist.map _<|(List.take_sublist _ _).trans iO;grind
def nj.IP{c:jH}(H:mu c){s0:lH}{E v:jL}(h:nj c s0 E){p k q:V}(t:p<=c.D.nb)(e:qc c E p k q=J v):nj c s0 v:=by
 have d:=h.jo p t;unfold qc at e;split at e;.cases f:sh c p (E p)with|none=>rw[f]at e;cases e|some P=>rw[f]at e;injection e with e;subst e;exact h.uy (λ_=>d.ajY H f) λi s hd=>abw H d f s hd
 split at e;.cases f:pX c p (E p)with|none=>rw[f]at e;cases e|some P=>rw[f]at e;injection e with e;subst e;exact h.uy (λ_=>d.Zm H f) (λi s hd=>by rwa[<-anP f])
 split at e;.split at e;(case isFalse=>cases e);rename_i F;unfold se at e;split at e;(case isFalse=>cases e);rename_i B;let⟨g,o⟩:=B;injection e with e;subst e;generalize l:oD c q (E p).jf=ix at*;obtain⟨x,m⟩:∃x,(E p).jf[ix]?=J x:=⟨_,dw g⟩;let⟨_,_,_,f4⟩:=EM (pN (ui c q) (E p).jf) (E p).jf.length 0;have n:=f4 (by rw[<-l]at g;unfold oD at g;omega);change pN (ui c q) (E p).jf (oD c q (E p).jf)=T at n;rw[l]at n;simp[pN,m,ui,aD]at n;have j:=cj m;refine(h.uy (λ_=>d.jv q ix) λi _ hd=>by rwa[<-ahh q ix]).uy (λr=>(h.jo q r).join ?_ o) (λi _ hd=>by show my (jd E.jo p _ q) i=T;rwa[j8 _ _ A]);simp only[wK,m];exact⟨n7,by have a:=d.kZ x j;have b:=d.oN;omega,d.CR x j n.1.1⟩
 split at e;.split at e;(case isFalse=>cases e);cases f:qi q (E p)with|none=>rw[f]at e;cases e|some P=>rw[f]at e;injection e with e;subst e;exact h.uy (λ_=>d.abT f) (λi s hd=>by rwa[<-Z9 f])
 split at e;.unfold sC at e;split at e;(case isTrue=>cases e);injection e with e;subst e;refine nj.DQ H t (mP c p<|E p) (yl c<|E p) E h (λx m=>?_)<|Pu d;let⟨w,z,C⟩:=Ea m;exact⟨w,z,d.Gn H w z C⟩
 .cases e
end
section
open Go.RowKit Go.Maps
def J0(f:G->L y)(n:V)(a:∀x,(f x)=n):∀l:L G,(l.flatMap f)=l.length*n|[]=>by simp|x::l=>by simp[fF,a x,J0 f n a l,Nat.succ_mul];omega
def El(f:G->L y)(n:V)(b:∀x,(f x)=n):∀(l:L G)(k j:V)(x:G),l[k]?=J x->j<n->(l.flatMap f)[k*n+j]?=(f x)[j]?|[],k,j,x,h,_=>by simp at h|c::l,0,j,x,h,a=>by grind|c::l,k+1,j,x,h,a=>by simp[List.getElem?_cons_succ]at h;rw[fF,iJ pC,b,<-El f n b l k j x h a];grind
def lV(x:y×jy):L y:=[x.2.jb,x.2.kh,x.1,(x.2.jv 0),(x.2.jv 1),(x.2.jv 2),(x.2.jv 3)]
def mE(x:y×kU):L y:=[x.2.fr,x.2.jb,x.1]
def B5(x:y×jy):(lV x).length=7:=rfl
def NU(x:y×kU):(mE x).length=3:=rfl
def Own(z:V)(O:V->V)(b:V):U:=z<=O b/\O b<z+50
abbrev yS(z:V)(O:V->V)(b:V):U:=¬Own z O b
abbrev Ag(z:V)(O:V->V)(w a:u):U:=jq (yS z O) w a
def Ag.mq{z:V}{O a:V->V}{w:u}(h:Ag z O w j)(c:Ag z a j k)(e:∀b,b<w.heap.size->a b=O b):Ag z O w k:=⟨bP h.jB c.jB,λb hs d=>bD (c.jg b (by unfold yS Own at hs⊢;grind)<|bG d h.jB)<|h.jg b hs d⟩
abbrev Fz(z:V)(O:V->V)(b:V):U:=yS z O b/\O b=0
abbrev Af(z:V)(O:V->V)(w a:u):U:=jq (Fz z O) w a
def Ag.af{z:V}{O:V->V}{w:u}(h:Ag z O w j):Af z O w j:=h.jh λ_ x=>x.1
def Af.mq{z:V}{O a:V->V}{w:u}(h:Af z O w j)(c:Af z a j k)(e:∀b,b<w.heap.size->a b=O b):Af z O w k:=⟨bP h.jB c.jB,λb hs d=>bD (c.jg b (by unfold Fz yS Own at hs⊢;grind)<|bG d h.jB)<|h.jg b hs d⟩
def qV(z:V)(O:V->V)(w:u)(v:y)(l:L<|V×Y):U:=(∃a c,v=ah a l c)/\∀b,Af z O w b->uk b v l
def qV.rd{z:V}{O:V->V}{w:u}{v:y}{l:L<|V×Y}(h:qV z O w v l):uk w v l:=h.2 w mQ
def qV.uP{z:V}{O c:V->V}{w:u}{v:y}{l:L<|V×Y}(h:qV z O w v l)(d:Af z O w j)(f:∀b,b<w.heap.size->c b=O b):qV z c j v l:=⟨h.1,λa e=>h.2 a<|d.mq e f⟩
def qV.mn{z:V}{O O':V->V}{w:u}{v:y}{l:L<|V×Y}(h:qV z O w v l)(c:Ag z O w j)(a:∀b,b<w.heap.size->O' b=O b):qV z O' j v l:=h.uP c.af a
def qV.pU(z:V)(O:V->V)(w:u):qV z O w jw []:=⟨⟨ae,0,rfl⟩,λa _=>aco a 2⟩
def qV.jV{z:V}{O:V->V}{w:u}{v:y}{l:L<|V×Y}(h:aH w 0 81 2 v l<|qy l)(j:∀b,v.ownBlock=J b->Fz z O b):qV z O w v l:=by
 refine⟨xJ h,λm k=>Ke (base:=0) (e:=81) ?_<|OY l⟩;obtain f|⟨g,cap,a,rfl,i,c,d⟩:=h.2;.exact⟨h.1,aP f⟩
 .exact⟨h.1,aN ⟨g,cap,a,rfl,i,by rwa[k.jg g (j g rfl) (bY.1 c).1],d⟩⟩
def zt(z:V)(O:V->V)(w:u)(x:y×jy):U:=qV z O w x.1 x.2.jR/\(x.2.kh=aj->x.1=jw)
def zt.uP{z:V}{O a:V->V}{w:u}{x:y×jy}(h:zt z O w x)(c:Af z O w j)(d:∀b,b<w.heap.size->a b=O b):zt z a j x:=⟨h.1.uP c d,h.2⟩
def zt.mn{z:V}{O O':V->V}{w:u}{x:y×jy}(h:zt z O w x)(c:Ag z O w j)(a:∀b,b<w.heap.size->O' b=O b):zt z O' j x:=h.uP c.af a
def mK(z:V)(O:V->V)(w:u)(c:V)(v:y)(l:L jy):U:=∃a:L (y×jy),a.map dG=l/\aH w 0 173 7 v l (a.flatMap lV)/\(∀x∈a,zt z O w x)/\∀b,v.ownBlock=J b->O b=c
def pj(z:V)(O:V->V)(w:u)(c:V)(v:y)(l:L kU):U:=∃a:L (y×kU),a.map dG=l/\aH w 0 195 3 v l (a.flatMap mE)/\(∀x∈a,qV z O w x.1 x.2.ps)/\∀b,v.ownBlock=J b->O b=c
def zp{w:u}{e:aU}{sz n:V}{v:y}(h:aH w 0 e sz v n W)(f:∀b,v.ownBlock=J b->j.heap[b]?=w.heap[b]?):aH j 0 e sz v n W:=by
 obtain d|⟨g,cap,a,rfl,c,k,i⟩:=h.2;.exact⟨h.1,aP d⟩
 .exact⟨h.1,aN ⟨g,cap,a,rfl,c,by rwa[f g rfl],i⟩⟩
def mK.uP{z:V}{O e:V->V}{w:u}{c:V}{v:y}{l:L jy}(h:mK z O w c v l)(k:Af z O w j)(g:∀b,b<w.heap.size->e b=O b)(m:∀b,b<w.heap.size->O b=c->j.heap[b]?=w.heap[b]?):mK z e j c v l:=by let⟨o,i,d,p,f⟩:=h;exact⟨o,i,zp d λb a=>m b (d.lt b a).2<|f b a,λx n=>(p x n).uP k g,λb a=>by rw[g b (d.lt b a).2];exact f b a⟩
def mK.mn{z:V}{O O':V->V}{w:u}{c:V}{v:y}{l:L jy}(h:mK z O w c v l)(d:Ag z O w j)(e:∀b,b<w.heap.size->O' b=O b)(a:∀b,b<w.heap.size->O b=c->j.heap[b]?=w.heap[b]?):mK z O' j c v l:=h.uP d.af e a
def pj.uP{z:V}{O e:V->V}{w:u}{c:V}{v:y}{l:L kU}(h:pj z O w c v l)(k:Af z O w j)(g:∀b,b<w.heap.size->e b=O b)(m:∀b,b<w.heap.size->O b=c->j.heap[b]?=w.heap[b]?):pj z e j c v l:=by let⟨o,i,d,p,f⟩:=h;exact⟨o,i,zp d λb a=>m b (d.lt b a).2<|f b a,λx n=>(p x n).uP k g,λb a=>by rw[g b (d.lt b a).2];exact f b a⟩
def pj.mn{z:V}{O O':V->V}{w:u}{c:V}{v:y}{l:L kU}(h:pj z O w c v l)(d:Ag z O w j)(e:∀b,b<w.heap.size->O' b=O b)(a:∀b,b<w.heap.size->O b=c->j.heap[b]?=w.heap[b]?):pj z O' j c v l:=h.uP d.af e a
def mK.pU(z:V)(O:V->V)(w:u)(c:V):mK z O w c jw []:=⟨[],rfl,dP _ _ _ _,F0,λb a=>by cases a⟩
def pj.pU(z:V)(O:V->V)(w:u)(c:V):pj z O w c jw []:=⟨[],rfl,dP _ _ _ _,F0,λb a=>by cases a⟩
def mK.oP{z:V}{O:V->V}{w:u}{c:V}{v:y}{l:L jy}(h:mK z O w c v l):∃a cap,v=ah a l cap:=by let⟨e,d,b,_⟩:=h;exact xJ b
def pj.oP{z:V}{O:V->V}{w:u}{c:V}{v:y}{l:L kU}(h:pj z O w c v l):∃a cap,v=ah a l cap:=by let⟨e,d,b,_⟩:=h;exact xJ b
def nP(z:V)(O:V->V)(w:u)(e p s:V)(v:y)(P:Part):U:=if s=0 then∃M,v=bH (J M)/\O M=z+p*10/\M<w/\oA P.n w M P.hs P.vl else if s=1 then v=ay e else if s=2 then v=(p:V)else if s=3 then v=(P.up:V)else if s=4 then mK z O w (z+p*10+4) v P.jf else if s=9 then pj z O w (z+p*10+9) v P.ko else pj z O w (z+p*10+s) v (P.jS<|s-5)
def nP.uP{z:V}{O q:V->V}{w:u}{e p s:V}{v:y}{P:Part}(h:nP z O w e p s v P)(f:Af z O w j)(l:∀b,b<w.heap.size->q b=O b)(d:∀b,b<w.heap.size->O b=z+p*10+s->j.heap[b]?=w.heap[b]?):nP z q j e p s v P:=by
 unfold nP at h⊢;split;.rename_i c;rw[rW c]at h;let⟨M,k,n,g,a⟩:=h;exact⟨M,k,pC,bG g f.jB,a.jg<|d M g<|by rw[n,c];rfl⟩
 rename_i c;rw[BW c]at h;split;.grind
 rename_i k;rw[BW k]at h;split;.grind
 rename_i n;rw[BW n]at h;split;.grind
 rename_i g;rw[BW g]at h;split;.rename_i a;rw[rW a]at h;exact h.uP f l λb o m=>d b o<|by rw[m,a]
 rename_i a;rw[BW a]at h;split;.rename_i i;rw[rW i]at h;exact h.uP f l λb o m=>d b o<|by rw[m,i]
 rename_i i;rw[BW i]at h;exact h.uP f l d
def nP.mn{z:V}{O O':V->V}{w:u}{e p s:V}{v:y}{P:Part}(h:nP z O w e p s v P)(c:Ag z O w j)(d:∀b,b<w.heap.size->O' b=O b)(a:∀b,b<w.heap.size->O b=z+p*10+s->j.heap[b]?=w.heap[b]?):nP z O' j e p s v P:=h.uP c.af d a
def Lt(s:V)(P Q:Part):U:=(s=0->P.n=Q.n/\P.hs=Q.hs/\P.vl=Q.vl)/\(s=3->P.up=Q.up)/\(s=4->P.jf=Q.jf)/\(s=9->P.ko=Q.ko)/\(5<=s->s<9->P.jS (s-5)=Q.jS (s-5))
def nP.jY{z:V}{O:V->V}{w:u}{e p s:V}{v:y}{P Q:Part}(h:nP z O w e p s v P)(hs:Lt s P Q)(a:s<10):nP z O w e p s v Q:=by let⟨e0,e3,c,b,d⟩:=hs;unfold nP at h⊢;grind
def FN(r:AF)(j:V):y:=if j=0 then r.dn else if j=1 then r.ab else(r.r<|j-2)
structure j6(z:V)(O:V->V)(w:u)(e:V)(c:jH)(vB vL:y)(K R:V)(f:V->y)(E:jL):U where
 k:∀w',Af z O w w'->pD w' e c vB vL/\ai w' (e 1 none)=some (au ak (c.W:V))/\ai w' (e 2 none)=some (au ak (c.C:V))/\ai w' (e 3 none)=some (au ak (c.K:V))/\w'.cell? (e 5 none)=some (ah K (c.D.nb+1)<|c.D.nb+1)/\ai w' (e 6 none)=some (ah R c.D.nl c.D.nl)
 oK:O K=z+40
 oR:O R=z+41
 jT:je w K 131 ((c.D.nb+1)*10) f
 jo:∀p s,p<=c.D.nb->s<10->nP z O w e p s (f<|p*10+s) (E p)
 kO:je w R 75 (c.D.nl*6) λj=>FN (E.kO<|j/6)<|j%6
def j6.rV{z:V}{O:V->V}{w:u}{e:V}{c:jH}{vB vL:y}{K R:V}{f:V->y}{E:jL}(h:j6 z O w e c vB vL K R f E):pD w e c vB vL:=(h.k w mQ).1
def j6.mn{z:V}{O O':V->V}{w:u}{e:V}{c:jH}{vB vL:y}{K R:V}{f:V->y}{E:jL}(h:j6 z O w e c vB vL K R f E)(g:∀b,b<w.heap.size->j.heap[b]?=w.heap[b]?)(hs:w<=j.heap.size)(d:∀b,b<w.heap.size->O' b=O b):j6 z O' j e c vB vL K R f E:=by have a:Ag z O w j:=⟨hs,λb _ l=>g b l⟩;exact⟨λi n=>h.k i<|a.af.mq n d,by rw[d K h.jT.lt];exact h.oK,by rw[d R h.kO.lt];exact h.oR,h.jT.jg<|g K h.jT.lt,λp s m hs=>(h.jo p s m hs).mn a d λb l _=>g b l,h.kO.jg<|g R h.kO.lt⟩
def j6.below{z:V}{O:V->V}{w w':u}{e:V}{c:jH}{vB vL:y}{K R:V}{f:V->y}{E:jL}(h:j6 z O w e c vB vL K R f E)(a:aq w w w'):j6 z O w' e c vB vL K R f E:=h.mn (a.block) a.size λ_ _=>rfl
def j6.put{z:V}{O O':V->V}{w w':u}{e:V}{c:jH}{vB vL:y}{K R:V}{f:V->y}{E:jL}(h:j6 z O w e c vB vL K R f E){p s:V}(Q:p<=c.D.nb)(jX:c.D.nb<=3)(F:s<10){v:y}{P:Part}(B:w<=w'.heap.size)(n:∀b,b<w.heap.size->O' b=O b)(r:∀b,b<w.heap.size->O b≠z+p*10+s->b≠K->w'.heap[b]?=w.heap[b]?)(q:je w' K 131 ((c.D.nb+1)*10) λj=>if j=p*10+s then v else f j)(S:nP z O' w' e p s v P)(M:∀i,i<10->i≠s->Lt i (E p) P):j6 z O' w' e c vB vL K R (λj=>if j=p*10+s then v else f j) {E with jo:=jd E.jo p P}/\Ag z O w w':=by
 have d:Ag z O w w':=⟨B,λb G o=>r b o (λH=>G ⟨A,A⟩) λhk=>G<|by rw[hk];exact⟨by rw[h.oK];omega,by rw[h.oK];omega⟩⟩;refine⟨⟨λx N=>h.k x<|d.af.mq N n,by rw[n K h.jT.lt];exact h.oK,by rw[n R h.kO.lt];exact h.oR,q,λt i m g=>?_,h.kO.jg<|r R h.kO.lt (by rw[h.oR];omega) λhk=>by have a:=h.oK;have b:=h.oR;grind⟩,d⟩;by_cases l:t=p;.subst l;simp[ki];by_cases C:i=s;(.grind);.rw[jz];exact((h.jo t i m g).mn d n λb o H=>r b o A λhk=>by have a:=h.oK;grind).jY (M i g C) g
 .simp[j8 _ _ l];rw[jz];exact(h.jo t i m g).mn d n λb o H=>r b o A λhk=>by have a:=h.oK;grind
def Iv{P:bO}{ops:Z aM}{o:aM}{a:Act}{w:u}{K:Act->u->U}{Q:cO->Act->u->U}{E:U}(j:o.guard=ae)(s x:dW)(t:aU)(c:o.op=Op.call {callee:=Callee.builtin ia,args:=#[s,x],argTypes:=#[t,t]})(f g:y)(hs:a.eval s=f)(h:a.eval x=g)(e:y)(d:u)(b:∀ty,(bN #[t,t] ty #[f,g]).run P w=.ok e d)(i:K (a.put o.dst e) d):if ee o (yielded ops a.tmps)=T then cU P o a w K Q else E:=by rw[rW<|by simp[ee,j]];unfold cU;simp[cV,c,resolve,invoke,builtin,hs,h,b,Result.andThen];exact i
def Ox{P:bO}(w:u)(t e:aU)(i:ek)(z:y)(size bytes:V)(B:cT P t=J (.slice e))(hi:P.info? e=J i)(F:i.zero=J z)(p:i.size=size)(r:i.bytes=bytes)(N:z.cells=size)(K:0<size)(v:y)(n:V)(x:L y)(k:aH w 0 e size v n x)(a:aZ)(m c:V)(b:L y)(s:b=m*size)(d:∀j C,b[j]?=J C->ai w (a.add j)=J C)(Q:∀C∈b,C.oneCell'=T)(hm:0<m)(q:n+m<=bu)(f:(n+m)*bytes<=140737488355328):∃h l,(∀ty,(bN #[t,t] ty #[v,ah a m c]).run P w=.ok h l)/\aH l 0 e size h (n+m) (x++b)/\w.grownBy l v.ownBlock/\(h.ownBlock=v.ownBlock\/h.ownBlock=J w.heap.size):=by
 have key:∀ty,∃h l,(bN #[t,t] ty #[v,ah a m c]).run P w=.ok h l/\aH l 0 e size h (n+m) (x++b)/\w.grownBy l v.ownBlock:=λty=>by let⟨h,l,r1,r2,r3,_⟩:=ir (P:=P) w 0 t ty e i z size bytes B hi F p r N K v n x k a m c b s d Q q f j9;exact⟨h,l,r1,r2,r3⟩
 have D:n+m<=9223372036854775807:=by simp[bu]at q;omega
 subst p;subst r;have one:∃h l,(∀ty,(bN #[t,t] ty #[v,ah a m c]).run P w=.ok h l)/\(h.ownBlock=v.ownBlock\/h.ownBlock=J w):=by obtain⟨rfl,rfl⟩|⟨g,cap,O,rfl,aa,W,X,S,M,H⟩:=k.2;(.exact⟨_,_,λty=>iu (P:=P) w t ty e i z B hi F a m c b s d A A<|by have G:=f;simp[cZ]at G;omega,aN rfl⟩);.by_cases o:n+m<=cap;(.exact⟨_,_,λty=>eu (P:=P) w t ty e i B hi g n cap O W a m c b s d Q o<|by rw[s,M,<-iy];exact de _ o,aP rfl⟩);.exact⟨_,_,λty=>iz (P:=P) w t ty e i z B hi F g n cap x k.1 (k.cells (g:=g) rfl) a m c b s d A A<|iA A f,aN rfl⟩
 let⟨h,l,R,G⟩:=one;refine⟨h,l,R,?_⟩;let⟨v2,w2,r1,r2,r3⟩:=key 0;rw[R 0]at r1;injection r1 with r1 E;subst r1;subst E;exact⟨r2,r3,G⟩
def Tryz.OQ:(Tryz.prog.info? 173).map (λi=>(i.zero,i.size,i.bytes))=J (J<|aK #[au ak 0,aj,ah ae 0 0,aj,aj,aj,aj],7,48):=vI
def Tryz.QN:(Tryz.prog.info? 195).map (λi=>(i.zero,i.size,i.bytes))=J (J<|aK #[au ak 0,au ak 0,ah ae 0 0],3,40):=vI
def DR(f:V->G)(k:V)(x a:G):jd (jd f k x) k a=jd f k a:=by funext j;unfold jd;split<;>rfl
def akm(f:V->G)(k:V):jd f k (f k)=f:=by funext j;unfold jd;grind
def mA(z:V)(O:V->V)(w:u)(e:V)(c:jH)(vB vL:y)(K R:V)(g:jL)(d:u):U:=∃a f,j6 z a d e c vB vL K R f g/\Ag z O w d/\∀b,b<w.heap.size->a b=O b
def mA.mq{z:V}{O g:V->V}{w w1:u}{e:V}{c:jH}{vB vL:y}{K R:V}{E:jL}(d:Ag z O w w1)(f:∀b,b<w.heap.size->g b=O b)(h:mA z g w1 e c vB vL K R E j):mA z O w e c vB vL K R E j:=by let⟨m,k,i,n,l⟩:=h;exact⟨m,k,i,d.mq n f,λb a=>by rw[l b<|bG a d.jB];exact f b a⟩
def j6.tq{z:V}{O:V->V}{w:u}{e:V}{c:jH}{vB vL:y}{K R:V}{f:V->y}{E:jL}(h:j6 z O w e c vB vL K R f E)(a:aq w w j):mA z O w e c vB vL K R E j:=⟨O,f,h.below a,jq.km a,λ_ _=>rfl⟩
def Ag.PE{z:V}{O:V->V}{w:u}{K:V}(b:Own z O K)(j:V)(a:y):Ag z O w<|w (K j ae) a:=mQ.jl (λh=>h b) a
def mK.tn{z:V}{O:V->V}{w W1:u}{c:V}{v:y}{l:L jy}(h:mK z O w c v l)(s:aq w w W1)(G:l.length<=1000)(a:aZ)(e:jy)(q:y)(g:∀j r,(lV (q,e))[j]?=J r->ai W1 (a.add j)=J r)(hk:zt z O w (q,e))(M:z<=c)(K:c<z+50):∃n k,(∀ty,(bN #[123,123] ty #[v,ah a 1 1]).run ar W1=.ok n k)/\mK z (jd O W1 c) k c n (l++[e])/\W1.grownBy k v.ownBlock/\∃X P,n=ah X (l.length+1) P:=by
 let⟨S,R,E,N,F⟩:=h;let⟨i0,hi,B,D,C⟩:=bI Tryz.OQ;have o:=s.size;let⟨n,k,r1,r2,r3,r4⟩:=Ox W1 123 173 i0 _ 7 48 iN hi B D C rfl A v l _ (zp E λb d=>s.block b (E.lt b d).2) a 1 1 (lV (q,e)) rfl g (by let⟨⟨⟨ka,kc,p⟩,_⟩,_⟩:=hk;simp at p;subst p;intro r H;simp[lV]at H;obtain rfl|rfl|rfl|rfl|rfl|rfl|rfl:=H<;>rfl) A (by unfold bu;omega) A;have m:Ag z O w k:=⟨bP o r3.size,λb Q f=>bD (r3.block b (bG f o) λW=>Q<|by have:=F b W.symm;exact⟨A,A⟩)<|s.block b f⟩;have t:∀b,b<w.heap.size->jd O W1 c b=O b:=λb f=>j8 _ _ A;refine⟨n,k,r1,⟨S++[(q,e)],by simp[R],?_,?_,?_⟩,r3,?_⟩;.grind
 .intro x i;obtain i|i:=cH.1 i;(.exact(N x i).mn m t);.simp[dS]at i;subst i;exact hk.mn m t
 .intro b d;obtain r4|r4:=r4;(.rw[r4]at d;rw[t b (E.lt b d).2];exact F b d);.rw[r4]at d;injection d with d;rw[<-d,ki]
 .exact xJ r2
def YM(e:V)(D:jM)(vB vL:y)(p i0:V)(r:i0<=D.nl)(w:u)(h:pD w e D vB vL):aA ar 102 #[ay e,p,i0] w λe q=>e=az (tI D p i0:V)/\aq w w q:=by
 have v:=h.lt;obtain⟨a,cap,rfl,B,-⟩:=id h.l;go_enter gH,gI;go_wp2;go_loopw[7](λi wr=>∃k:V,i0<=k/\k<=D.nl/\i=k/\Hid (∀j,i0<=j->j<k->lY D j p=aj)/\aq w w wr)(λi _=>D.nl-(aF i).toNat);exact⟨i0,jK,r,rfl,λj f t=>A,jQ⟩;obtain⟨k,z,hk,rfl,g,b⟩:=hrel;have m:=h.below b;have c4:=m.c4;by_cases d:k<D.nl;.cases s:lY D k p with|true=>have o:Hid<|tI D p i0=k:=Ih (D.nl-i0) i0 k A A g s;go_wp2_with(go_at_call 43;apply aE (Dy _ D vB _ k p d _ m);rintro x q⟨rfl,c⟩);go_ret;exact⟨by rw[o.out];rfl,aO b<|bn c b.size⟩|false=>(have n:Hid<|∀j,i0<=j->j<k+1->lY D j p=aj:=λj f t=>by by_cases e:j=k;(.subst e;exact s);.exact g j f A);go_wp2_with(go_at_call 43;apply aE (Dy _ D vB _ k p d _ m);rintro x q⟨rfl,c⟩);go_roundw;exact⟨k+1,A,A,pR,n,aO b<|bn c b.size⟩;simp[aF];omega
 . (have o:Hid<|tI D p i0=D.nl:=by have:=G8 (D.nl-i0) i0 λj f t=>g j f A;show tI D p i0=D.nl;unfold tI;rw[this];omega);go_wp2_with fail;go_ret;exact⟨by rw[o.out];rfl,b⟩
def Hv(w:u)(b:L y)(d:aU):∀j a,b[j]?=J a->ai (ax w<|ao b.toArray d) ((w:aZ).add j)=J a:=by intro j a c;have:=(lZ w b d).jP (du.1 c).1;rw[qn,cZ,this];simp[lc,c]
def ahv{x:Y}(a:0<=x)(b:x<=1000000):IntKind.i64.wrap x=x:=by unfold ic;simp[ig,ij];omega
def vU(w:u)(o:Obj){a:aZ}{v:y}(h:ai w a=J v):ai (ax w o) a=J v:=by rwa[gZ _ _ _<|bh w _ h]
section
variable{z:V}{O:V->V}{w:u}{e:V}{c:jH}{vB vL:y}{K R:V}{f:V->y}{E:jL}
def j6.jP(h:j6 z O w e c vB vL K R f E){p:V}(a:p<=c.D.nb)(s:V)(hs:s<10):ai w (K (p*10+s) ae)=J (f<|p*10+s):=h.jT.el _
def j6.c1(h:j6 z O w e c vB vL K R f E){p:V}(a:p<=c.D.nb):ai w (K (p*10+1) ae)=J (ay e):=by have:=h.jo p 1 a A;unfold nP at this;simp at this;rw[h.jP a 1 A,this]
def j6.c2(h:j6 z O w e c vB vL K R f E){p:V}(a:p<=c.D.nb):ai w (K (p*10+1+1) ae)=J (au ak (p:V)):=by have:=h.jo p 2 a A;unfold nP at this;simp at this;rw[show p*10+1+1=p*10+2 from rfl,h.jP a 2 A,this]
def j6.c3(h:j6 z O w e c vB vL K R f E){p:V}(a:p<=c.D.nb):ai w (K (p*10+1+2) ae)=J (au ak ((E p).up:V)):=by have:=h.jo p 3 a A;unfold nP at this;simp at this;rw[show p*10+1+2=p*10+3 from rfl,h.jP a 3 A,this]
def j6.c4(h:j6 z O w e c vB vL K R f E){p:V}(b:p<=c.D.nb):∃a cap,ai w (K (p*10+1+3) ae)=J (ah a (E p).jf.length cap)/\mK z O w (z+p*10+4) (ah a (E p).jf.length cap) (E p).jf:=by have:=h.jo p 4 b A;unfold nP at this;simp at this;let⟨a,cap,d⟩:=this.oP;refine⟨a,cap,?_,d▸this⟩;rw[show p*10+1+3=p*10+4 from rfl,h.jP b 4 A,d]
def j6.fz(h:j6 z O w e c vB vL K R f E)(j:V):bU w (K j ae)=aj:=h.jT.kr j
def j6.aaf(h:j6 z O w e c vB vL K R f E){p:V}(Q:p<=c.D.nb)(jX:c.D.nb<=3){v:y}{l:L jy}{g:V->V}(o:mK z O w (z+p*10+4) m (E p).jf)(q:aq w w j)(t:j.grownBy k m.ownBlock)(G:∀b,b<w.heap.size->g b=O b)(M:mK z g k (z+p*10+4) v l):j6 z g (k (K (p*10+1+3) ae) v) e c vB vL K R (λF=>if F=p*10+4 then v else f F) {E with jo:=jd E.jo p {E p with jf:=l}}/\Ag z O w (k (K (p*10+1+3) ae) v)/\k.cell? (K (p*10+1+3) ae)=J (f<|p*10+4)/\bU k (K (p*10+1+3) ae)=aj:=by
 let⟨X,h1,h2,W,H⟩:=o;have n:=q.size;have d:=h.jT.lt;have a:=h.jT.jg<|bD (t.block K A λi=>by have:=H K i.symm;have:=h.oK;omega)<|q.block K d;have B:g K=z+40:=by rw[G K d];exact h.oK
 have key:=h.put (P:={E p with jf:=l}) Q jX A (by simp[dV];exact bP n t.size) G (λb x C r=>by rw[bE _ _ _ _<|by exact r,t.block b A λi=>C<|H b i.symm,q.block b x]) (a.jl (p*10+4) v) (by show nP z g _ e p 4 v _;unfold nP;simp[DE,DP,eJ];exact M.mn (Ag.PE ⟨A,A⟩ _ _) (λ_ _=>rfl) λb _ C=>bE _ _ _ _ λi=>pC) λS N s=>⟨λ_=>⟨rfl,rfl,rfl⟩,λ_=>rfl,λh=>zW h s,λ_=>rfl,λ_ _=>rfl⟩;exact⟨key.1,key.2,a.el _,a.kr _⟩
def j6.aaI(h:j6 z O w e c vB vL K R f E){p:V}(g:p<=c.D.nb)(jX:c.D.nb<=3)(n:V):j6 z O (w (K (p*10+1+2) ae) n) e c vB vL K R (λj=>if j=p*10+3 then n else f j) {E with jo:=jd E.jo p {E p with up:=n}}/\Ag z O w (w (K (p*10+1+2) ae) n):=by refine h.put g jX A F0 (λ_ _=>rfl) (λb k l d=>bE _ _ _ _ d) (h.jT.jl (p*10+3) _) (by unfold nP;simp) λm i a=>⟨λ_=>⟨rfl,rfl,rfl⟩,λh=>zW h a,λ_=>rfl,λ_=>rfl,λ_ _=>rfl⟩
end
def Ze(z:V)(O:V->V)(w:u)(e:V)(c:jH)(vB vL:y)(K R:V)(f:V->y)(E:jL)(h:j6 z O w e c vB vL K R f E)(H:mu c)(p:V)(q:p<=c.D.nb)(hw:(E p).jf.length<=c.W)(hu:(E p).up<=c.D.nl):aA ar 63 #[ay<|K (p*10+1) ae] w λr w'=>r=az (sh c p<|E p).isSome/\mA z O w e c vB vL K R ((qp E p<|sh c p<|E p).getD E) w':=by
 have c1:=h.c1 q;have c2:=h.c2 q;have c3:=h.c3 q;let⟨oa,oc,c4,hO⟩:=h.c4 q;obtain⟨hK,cW,-,-,-,-⟩:=h.k w mQ;have jX:=H.G.nb;have nt:=H.G.nl;have hW:=H.W.2;by_cases C:(E p).up<c.D.nl;case neg=>have v:Hid<|sh c p (E p)=ae:=BW λx=>C x.1;(have hq:jF (((E p).up:V):Y) 0 (c.D.nl-1)=aj:=by simp only[jF,Bool.and_eq_false_iff,decide_eq_false_iff_not];right;omega);generalize i:p*10+1=off at*;go_enter fL,fM;go_wp2_with fail;go_quiet((go_at_call 42;exact dE<|H3 _ c vB vL _ _<|hK.below<|below_drewN jQ _));go_wp2_with fail;go_ret;exact⟨by rw[v.out];rfl,by rw[v.out];exact h.tq<|below_drewN jQ _⟩
 have hq:jF (((E p).up:V):Y) 0 (c.D.nl-1)=T:=by simp only[jF,aD,DA];omega
 by_cases g:(E p).jf.length=c.W;.have v:Hid<|sh c p (E p)=ae:=BW λx=>x.2 g;(have aa:(((E p).jf.length:V):Y)==((c.W:V):Y):=by rw[g];simp);clear g;generalize i:p*10+1=off at*;go_enter fL,fM;go_wp2_with fail;go_quiet((go_at_call 42;exact dE<|H3 _ c vB vL _ _<|hK.below<|below_drewN jQ _));go_wp2_with fail;go_ret;exact⟨by rw[v.out];rfl,by rw[v.out];exact h.tq<|below_drewN jQ _⟩
 .have v:Hid<|sh c p (E p)=J {E p with jf:=(E p).jf++[rZ (E p).up],up:=tI c p<|(E p).up+1}:=rW ⟨C,g⟩;(have aa:((((E p).jf.length:V):Y)==((c.W:V):Y))=aj:=pC);generalize i:p*10+1=off at*;go_enter fL,fM;go_wp2_with fail;go_quiet((go_at_call 42;exact dE<|H3 _ c vB vL _ _<|hK.below<|below_drewN jQ _));go_wp2_with fail;have h0:=h.below<|below_drewN jQ nq;have m:Ag z O w<|w.drewN nq:=jq.km<|below_drewN jQ nq;have n:mK z O (w.drewN nq) (z+p*10+4) (ah oa (E p).jf.length oc) (E p).jf:=hO.mn m (λ_ _=>rfl) λ_ _ _=>rfl;have d1:ai (w.drewN nq) (K off ae)=_:=c1;have d3:ai (w.drewN nq) (K (off+2) ae)=_:=c3;have d4:ai (w.drewN nq) (K (off+3) ae)=_:=c4;clear c1 c2 c3 c4 cW hO hK;generalize(w.drewN nq)=o at*;go_cut[]from 3(λwc=>mA z O o e c vB vL K R {E with jo:=jd E.jo p {E p with jf:=(E p).jf++[rZ (E p).up]}} wc);(case first=>obtain⟨v',M,Q,S,P,va,vc,rfl⟩:=n.tn (W1:=(ax o<|ao #[((E p).up:V),aj,ah ae 0 0,aj,aj,aj,aj] 173).drew) (kI.drew) A o (rZ (E p).up) (ah ae 0 0) (Hv o _ 173) ⟨qV.pU _ _ _,λ_=>rfl⟩ A A;let⟨j,d,k4,kf⟩:=h0.aaf q jX n (kI.drew) P (λb hb=>j8 _ _<|by show b≠(ax o _);simp;omega) S;(have an:ai M (K (off+3) ae)=J (f<|p*10+4):=pC);(have am:bU M (K (off+3) ae)=aj:=pC);clear P S n k4 kf;simp only[i]at j d;have B:Hid<|mA z O o e c vB vL K R _ _:=⟨_,_,j,d,λb hb=>j8 _ _<|by show b≠(ax o _);simp;omega⟩;clear j d h h0;have ad:ai (ax o<|ao #[((E p).up:V),aj,ah ae 0 0,aj,aj,aj,aj] 173) (K (off+3) ae)=J (ah oa (E p).jf.length oc):=vU o _ d4;go_region_law(apply Iv rfl (.tmp 33) (.tmp 39) 123 rfl _ _ rfl rfl _ _ Q);all_goals go_wp2_with fail;go_meet;exact B);case rest=>clear d1 d3 d4 n h0 h;let⟨O3,f3,j,d,l⟩:=hcut;have s:=j.rV;have n1:=j.c1 q;have n2:=j.c2 q;have N:=j.c3 q;have nf:=j.fz<|p*10+1+2;simp only[ki]at N;simp only[i]at n1 n2 N nf;have B:Hid<|j6 _ _ _ _ _ _ _ _ _ _ _:=j;have ac:Hid<|∀E2 M,mA z O3 wc e c vB vL K R E2 M->mA z O w e c vB vL K R E2 M:=λ_ _ h=>mA.mq m (λ_ _=>rfl)<|mA.mq d l h;clear j d l m;have hC:=YM e c vB vL p ((E p).up+1) C wc.drew<|s.below lD;simp only[Int.natCast_add,Int.cast_ofNat_Int]at hC;have al:IntKind.i64.wrap (((E p).up:Y)+1)=((E p).up:Y)+1:=ahv A A;clear s;go_wp2_with fail;go_region_with(go_at_call 102;apply aE hC;rintro r X⟨rfl,F⟩;have m3:ai X (K (off+2) ae)=J (au ak ((E p).up:V)):=bD (aQ F (p:=(K (off+2) ae))<|bh wc _ N) N;have mf:bU X (K (off+2) ae)=aj:=bD (fA (w:=wc.drew) (w':=X) (a:=(K (off+2) ae))<|F.block K<|bh wc _ N) nf);all_goals go_wp2_with fail;go_ret;refine⟨by rw[v.out];rfl,?_⟩;rw[v.out];have t:aq wc wc X:=aO lD F;have h5:=(B.out.below t).aaI q jX<|tI c p<|(E p).up+1;simp only[DR,ki,i]at h5;exact ac.out _ _<|mA.mq (jq.km t) (λ_ _=>rfl) ⟨_,_,h5.1,h5.2,λ_ _=>rfl⟩
def To(w:u)(o:Obj):(ax w o).drew.heap.size=w.heap.size+1:=F0
def pj.tn{z:V}{O:V->V}{w W1:u}{c:V}{v:y}{l:L kU}(h:pj z O w c v l)(D:aq w w W1)(G:l.length<=1000)(a:aZ)(e:kU)(p:y)(g:∀j q,(mE (p,e))[j]?=J q->ai W1 (a.add j)=J q)(hk:qV z O w p e.ps)(M:z<=c)(K:c<z+50):∃o k,(∀ty,(bN #[126,126] ty #[v,ah a 1 1]).run ar W1=.ok o k)/\pj z (jd O W1 c) k c o (l++[e])/\W1.grownBy k v.ownBlock/\∃X P,o=ah X (l.length+1) P:=by
 let⟨S,R,E,N,F⟩:=h;let⟨i0,hi,s,r,B⟩:=bI Tryz.QN;have n:=D.size;let⟨o,k,r1,r2,r3,r4⟩:=Ox W1 126 195 i0 _ 3 40 dU hi s r B rfl A v l _ (zp E λb d=>D.block b (E.lt b d).2) a 1 1 (mE (p,e)) rfl g (by let⟨⟨ka,kc,C⟩,_⟩:=hk;subst C;intro q H;simp[mE]at H;obtain rfl|rfl|rfl:=H<;>rfl) A (by unfold bu;omega) A;have m:Ag z O w k:=⟨bP n r3.size,λb Q f=>bD (r3.block b (bG f n) λW=>Q<|by have:=F b W.symm;exact⟨A,A⟩)<|D.block b f⟩;have t:∀b,b<w.heap.size->jd O W1 c b=O b:=λb f=>j8 _ _ A;refine⟨o,k,r1,⟨S++[(p,e)],by simp[R],?_,?_,?_⟩,r3,?_⟩;.grind
 .intro x i;obtain i|i:=cH.1 i;(.exact(N x i).mn m t);.simp[dS]at i;subst i;exact hk.mn m t
 .intro b d;obtain r4|r4:=r4;(.rw[r4]at d;rw[t b (E.lt b d).2];exact F b d);.rw[r4]at d;injection d with d;rw[<-d,ki]
 .exact xJ r2
section
variable{z:V}{O:V->V}{w:u}{e:V}{c:jH}{vB vL:y}{K R:V}{f:V->y}{E:jL}
def j6.c5(h:j6 z O w e c vB vL K R f E){p:V}(b:p<=c.D.nb){q:V}(g:q<4):∃a cap,ai w (K (p*10+5+q) ae)=J (ah a ((E p).jS q) cap)/\pj z O w (z+p*10+(5+q)) (ah a ((E p).jS q) cap) ((E p).jS q):=by have:=h.jo p (5+q) b A;unfold nP at this;rw[jz,jz,jz,jz,jz,jz,eK]at this;let⟨a,cap,d⟩:=this.oP;refine⟨a,cap,?_,d▸this⟩;rw[cr,h.jP b (5+q) A,d]
def j6.c9(h:j6 z O w e c vB vL K R f E){p:V}(b:p<=c.D.nb):∃a cap,ai w (K (p*10+5+4) ae)=J (ah a (E p).ko.length cap)/\pj z O w (z+p*10+9) (ah a (E p).ko.length cap) (E p).ko:=by have:=h.jo p 9 b A;unfold nP at this;simp at this;let⟨a,cap,d⟩:=this.oP;refine⟨a,cap,?_,d▸this⟩;rw[show p*10+5+4=p*10+9 from rfl,h.jP b 9 A,d]
def j6.Q4(h:j6 z O w e c vB vL K R f E){p:V}(Q:p<=c.D.nb)(jX:c.D.nb<=3){s:V}(hs:s<10){v:y}{N:L kU}{O':V->V}(o:pj z O w (z+p*10+s) m N)(n:aq w w j)(q:j.grownBy k m.ownBlock)(G:∀b,b<w.heap.size->O' b=O b){P:Part}(C:∀M,nP z O' (k (K (p*10+s) ae) M) e p s v P)(F:∀r,r<10->r≠s->Lt r (E p) P):j6 z O' (k (K (p*10+s) ae) v) e c vB vL K R (λB=>if B=p*10+s then v else f B) {E with jo:=jd E.jo p P}/\Ag z O w (k (K (p*10+s) ae) v)/\k.cell? (K (p*10+s) ae)=J (f<|p*10+s)/\bU k (K (p*10+s) ae)=aj:=by let⟨es,S,X,W,x⟩:=o;have g:=n.size;have d:=h.jT.lt;have a:=h.jT.jg<|bD (q.block K A λt=>by have:=x K t.symm;have:=h.oK;omega)<|n.block K d;have key:=h.put Q jX hs (by simp[dV];exact bP g q.size) G (λb l H i=>by rw[bE _ _ _ _<|by exact i,q.block b A λt=>H<|x b t.symm,n.block b l]) (a.jl (p*10+s) v) (C v) F;exact⟨key.1,key.2,a.el _,a.kr _⟩
end
def pj.Gf{z:V}{O:V->V}{w:u}{c:V}{v:y}{l:L kU}(h:pj z O w c v l){K:V}(k:O K=z+40)(i:c≠z+40)(j:V)(a:y):pj z O (w (K j ae) a) c v l:=h.mn (Ag.PE ⟨A,A⟩ _ _) (λ_ _=>rfl) λb _ g=>bE _ _ _ _ λd=>pC
def aeQ(z:V)(O:V->V)(w:u)(e:V)(c:jH)(vB vL:y)(K R:V)(f:V->y)(E:jL)(h:j6 z O w e c vB vL K R f E)(H:mu c)(p q:V)(hp:p<=c.D.nb)(hq:q<4)(hl:((E p).jS q).length<=8)(x:kU)(hx:x.fr=q)(ka:n6 aZ)(kc:V)(hk:qV z O w (ah ka x.ps kc) x.ps):aA ar 106 #[ay<|K (p*10+5) ae,aK #[q,x.jb,ah ka x.ps kc]] w λr w'=>r=az (bj #[])/\mA z O w e c vB vL K R {E with jo:=jd E.jo p<|xu q x<|E p} w':=by
 have jX:=H.G.nb;have ac:(q:Y)<4:=A
 have am:(0:Y)<=(q:Y):=A
 have i:aq w w<|ax w<|ao #[q,x.jb,ah ka x.ps kc] 195:=kI;have S:=h.below i;have i0:ai (ax w<|ao #[q,x.jb,ah ka x.ps kc] 195) w=J (au ak q):=F0
 have i1:ai (ax w<|ao #[q,x.jb,ah ka x.ps kc] 195) ⟨w,1,ae⟩=J (au ak x.jb):=F0
 have i2:ai (ax w<|ao #[q,x.jb,ah ka x.ps kc] 195) ⟨w,2,ae⟩=J (ah ka x.ps kc):=F0
 have Q:=hk.mn (O':=O) (jq.km i) λ_ _=>rfl;have g:Ag z O w<|ax w<|ao #[q,x.jb,ah ka x.ps kc] 195:=jq.km i;let⟨ma,mc,F,n⟩:=h.c5 hp hq;have o:=n.mn (O':=O) g (λ_ _=>rfl) λb C _=>i.block b C;have c5:=vU w (ao #[q,x.jb,ah ka x.ps kc] 195) F;have B:Hid<|∀b,(ah ma ((E p).jS q) mc).ownBlock=J b->b<w.heap.size:=by let⟨es,o1,o2,_⟩:=n;exactλb C=>(o2.lt b C).2
 go_enter Tryz.func106,Tryz.ntmps106;go_wp2_with fail;clear h hk i n F;generalize w.heap.size=N at*;generalize(ax w<|ao #[q,x.jb,ah ka x.ps kc] 195)=k at*;obtain⟨v',w2,M,t,m,va,vc,rfl⟩:=o.tn (kI.drew) A k x (ah ka x.ps kc) (by have:=Hv k (mE (ah ka x.ps kc,x)) 195;simp only[mE,hx]at this⊢;exact this) Q A A;rw[To]at t;let⟨h3,d,k4,kf⟩:=S.Q4 hp jX (s:=5+q) A (O':=jd O (k.heap.size+1)<|z+p*10+(5+q)) (v:=ah va (((E p).jS q).length+1) vc) (P:=xu q x<|E p) o (kI.drew) m (λb C=>j8 _ _ A) (λW=>by unfold nP;rw[jz,jz,jz,jz,jz,jz,eK];show pj _ _ _ _ _ (jd (E p).jS q _ q);rw[ki];exact t.Gf (by rw[j8 _ _<|by have:=S.jT.lt;omega];exact S.oK) A _ _) λs' ad al=>⟨λ_=>⟨rfl,rfl,rfl⟩,λ_=>rfl,λ_=>rfl,λ_=>rfl,λh1 h2=>by show _=jd (E p).jS q _ (s'-5);rw[j8 _ _ A]⟩;rw[show p*10+(5+q)=p*10+5+q from A]at h3 d k4 kf;have X:Hid<|mA z O k e c vB vL K R _ _:=⟨_,_,h3,d,λb C=>j8 _ _ A⟩;have aa:Hid<|Ag z O w k:=g;have d5:=vU k (ao #[q,x.jb,ah ka x.ps kc] 195) c5;have j0:=vU k (ao #[q,x.jb,ah ka x.ps kc] 195) i0;have j1:=vU k (ao #[q,x.jb,ah ka x.ps kc] 195) i1;have j2:=vU k (ao #[q,x.jb,ah ka x.ps kc] 195) i2;have l:∀{j:V}{W:y},ai k (N j ae)=J W->ai w2 (N j ae)=J W:=λ{j W}hj=>m.cell (a:=(N j ae)) (vU k _ hj) λe'=>Nat.lt_irrefl _<|B.out N e'.symm;have m0:=l i0;have m1:=l i1;have m2:=l i2;clear h3 d o t m S g Q l B;go_region_law(apply Iv rfl (.tmp 13) (.tmp 15) 126 rfl _ _ rfl rfl _ _ M);all_goals go_wp2_with fail;go_end0;exact⟨rfl,mA.mq aa.out (λ_ _=>rfl) X.out⟩
def Qa{P:bO}{w:u}{ops:Z aM}{rest:L aM}{o:aM}{a:Act}{Q:cO->Act->u->U}(h:o.guard=ae)(s:dW)(t:aU)(g:o.op=.call {callee:=.builtin .clear,args:=#[s],argTypes:=#[t]})(d:y)(hs:a.eval s=d)(e:y)(f:u)(b:∀ty,(fP #[t] ty #[d]).run P w=.ok e f)(i:dy P ops Q rest (a.put o.dst e) f):dy P ops Q (o::rest) a w:=by refine eQ h λK c=>?_;unfold cU cV;simp[g,resolve,invoke,builtin,Sem.run_bind,Sem.run_pure,Result.andThen_ok,ib,dt,fx,hs,b];exact c _ _ i
def Oa{P:bO}(w:u)(t e:aU)(i:ek)(z:y)(s:cT P t=J (.slice e))(hi:P.info? e=J i)(p:i.zero=J z)(D:∀r∈z.cells.toList,r.oneCell'=T)(g o n c:V)(a:Z y)(q:w.heap[g]?=J (ao a e (0,0)))(C:0<n)(k:o+n*z.cells<=a.size):∃b:Z y,(∀ty,(fP #[t] ty #[ah (g o ae) n c]).run P w=.ok (bj #[]) (w.setRow g b))/\b=a.size/\b.toList.take o=a.toList.take o:=by
 have h:∀v∈(cx z.cells n).toList,v.oneCell'=T:=by intro v l;simp[cx]at l;obtain⟨j,x,rfl⟩:=l;by_cases hs:z.cells.size=0;(.simp[hs]at x);.have B:j%z.cells<z.cells.size:=fy _ A;grind
 have f:(cx z.cells n).toList.length=n*z.cells:=by rw[iP];exact iq _ _
 have d:=fU P g o e (cx z.cells n).toList 0 a w q (by rw[f];omega) h;simp[Nat.add_zero]at d;obtain⟨m,rfl⟩:∃m,n=m+1:=⟨n-1,A⟩;refine⟨(a.toList.take o++(cx z.cells<|m+1).toList++a.toList.drop (o+(cx z.cells<|m+1).toList.length)).toArray,λty=>?_,?_,?_⟩;.simp[fP,dY s,zeroValue,typeInfo,hi,p,d]
 .grind
 grind
def uv(f:G->L y)(n:V)(c:V->y)(k:V)(x:G):U:=∀r,r<n->(f x)[r]?=J (c<|k*n+r)
def Qr(f:G->L y)(n:V)(m:∀x,(f x)=n)(d:0<n){w:u}{g cap:V}{c:V->y}(h:je w g v (cap*n) c){l:L G}(o:l<=cap)(a:cap<=bu)(z:∀k x,l[k]?=J x->uv f n c k x):w.ownsRow 0 v n (ah g l cap) l<|l.flatMap f:=by
 let⟨i,s,B,t⟩:=h;refine⟨J0 f n m l,aN ⟨g,cap,i,rfl,j9,s,o,a,B,?_⟩⟩;apply iK;intro j;by_cases e:j<l*n;.have r:j%n<n:=fy _ d;(have b:j/n*n+j%n=j:=by rw[dk];exact Nat.div_add_mod j n);obtain⟨x,p⟩:∃x,l[j/n]?=J x:=⟨_,dw<|(Nat.div_lt_iff_lt_mul d).2 e⟩;have q:=El f n m l (j/n) (j%n) x p r;rw[b]at q;rw[q,z _ x p _ r,b,cd,rW e,dK];exact t j<|bG e<|de _ o
 .rw[cd,BW e,List.getElem?_eq_none];rw[J0 f n m l];omega
def KO(f:G->L y)(n:V)(C:∀x,(f x)=n){w:u}{g m cap:V}{l:L G}(h:aH w 0 v n (ah g m cap) l<|l.flatMap f):∃c,je w g v (cap*n) c/\l<=cap/\cap<=bu/\∀k x,l[k]?=J x->uv f n c k x:=by
 obtain⟨e,_⟩|⟨E,o,b,e,_,s,D,z,q,t⟩:=h.2;.cases e
 .injection e with e1 e2 e3;injection e1 with e1;injection e1 with e1;subst e1 e3;refine⟨λj=>b.getD j aX,⟨b,s,q,λj F=>?_⟩,D,z,λk x i r B=>?_⟩;(.simp_all);.have hk:=(du.1 i).1;have p:=El f n C l k r x i B;(have d:k*n+r<l*n:=pC);(have a:k*n+r<b:=pC);rw[<-p,<-t,cd,rW d,dK,fc a];simp[gd,a]
def je.Z0{w:u}{g m:V}{c:V->y}(h:je w g v m c)(o:V)(a b d e f i j:y):je (w (g o ae) a (g (o+1) ae) b (g (o+2) ae) d (g (o+3) ae) e (g (o+4) ae) f (g (o+5) ae) i (g (o+6) ae) j) g v m λk=>if k=o+6 then j else if k=o+5 then i else if k=o+4 then f else if k=o+3 then e else if k=o+2 then d else if k=o+1 then b else if k=o then a else c k:=((((((h.jl o a).jl (o+1) b).jl (o+2) d).jl (o+3) e).jl (o+4) f).jl (o+5) i).jl (o+6) j
def je.aft{w:u}{g m:V}{c:V->y}(h:je w g v m c)(o:V)(a b d:y):je (w (g o ae) a (g (o+1) ae) b (g (o+2) ae) d) g v m λk=>if k=o+2 then d else if k=o+1 then b else if k=o then a else c k:=((h.jl o a).jl (o+1) b).jl (o+2) d
def SL{w:u}{g m:V}{c:V->y}(h:je w g v m c){o:V}{d b:Z y}(i:w.heap[g]?=J (ao d v (0,0)))(hs:b=d.size)(n:b.toList.take o=d.toList.take o):∃f,je (w.setRow g b) g v m f/\∀j,j<o->j<m->f j=c j:=by
 let⟨s,e,r,q⟩:=h;rw[i]at e;injection e with e;injection e with e;subst e;refine⟨λj=>b.getD j aX,⟨b,dJ w g d _ v _ i,A,λj k=>?_⟩,λj k p=>?_⟩;.simp_all
 .have a:=C7 (λl=>l[j]?) n;simp[cd,rW k,dK]at a;simp_all
def LA(b:L<|y×jy):U:=∀x∈b,∃a c,x.1=ah a x.2.jR.length c
def nY(i:V)(x:y×jy):I:=!(x.2.jb==i)
def TE(c i:V)(x:jy)(b:y)(ka:n6 aZ)(kn kc:V)(a:b=ah ka kn kc)(w:u)(f:ai w c=J (au ak i)):aA ar 139 #[aK #[x.jb,x.kh,b,(x.jv 0),(x.jv 1),(x.jv 2),(x.jv 3)],ay c] w λe d=>e=az (x.jb==i)/\aq w w d:=by
 have g:=bh _ _ f;subst a;have hB:Hid<|((x.jb:Y)==(i))=(x.jb==i):=by show _=_;grind
 go_enter Tryz.func139,Tryz.ntmps139;go_wp2_with fail;go_ret;exact⟨kT hB.out,kI⟩
def VS{i:V}{a:L<|y×jy}{k:V}(h:∀j x,j<k->a[j]?=J x->nY i x=T):(a.take k).filter (nY i)=a.take k:=by rw[eM];intro x b;let⟨j,c⟩:=dH b;grind
def GD{i:V}{a:L<|y×jy}{k:V}{x:y×jy}(h:a[k]?=J x):(a.take<|k+1).filter (nY i)=(a.take k).filter (nY i)++if nY i x then[x]else[]:=by rw[dO,h,ej];grind
def ads(B i g n cap:V)(h:L<|y×jy)(hk:LA h)(N:n=h)(W:n<=1000)(c:V->y)(m:V)(w:u)(q:je w g 173 m c)(hm:n*7<=m)(O:∀k x,h[k]?=J x->uv lV 7 c k x)(P:ai w B=J (au ak i)):aA ar 116 #[ah g n cap,bJ (bK 139) #[] #[ay B]] w λe G=>((∃k x,k<n/\e=az (k:V)/\h[k]?=J x/\nY i x=aj/\∀j b,j<k->h[j]?=J b->nY i b=T)\/(e=az (au ak<|-1)/\∀(j:V)b,h[j]?=J b->nY i b=T))/\aq w w G:=by
 have lx:B<w:=bh _ _ P;have lg:=q.lt;have F:Hid<|∀k x,h[k]?=J x->uv lV 7 c k x:=O;have M:Hid<|LA h:=hk;have C:Hid<|n=h:=N;clear O hk N;go_enter iQ,iR;go_wp2;go_loopw[8](λj wr=>∃k:V,k<=n/\j=k/\Hid (∀j b,j<k->h[j]?=J b->nY i b=T)/\aq w w wr)(λj _=>n-(aF j).toNat);exact⟨0,j9,rfl,λj b X _=>A,jQ⟩;obtain⟨k,aa,rfl,D,d⟩:=hrel;by_cases H:k<n;.obtain⟨x,l⟩:∃x,h[k]?=J x:=⟨_,dw<|by have:=C.out;omega⟩;let⟨ka,kc,t⟩:=M.out x<|cj l;have o:=F.out k x l;have r:=q.below d;let⟨Q,a⟩:=x;simp only at t;(have y0:ai wr (g (k*7) ae)=J (au ak a.jb):=by rw[r.el<|k*7];exact(o 0 A).symm);(have y1:ai wr (g (k*7+1) ae)=J (cF a.kh):=by rw[r.el<|k*7+1];exact(o 1 A).symm);(have y2:ai wr (g (k*7+2) ae)=J Q:=by rw[r.el<|k*7+2];exact(o 2 A).symm);(have y3:ai wr (g (k*7+3) ae)=J (cF<|a.jv 0):=by rw[r.el<|k*7+3];exact(o 3 A).symm);(have y4:ai wr (g (k*7+4) ae)=J (cF<|a.jv 1):=by rw[r.el<|k*7+4];exact(o 4 A).symm);(have y5:ai wr (g (k*7+5) ae)=J (cF<|a.jv 2):=by rw[r.el<|k*7+5];exact(o 5 A).symm);(have y6:ai wr (g (k*7+6) ae)=J (cF<|a.jv 3):=by rw[r.el<|k*7+6];exact(o 6 A).symm);(have K:ai wr B=J (au ak i):=by rw[aQ d (p:=B) lx];exact P);(have R:(k:Y)<(n:Y):=A);(have ac:(0:Y)<=(k:Y):=A);clear o r;have E:=TE B i a Q ka a.jR kc t wr K;subst t;cases f:(a.jb==i)with|true=>(have HY:Hid<|nY i (ah ka a.jR kc,a)=aj:=by show _=_;simp[nY,f]);rw[f]at E;clear f;go_wp2_with(go_at_call 139;apply aE E;rintro e G⟨rfl,z⟩);go_ret;exact⟨aP ⟨k,_,H,rfl,l,HY.out,D⟩,aO d<|bn z d.size⟩|false=>(have S:Hid<|nY i (ah ka a.jR kc,a)=T:=by show _=_;simp[nY,f]);rw[f]at E;(have v:Hid<|∀j b,j<k+1->h[j]?=J b->nY i b=T:=λj b X s=>by by_cases e:j=k;(.subst e;rw[l]at s;injection s with s;rw[<-s];exact S);.exact D j b A s);clear f D;go_wp2_with(go_at_call 139;apply aE E;rintro e G⟨rfl,z⟩);go_roundw;exact⟨k+1,A,pR,v,aO d<|bn z d.size⟩;simp[aF];omega
 .have v:=λj b s=>D j b (by have:=(du.1 s).1;have:=C.out;omega) s;clear D;go_wp2_with fail;go_ret;exact⟨aN ⟨rfl,v⟩,d⟩
structure BT(i:V)(es:L<|y×jy)(j:V)(c:V->y):U where
 fr:∀k x,((es.take j).filter<|nY i)[k]?=some x->uv lV 7 c k x
 bk:∀k x,j<=k->es[k]?=some x->uv lV 7 c k x
def YA(i:V)(a:L<|y×jy)(j:V):((a.take j).filter<|nY i)<=j:=pC
def BT.skip{i:V}{d:L<|y×jy}{c:V->y}(h:BT i d v c){x:y×jy}(e:d[v]?=J x)(hk:nY i x=aj):BT i d (v+1) c:=⟨λk b a=>by rw[GD e,hk]at a;simp at a;exact h.fr k b<|by simpa using a,λk b f a=>h.bk k b A a⟩
def zU(o:V)(a b d e f i j:y)(c:V->y)(k:V):y:=if k=o+6 then j else if k=o+5 then i else if k=o+4 then f else if k=o+3 then e else if k=o+2 then d else if k=o+1 then b else if k=o then a else c k
def alp(x:y×jy)(c:V->y)(m:V):uv lV 7 (zU (m*7) x.2.jb x.2.kh x.1 (x.2.jv 0) (x.2.jv 1) (x.2.jv 2) (x.2.jv 3) c) m x:=by intro r a;match r,a with|0,_=>simp[zU,lV]|1,_=>simp[zU,lV]|2,_=>simp[zU,lV]|3,_=>simp[zU,lV]|4,_=>simp[zU,lV]|5,_=>simp[zU,lV]|6,_=>simp[zU,lV]
def alv{o:V}{a b d e f i:y}{c:V->y}{k:V}(h:k<o\/o+7<=k):zU o a b d e f i m c k=c k:=by unfold zU;grind
def uv.kD{x g:y×jy}{c:V->y}{m k:V}{a b d e f i:y}(h:uv lV 7 c k g)(o:k≠m):uv lV 7 (zU (m*7) a b d e f i n c) k g:=by intro r l;rw[h r l,alv];omega
def BT.jr{i:V}{b:L<|y×jy}{c:V->y}(h:BT i b v c){x:y×jy}(g:b[v]?=J x)(hk:nY i x=T):BT i b (v+1)<|zU (((b.take v).filter<|nY i).length*7) x.2.jb x.2.kh x.1 (x.2.jv 0) (x.2.jv 1) (x.2.jv 2) (x.2.jv 3) c:=by
 have f:=YA i b v;refine⟨λk d a=>?_,λk d m a=>(h.bk k d A a).kD (x:=x) A⟩;rw[GD g,hk]at a;simp[DE]at a;rw[iT]at a;split at a;.exact(h.fr k d a).kD (x:=x) A
 .rename_i l;(have e:k=((b.take v).filter<|nY i):=pC);subst e;simp at a;subst a;exact alp x c _
def adO(bt i g cap:V)(l:L<|y×jy)(hk:LA l)(bb:l.length<=1000)(w:u)(M:aH w 0 173 7 (ah g l cap) l<|l.flatMap lV)(hx:ai w bt=J (au ak i))(ba:bt≠g):aA ar 138 #[ah g l cap,bJ (bK 139) #[] #[ay bt]] w λe w'=>e=az (ah g (l.filter<|nY i) cap)/\w'.ownsRow 0 173 7 (ah g (l.filter<|nY i) cap) (l.filter<|nY i) ((l.filter<|nY i).flatMap lV)/\jq (λb=>b≠g) w w':=by
 let⟨c,f,a2,aw,he⟩:=KO lV 7 B5 M;have lx:bt<w:=bh _ _ hx;have hI:=ads bt i g l cap l hk rfl bb c (cap*7) w f (de _ a2) he hx;have hO:Hid<|aH w 0 173 7 (ah g l cap) l<|l.flatMap lV:=M;have a7:Hid<|LA l:=hk;have hE:Hid<|∀k x,l[k]?=J x->uv lV 7 c k x:=he;clear M hk he;generalize hn:l.length=n at*;have R:Hid<|l=n:=hn;clear hn;go_enter iU,iV;go_wp2_with fail;apply aE hI;clear hI;rintro e w1⟨⟨k,x,bq,rfl,av,am,an⟩|⟨rfl,X⟩,K⟩;. (have a6:((k:Y)==-1)=aj:=F0);(have p:Hid<|BT i l (k+1) c:=by refine⟨λj a5 hy=>?_,λj a5 hj hy=>hE j a5 hy⟩;rw[GD av,am,VS an]at hy;simp at hy;rw[cd]at hy;split at hy;(.exact hE j a5 hy);.cases hy);(have aW:Hid<|((l.take<|k+1).filter<|nY i)=k:=by show _=_;rw[GD av,am,VS an];grind);have B:=f.below K;have a0:jq (λb=>b≠g) w w1:=jq.km K;clear av am an f hE hO K;go_wp2_with fail;go_loopw[5,6](λv a3 wr=>∃(m mm:V)(c':V->y),m<=n/\mm<m/\a3=m/\v=mm/\Hid (((l.take m).filter<|nY i)=mm)/\Hid (BT i l m c')/\je wr g 173 (cap*7) c'/\jq (λb=>b≠g) w wr)(λ_ a3 _=>n-(aF a3).toNat);exact⟨k+1,k,c,A,A,pR,rfl,aW,p,B,a0⟩;clear p aW B a0 a6;obtain⟨m,mm,c',hj,bm,rfl,rfl,z,p,f,hK⟩:=hrel;by_cases bi:m<n;(.obtain⟨x,s⟩:∃x,l[m]?=J x:=⟨_,dw<|by have:=R.out;omega⟩;let⟨ka,kc,aI⟩:=a7.out x<|cj s;have t:=p.out.bk m x jK s;(have bp:m*7+7<=cap*7:=A);let⟨kv,d⟩:=x;simp only at aI;(have y0:ai wr (g (m*7) ae)=J d.jb:=by rw[f.el<|m*7];exact(t 0 A).symm);(have y1:ai wr (g (m*7+1) ae)=J d.kh:=by rw[f.el<|m*7+1];exact(t 1 A).symm);(have y2:ai wr (g (m*7+2) ae)=J kv:=by rw[f.el<|m*7+2];exact(t 2 A).symm);(have y3:ai wr (g (m*7+3) ae)=J (d.jv 0):=by rw[f.el<|m*7+3];exact(t 3 A).symm);(have y4:ai wr (g (m*7+4) ae)=J (d.jv 1):=by rw[f.el<|m*7+4];exact(t 4 A).symm);(have y5:ai wr (g (m*7+5) ae)=J (d.jv 2):=by rw[f.el<|m*7+5];exact(t 5 A).symm);(have y6:ai wr (g (m*7+6) ae)=J (d.jv 3):=by rw[f.el<|m*7+6];exact(t 6 A).symm);(have Q:ai wr bt=J i:=by rw[hK.jP ba lx];exact hx);subst aI;have ac:aq wr wr<|ax wr<|ao #[d.jb,d.kh,ah ka d.jR kc,(d.jv 0),(d.jv 1),(d.jv 2),(d.jv 3)] 173:=kI;have hC:=TE bt i d (ah ka d.jR kc) ka d.jR kc rfl _<|vU wr (ao #[d.jb,d.kh,ah ka d.jR kc,(d.jv 0),(d.jv 1),(d.jv 2),(d.jv 3)] 173) Q;have i0:=lZ wr [d.jb,d.kh,ah ka d.jR kc,(d.jv 0),(d.jv 1),(d.jv 2),(d.jv 3)] 173;(have bd:(m:Y)<(n:Y):=A);(have bx:(0:Y)<=(m:Y):=A);have bf:=f.lt;have G:=f.below ac;have aL:=hK.jA<|jq.km ac;clear t Q hK f;go_wp2_with fail;clear y0 y1 y2 y3 y4 y5 y6 ac;(have bg:g≠wr:=A);generalize wr=N at*;generalize(ax wr<|ao #[d.jb,d.kh,ah ka d.jR kc,(d.jv 0),(d.jv 1),(d.jv 2),(d.jv 3)] 173)=w5 at*;apply aE hC;rintro e w6⟨rfl,S⟩;have r6:=i0.below S;let⟨z0,z1,z2,z3,z4,z5,z6⟩:=YS r6;have h:=G.below S;have ad:=aL.jA<|jq.km S;clear r6 i0 hC S G aL;cases O:(d.jb==i)with|true=>(have HY:nY i (ah ka d.jR kc,d)=aj:=by simp[nY,O]);have q:Hid<|BT i l (m+1) c':=p.out.skip s HY;(have H:Hid<|((l.take<|m+1).filter<|nY i)=mm:=by show _=_;rw[GD s,HY];simpa using z.out);clear p z HY O s;go_wp2_with fail;go_roundw;exact⟨m+1,mm,c',A,A,pR,rfl,H,q,h,ad⟩;simp[aF];omega|false=>(have HN:nY i (ah ka d.jR kc,d)=T:=by simp[nY,O]);have q:=p.out.jr s HN;rw[z.out]at q;have aS:Hid<|BT i l (m+1) _:=q;(have H:Hid<|((l.take<|m+1).filter<|nY i)=mm+1:=by show _=_;rw[GD s,HN];simp[z.out]);have f0:=h.kr;(have br:mm*7+7<=cap*7:=A);have x0:=h.el<|mm*7;have x1:=h.el<|mm*7+1;have x2:=h.el<|mm*7+2;have x3:=h.el<|mm*7+3;have x4:=h.el<|mm*7+4;have x5:=h.el<|mm*7+5;have x6:=h.el<|mm*7+6;(have q1:(mm:Y)<(n:Y):=A);(have q0:(0:Y)<=(mm:Y):=A);have E:=h.Z0 (mm*7) d.jb d.kh (ah ka d.jR kc) (d.jv 0) (d.jv 1) (d.jv 2)<|d.jv 3;have aB:jq (λb=>b≠g) w _:=((((((ad.jl (a:=(g (mm*7) ae)) F0 d.jb).jl (a:=(g (mm*7+1) ae)) F0 d.kh).jl (a:=(g (mm*7+2) ae)) F0<|ah ka d.jR kc).jl (a:=(g (mm*7+3) ae)) F0<|d.jv 0).jl (a:=(g (mm*7+4) ae)) F0<|d.jv 1).jl (a:=(g (mm*7+5) ae)) F0<|d.jv 2).jl (a:=(g (mm*7+6) ae)) F0<|d.jv 3;have aV:Hid<|je _ g 173 (cap*7) _/\jq (λb=>b≠g) w _:=⟨E,aB⟩;clear p z HN O s q E aB h ad;go_wp2_with fail;go_roundw;exact⟨m+1,mm+1,_,A,A,pR,pR,H,aS,aV.out.1,aV.out.2⟩;simp[aF];omega);. (have aG:m=n:=A);(have a9:l.take m=l:=by rw[aG,<-R.out,fw]);(have hF:Hid<|(l.filter<|nY i)=mm:=pC);let⟨i0,hi,a8,bw,bo⟩:=bI Tryz.OQ;let⟨a4,g1,g2,g3⟩:=id f;let⟨F,aC,a1,W⟩:=Oa (P:=ar) wr 123 173 i0 _ iN hi a8 (by intro a3 hu;simp[cY]at hu;rcases hu with rfl|rfl|rfl|rfl<;>rfl) g (mm*7) (n-mm) (cap-mm) a4 g1 A (by simp[cY];omega);let⟨c2,C,al⟩:=SL f (o:=mm*7) g1 a1 W;have aR:jq (λb=>b≠g) w<|wr.setRow g F:=hK.jA ⟨F0,λb hb _=>dA wr g b _ hb⟩;(have D:aH (wr.setRow g F) 0 173 7 (ah g (l.filter<|nY i) cap) (l.filter<|nY i)<|(l.filter<|nY i).flatMap lV:=by refine Qr lV 7 B5 A C pC aw λk' x' Q r hr=>?_;have h8:=p.out.fr k' x' pC r hr;(have bv:k'<mm:=by have:=(du.1 Q).1;have:=hF.out;omega);grind);have aa:Hid<|_/\jq (λb=>b≠g) w (wr.setRow g F):=⟨D,aR⟩;clear D aR C al g1 g2 g3 a1 W p z a9 aG f hK;(have q0:(0:Y)<=(mm:Y):=A);(have q1:(mm:Y)<=(n:Y):=A);(have q2:(mm:Y)<=(cap:Y):=A);(have q3:(n:Y)<=(cap:Y):=A);(have be:¬(m:Y)<(n:Y):=A);go_wp2_with(at_builtin;apply Qa rfl _ 123 rfl _ rfl _ _ aC);go_ret;exact⟨by rw[hF.out];rfl,aa.out.1,aa.out.2⟩
 . (have hF:Hid<|l.filter (nY i)=l:=by show _=_;rw[eM];intro x hx;let⟨j,hj⟩:=dH hx;exact X j x hj);(have bc:Hid<|aH w1 0 173 7 (ah g l cap) l<|l.flatMap lV:=by have:=hO.out;rw[R.out];exact zp this λb hb=>K.block b (this.lt b hb).2);clear X;go_wp2_with fail;go_ret;refine⟨by rw[hF.out,R.out];rfl,?_,jq.km K⟩;rw[hF.out];exact bc.out
def I8(b:L<|y×kU):U:=∀x∈b,∃a c,x.1=ah a x.2.ps.length c
def nM(i:V)(x:y×kU):I:=!(x.2.jb==i)
def WX(a i:V)(x:kU)(c:y)(ka:n6 aZ)(kn kc:V)(b:c=ah ka kn kc)(w:u)(f:ai w a=J (au ak i)):aA ar 141 #[aK #[x.fr,x.jb,c],ay a] w λe d=>e=az (x.jb==i)/\aq w w d:=by
 have g:a<w:=bh _ _ f;subst b;have hB:Hid<|((x.jb:Y)==(i:Y))=(x.jb==i):=by show _=_;rw[eF,DB,DB];omega
 go_enter Tryz.func141,Tryz.ntmps141;go_wp2_with fail;go_ret;exact⟨kT hB.out,kI⟩
def VC{i:V}{b:L<|y×kU}{k:V}(h:∀j x,j<k->b[j]?=J x->nM i x=T):(b.take k).filter (nM i)=b.take k:=by
 rw[eM];intro x d;let⟨j,a⟩:=dH d;rw[cd]at a;split at a;.rename_i c;exact h j x c a
 .cases a
def FU{i:V}{a:L<|y×kU}{k:V}{x:y×kU}(h:a[k]?=J x):(a.take<|k+1).filter (nM i)=(a.take k).filter (nM i)++if nM i x then[x]else[]:=by rw[dO,h,ej];cases b:nM i x<;>simp[b]
def alg(v i g n cap:V)(f:L<|y×kU)(hk:I8 f)(R:n=f)(W:n<=1000)(c:V->y)(m:V)(w:u)(q:je w g 195 m c)(hm:n*3<=m)(O:∀k x,f[k]?=J x->uv mE 3 c k x)(N:ai w v=J (au ak i)):aA ar 170 #[ah g n cap,bJ (bK 141) #[] #[ay v]] w λe H=>((∃k x,k<n/\e=az (k:V)/\f[k]?=J x/\nM i x=aj/\∀j a,j<k->f[j]?=J a->nM i a=T)\/(e=az (au ak<|-1)/\∀(j:V)a,f[j]?=J a->nM i a=T))/\aq w w H:=by
 have lx:v<w:=bh _ _ N;have lg:=q.lt;have F:Hid<|∀k x,f[k]?=J x->uv mE 3 c k x:=O;have G:Hid<|I8 f:=hk;have B:Hid<|n=f:=R;clear O hk R;go_enter iW,iX;go_wp2;go_loopw[8](λj wr=>∃k:V,k<=n/\j=k/\Hid (∀j a,j<k->f[j]?=J a->nM i a=T)/\aq w w wr)(λj _=>n-(aF j).toNat);exact⟨0,j9,rfl,λj a hj _=>A,jQ⟩;obtain⟨k,S,rfl,z,d⟩:=hrel;by_cases K:k<n;.obtain⟨x,l⟩:∃x,f[k]?=J x:=⟨_,dw<|by have:=B.out;omega⟩;let⟨ka,kc,r⟩:=G.out x<|cj l;have C:=F.out k x l;have D:=q.below d;let⟨P,b⟩:=x;simp only at r;(have y0:ai wr (g (k*3) ae)=J (au ak b.fr):=by rw[D.el<|k*3];exact(C 0 A).symm);(have y1:ai wr (g (k*3+1) ae)=J (au ak b.jb):=by rw[D.el<|k*3+1];exact(C 1 A).symm);(have y2:ai wr (g (k*3+2) ae)=J P:=by rw[D.el<|k*3+2];exact(C 2 A).symm);(have M:ai wr v=J (au ak i):=by rw[aQ d (p:=v) lx];exact N);(have Q:(k:Y)<(n:Y):=A);(have aa:(0:Y)<=(k:Y):=A);clear C D;have E:=WX v i b P ka b.ps kc r wr M;subst r;cases h:(b.jb==i)with|true=>(have HY:Hid<|nM i (ah ka b.ps kc,b)=aj:=by show _=_;simp[nM,h]);rw[h]at E;clear h;go_wp2_with(go_at_call 141;apply aE E;rintro e H⟨rfl,t⟩);go_ret;exact⟨aP ⟨k,_,K,rfl,l,HY.out,z⟩,aO d<|bn t d.size⟩|false=>(have X:Hid<|nM i (ah ka b.ps kc,b)=T:=by show _=_;simp[nM,h]);rw[h]at E;(have s:Hid<|∀j a,j<k+1->f[j]?=J a->nM i a=T:=λj a hj o=>by by_cases e:j=k;(.subst e;rw[l]at o;injection o with o;rw[<-o];exact X);.exact z j a A o);clear h z;go_wp2_with(go_at_call 141;apply aE E;rintro e H⟨rfl,t⟩);go_roundw;exact⟨k+1,A,pR,s,aO d<|bn t d.size⟩;simp[aF];omega
 .have s:Hid<|∀(j:V)a,f[j]?=J a->nM i a=T:=λj a o=>z j a (by have:=(du.1 o).1;have:=B.out;omega) o;clear z;go_wp2_with fail;go_ret;exact⟨aN ⟨rfl,s⟩,d⟩
structure BH(i:V)(es:L<|y×kU)(j:V)(c:V->y):U where
 fr:∀k x,((es.take j).filter<|nM i)[k]?=some x->uv mE 3 c k x
 bk:∀k x,j<=k->es[k]?=some x->uv mE 3 c k x
def Y5(i:V)(a:L<|y×kU)(j:V):((a.take j).filter<|nM i)<=j:=pC
def BH.skip{i:V}{d:L<|y×kU}{c:V->y}(h:BH i d v c){x:y×kU}(e:d[v]?=J x)(hk:nM i x=aj):BH i d (v+1) c:=⟨λk b a=>by rw[FU e,hk]at a;simp at a;exact h.fr k b<|by simpa using a,λk b f a=>h.bk k b A a⟩
def DM(o:V)(a b d:y)(c:V->y)(k:V):y:=if k=o+2 then d else if k=o+1 then b else if k=o then a else c k
def alT(x:y×kU)(c:V->y)(m:V):uv mE 3 (DM (m*3) x.2.fr x.2.jb x.1 c) m x:=by intro r a;match r,a with|0,_=>simp[DM,mE]|1,_=>simp[DM,mE]|2,_=>simp[DM,mE]
def aeD{o:V}{a b d:y}{c:V->y}{k:V}(h:k<o\/o+3<=k):DM o a b d c k=c k:=by unfold DM;grind
def uv.Tu{x e:y×kU}{c:V->y}{m k:V}{a b d:y}(h:uv mE 3 c k e)(g:k≠m):uv mE 3 (DM (m*3) a b d c) k e:=by intro r f;rw[h r f,aeD];omega
def BH.jr{i:V}{b:L<|y×kU}{c:V->y}(h:BH i b v c){x:y×kU}(g:b[v]?=J x)(hk:nM i x=T):BH i b (v+1)<|DM (((b.take v).filter<|nM i).length*3) x.2.fr x.2.jb x.1 c:=by
 have f:=Y5 i b v;refine⟨λk d a=>?_,λk d m a=>(h.bk k d A a).Tu (x:=x) A⟩;rw[FU g,hk]at a;simp[DE]at a;rw[iT]at a;split at a;.exact(h.fr k d a).Tu (x:=x) A
 .rename_i l;(have e:k=((b.take v).filter<|nM i):=pC);subst e;simp at a;subst a;exact alT x c _
def aiY(bt i g cap:V)(h:L<|y×kU)(hk:I8 h)(a7:h.length<=1000)(w:u)(K:aH w 0 195 3 (ah g h cap) h<|h.flatMap mE)(hx:ai w bt=J (au ak i))(a9:bt≠g):aA ar 140 #[ah g h cap,bJ (bK 141) #[] #[ay bt]] w λe w'=>e=az (ah g (h.filter<|nM i) cap)/\w'.ownsRow 0 195 3 (ah g (h.filter<|nM i) cap) (h.filter<|nM i) ((h.filter<|nM i).flatMap mE)/\jq (λb=>b≠g) w w':=by
 let⟨c,f,a1,aG,he⟩:=KO mE 3 NU K;have lx:bt<w:=bh _ _ hx;have hI:=alg bt i g h cap h hk rfl a7 c (cap*3) w f (de _ a1) he hx;have hO:Hid<|aH w 0 195 3 (ah g h cap) h<|h.flatMap mE:=K;have a6:Hid<|I8 h:=hk;have hE:Hid<|∀k x,h[k]?=J x->uv mE 3 c k x:=he;clear K hk he;generalize hn:h.length=n at*;have R:Hid<|h=n:=hn;clear hn;go_enter iY,iZ;go_wp2_with fail;apply aE hI;clear hI;rintro e w1⟨⟨k,x,br,rfl,av,am,an⟩|⟨rfl,aa⟩,G⟩;. (have ba:((k:Y)==-1)=aj:=F0);(have p:Hid<|BH i h (k+1) c:=by refine⟨λj bb hy=>?_,λj bb hj hy=>hE j bb hy⟩;rw[FU av,am,VC an]at hy;simp at hy;rw[cd]at hy;split at hy;(.exact hE j bb hy);.cases hy);(have aR:Hid<|((h.take<|k+1).filter<|nM i)=k:=by show _=_;rw[FU av,am,VC an];grind);have z:=f.below G;have aW:jq (λb=>b≠g) w w1:=jq.km G;clear av am an f hE hO G;go_wp2_with fail;go_loopw[5,6](λv a3 wr=>∃(m mm:V)(c':V->y),m<=n/\mm<m/\a3=m/\v=mm/\Hid (((h.take m).filter<|nM i)=mm)/\Hid (BH i h m c')/\je wr g 195 (cap*3) c'/\jq (λb=>b≠g) w wr)(λ_ a3 _=>n-(aF a3).toNat);exact⟨k+1,k,c,A,A,pR,rfl,aR,p,z,aW⟩;clear p aR z aW ba;obtain⟨m,mm,c',hj,bm,rfl,rfl,t,p,f,hK⟩:=hrel;by_cases bg:m<n;(.obtain⟨x,q⟩:∃x,h[m]?=J x:=⟨_,dw<|by have:=R.out;omega⟩;let⟨ka,kc,aL⟩:=a6.out x<|cj q;have M:=p.out.bk m x jK q;(have bf:m*3+3<=cap*3:=A);let⟨kv,d⟩:=x;simp only at aL;(have y0:ai wr (g (m*3) ae)=J (au ak d.fr):=by rw[f.el<|m*3];exact(M 0 A).symm);(have y1:ai wr (g (m*3+1) ae)=J (au ak d.jb):=by rw[f.el<|m*3+1];exact(M 1 A).symm);(have y2:ai wr (g (m*3+2) ae)=J kv:=by rw[f.el<|m*3+2];exact(M 2 A).symm);(have Q:ai wr bt=J (au ak i):=by rw[hK.jP a9 lx];exact hx);subst aL;have ac:aq wr wr<|ax wr<|ao #[d.fr,d.jb,ah ka d.ps kc] 195:=kI;have hC:=WX bt i d (ah ka d.ps kc) ka d.ps kc rfl _<|vU wr (ao #[d.fr,d.jb,ah ka d.ps kc] 195) Q;have i0:=lZ wr [d.fr,d.jb,ah ka d.ps kc] 195;(have bd:(m:Y)<(n:Y):=A);(have bw:(0:Y)<=(m:Y):=A);have bv:=f.lt;have H:=f.below ac;have a0:=hK.jA<|jq.km ac;clear M Q hK f;go_wp2_with fail;clear y0 y1 y2 ac;(have bo:g≠wr:=A);generalize wr.heap.size=N at*;generalize(ax wr<|ao #[d.fr,d.jb,ah ka d.ps kc] 195)=w5 at*;apply aE hC;rintro e w6⟨rfl,S⟩;have r6:=i0.below S;have z0:ai w6 N=J (au ak d.fr):=r6.el 0;have z1:ai w6 (N 1 ae)=J (au ak d.jb):=r6.el 1;have z2:ai w6 (N 2 ae)=J (ah ka d.ps kc):=r6.el 2;have l:=H.below S;have ad:=a0.jA<|jq.km S;clear r6 i0 hC S H a0;cases O:(d.jb==i)with|true=>(have HY:nM i (ah ka d.ps kc,d)=aj:=by simp[nM,O]);have s:Hid<|BH i h (m+1) c':=p.out.skip q HY;(have F:Hid<|((h.take<|m+1).filter<|nM i)=mm:=by show _=_;rw[FU q,HY];simpa using t.out);clear p t HY O q;go_wp2_with fail;go_roundw;exact⟨m+1,mm,c',A,A,pR,rfl,F,s,l,ad⟩;simp[aF];omega|false=>(have HN:nM i (ah ka d.ps kc,d)=T:=by simp[nM,O]);have s:=p.out.jr q HN;rw[t.out]at s;have aV:Hid<|BH i h (m+1) _:=s;(have F:Hid<|((h.take<|m+1).filter<|nM i)=mm+1:=by show _=_;rw[FU q,HN];simp[t.out]);have f0:=l.kr;(have bq:mm*3+3<=cap*3:=A);have x0:=l.el<|mm*3;have x1:=l.el<|mm*3+1;have x2:=l.el<|mm*3+2;(have q1:(mm:Y)<(n:Y):=A);(have q0:(0:Y)<=(mm:Y):=A);have E:=l.aft (mm*3) d.fr d.jb<|ah ka d.ps kc;have aB:jq (λb=>b≠g) w _:=((ad.jl (a:=(g (mm*3) ae)) F0 d.fr).jl (a:=(g (mm*3+1) ae)) F0 d.jb).jl (a:=(g (mm*3+2) ae)) F0<|ah ka d.ps kc;have aw:Hid<|je _ g 195 (cap*3) _/\jq (λb=>b≠g) w _:=⟨E,aB⟩;clear p t HN O q s E aB l ad;go_wp2_with fail;go_roundw;exact⟨m+1,mm+1,_,A,A,pR,pR,F,aV,aw.out.1,aw.out.2⟩;simp[aF];omega);. (have aC:m=n:=A);(have a4:h.take m=h:=by rw[aC,<-R.out,fw]);(have hF:Hid<|(h.filter<|nM i)=mm:=pC);let⟨i0,hi,a8,bx,bp⟩:=bI Tryz.QN;let⟨a5,g1,g2,g3⟩:=id f;let⟨C,a2,aS,W⟩:=Oa (P:=ar) wr 126 195 i0 _ dU hi a8 (by intro a3 hu;simp[cY]at hu;rcases hu with rfl|rfl<;>rfl) g (mm*3) (n-mm) (cap-mm) a5 g1 A (by simp[cY];omega);let⟨c2,B,al⟩:=SL f (o:=mm*3) g1 aS W;have aI:jq (λb=>b≠g) w<|wr.setRow g C:=hK.jA ⟨F0,λb hb _=>dA wr g b _ hb⟩;(have D:aH (wr.setRow g C) 0 195 3 (ah g (h.filter<|nM i) cap) (h.filter<|nM i)<|(h.filter<|nM i).flatMap mE:=by refine Qr mE 3 NU A B pC aG λk' x' Q r hr=>?_;have h8:=p.out.fr k' x' pC r hr;(have bi:k'<mm:=by have:=(du.1 Q).1;have:=hF.out;omega);grind);have X:Hid<|_/\jq (λb=>b≠g) w (wr.setRow g C):=⟨D,aI⟩;clear D aI B al g1 g2 g3 aS W p t a4 aC f hK;(have q0:(0:Y)<=(mm:Y):=A);(have q1:(mm:Y)<=(n:Y):=A);(have q2:(mm:Y)<=(cap:Y):=A);(have q3:(n:Y)<=(cap:Y):=A);(have be:¬(m:Y)<(n:Y):=A);go_wp2_with(at_builtin;apply Qa rfl _ 126 rfl _ rfl _ _ a2);go_ret;exact⟨by rw[hF.out];rfl,X.out.1,X.out.2⟩
 . (have hF:Hid<|h.filter (nM i)=h:=by show _=_;rw[eM];intro x hx;let⟨j,hj⟩:=dH hx;exact aa j x hj);(have bc:Hid<|aH w1 0 195 3 (ah g h cap) h<|h.flatMap mE:=by have:=hO.out;rw[R.out];exact zp this λb hb=>G.block b (this.lt b hb).2);clear aa;go_wp2_with fail;go_ret;refine⟨by rw[hF.out,R.out];rfl,?_,jq.km G⟩;rw[hF.out];exact bc.out
def ahe(b:V)(w:u):aA ar 138 #[jw,bJ (bK 139) #[] #[ay b]] w λe a=>e=az jw/\a=w:=by
 have c:aA ar 116 #[jw,bJ (bK 139) #[] #[ay b]] w λe a=>e=az (au ak<|-1)/\a=w:=by go_enter iQ,iR;go_wp2;go_loopw[8](λj wr=>j=kQ/\w=wr)(λj _=>0);simp;obtain⟨rfl,rfl⟩:=hrel;go_wp2;go_ret;simp
 go_enter iU,iV;go_wp2_with(go_at_call 116;apply c.to);go_ret;simp
def akd(b:V)(w:u):aA ar 140 #[jw,bJ (bK 141) #[] #[ay b]] w λe a=>e=az jw/\a=w:=by
 have c:aA ar 170 #[jw,bJ (bK 141) #[] #[ay b]] w λe a=>e=az (au ak<|-1)/\a=w:=by go_enter iW,iX;go_wp2;go_loopw[8](λj wr=>j=kQ/\w=wr)(λj _=>0);simp;obtain⟨rfl,rfl⟩:=hrel;go_wp2;go_ret;simp
 go_enter iY,iZ;go_wp2_with(go_at_call 170;apply c.to);go_ret;simp
def j6.Qy{z:V}{O:V->V}{w:u}{e:V}{c:jH}{vB vL:y}{K R:V}{f:V->y}{E:jL}(h:j6 z O w e c vB vL K R f E){p:V}(o:p<=c.D.nb)(jX:c.D.nb<=3){s:V}(hs:s<10){v:y}{O':V->V}{g:n6 V}(d:∀b,g=J b->O b=z+p*10+s)(hk:jq (λb=>J b≠g) w j)(r:∀b,b<w.heap.size->O' b=O b){P:Part}(x:nP z O' (j (K (p*10+s) ae) v) e p s v P)(t:∀l,l<10->l≠s->Lt l (E p) P):j6 z O' (j (K (p*10+s) ae) v) e c vB vL K R (λn=>if n=p*10+s then v else f n) {E with jo:=jd E.jo p P}/\Ag z O w (j (K (p*10+s) ae) v)/\j.cell? (K (p*10+s) ae)=J (f<|p*10+s)/\bU j (K (p*10+s) ae)=aj:=by have a:=h.jT.jg<|hk.jg K (λm=>by have:=d K m.symm;have:=h.oK;omega) h.jT.lt;have key:=h.put o jX hs (by simp[dV];exact hk.jB) r (λb i q k=>by rw[bE _ _ _ _<|by exact k,hk.jg b (λm=>q<|d b m.symm) i]) (a.jl (p*10+s) v) x t;exact⟨key.1,key.2,a.el _,a.kr _⟩
def mK.Gf{z:V}{O:V->V}{w:u}{c:V}{v:y}{l:L jy}(h:mK z O w c v l){K:V}(g:O K=z+40)(f:c≠z+40)(j:V)(a:y):mK z O (w (K j ae) a) c v l:=h.mn (Ag.PE ⟨A,A⟩ _ _) (λ_ _=>rfl) λb _ e=>bE _ _ _ _ λd=>pC
def PX(a:L<|G×H)(f:H->I):(a.filter λx=>f x.2).map dG=(a.map dG).filter f:=by induction a with|nil=>rfl|cons x a b=>grind
def afK(o i:V){z:V}{O:V->V}{w:u}{c:V}{v:y}{l:L jy}(h:mK z O w c v l)(S:z<=c/\c<z+50)(H:l.length<=1000)(W:u)(s:aq w w W)(Q:w<=o)(P:ai W o=J (au ak i)):aA ar 138 #[v,bJ (bK 139) #[] #[ay o]] W λe m=>∃a cap,e=az (ah a (l.filter λx=>!(x.jb==i)) cap)/\mK z O m c (ah a (l.filter λx=>!(x.jb==i)) cap) (l.filter λx=>!(x.jb==i))/\jq (λb=>J b≠v.ownBlock) w m:=by
 let⟨d,N,r,E,G⟩:=h;have j:l=d.length:=pC
 have q:(d.filter<|nY i).map dG=l.filter (λx=>!(x.jb==i)):=by rw[<-N];exact PX d λx:jy=>!(x.jb==i)
 obtain⟨rfl,K⟩|⟨g,cap,R,rfl,_,M,t⟩:=r.2;.have B:=dQ K;subst B;apply aE (ahe o W);rintro e m⟨rfl,rfl⟩;exact⟨ae,0,rfl,mK.pU _ _ _ _,jq.km s⟩
 .have F:=(bY.1 M).1;(have p:aH W 0 173 7 (ah g d cap) d<|d.flatMap lV:=by rw[<-j];exact zp r λb f=>s.block b (r.lt b f).2);rw[j];apply aE (adO o i g cap d (λx k=>(E x k).1.1) A W p P A);rintro e m⟨rfl,r1,r2⟩;(have n:jq (λb=>J b≠(ah g d cap).ownBlock) w m:=by have:jq (λb=>J b≠(ah g d cap).ownBlock) W m:=r2.jh λb f D=>f (by rw[D];rfl);exact(jq.km s).jA this);have C:Ag z O w m:=n.jh λb f D=>f (by have:=G b (by rw[D];rfl);exact⟨A,A⟩);refine⟨g,cap,by rw[(by grind:(d.filter<|nY i)=(l.filter λx=>!(x.jb==i)).length)],⟨d.filter<|nY i,q,?_,λx k=>(E x (cA.1 k).1).mn C λ_ _=>rfl,G⟩,n⟩;grind
def aaH(o i:V){z:V}{O:V->V}{w:u}{c:V}{v:y}{l:L kU}(h:pj z O w c v l)(S:z<=c/\c<z+50)(H:l.length<=1000)(W:u)(s:aq w w W)(Q:w<=o)(P:ai W o=J (au ak i)):aA ar 140 #[v,bJ (bK 141) #[] #[ay o]] W λe m=>∃a cap,e=az (ah a (l.filter λx=>!(x.jb==i)) cap)/\pj z O m c (ah a (l.filter λx=>!(x.jb==i)) cap) (l.filter λx=>!(x.jb==i))/\jq (λb=>J b≠v.ownBlock) w m:=by
 let⟨d,N,r,E,G⟩:=h;have j:l=d.length:=pC
 have q:(d.filter<|nM i).map dG=l.filter (λx=>!(x.jb==i)):=by rw[<-N];exact PX d λx:kU=>!(x.jb==i)
 obtain⟨rfl,K⟩|⟨g,cap,R,rfl,_,M,t⟩:=r.2;.have B:=dQ K;subst B;apply aE (akd o W);rintro e m⟨rfl,rfl⟩;exact⟨ae,0,rfl,pj.pU _ _ _ _,jq.km s⟩
 .have F:=(bY.1 M).1;(have p:aH W 0 195 3 (ah g d cap) d<|d.flatMap mE:=by rw[<-j];exact zp r λb f=>s.block b (r.lt b f).2);rw[j];apply aE (aiY o i g cap d (λx k=>(E x k).1) A W p P A);rintro e m⟨rfl,r1,r2⟩;(have n:jq (λb=>J b≠(ah g d cap).ownBlock) w m:=by have:jq (λb=>J b≠(ah g d cap).ownBlock) W m:=r2.jh λb f D=>f (by rw[D];rfl);exact(jq.km s).jA this);have C:Ag z O w m:=n.jh λb f D=>f (by have:=G b (by rw[D];rfl);exact⟨A,A⟩);refine⟨g,cap,by rw[(by grind:(d.filter<|nM i)=(l.filter λx=>!(x.jb==i)).length)],⟨d.filter<|nM i,q,?_,λx k=>(E x (cA.1 k).1).mn C λ_ _=>rfl,G⟩,n⟩;grind
def YG(z:V)(O:V->V)(w:u)(e:V)(c:jH)(vB vL:y)(K R:V)(f:V->y)(E:jL)(h:j6 z O w e c vB vL K R f E)(H:mu c)(p i:V)(l:p<=c.D.nb)(v:(E p).jf.length<=1000):aA ar 111 #[ay<|K (p*10+1) ae,i] w λr C=>r=az (bj #[])/\mA z O w e c vB vL K R {E with jo:=jd E.jo p {E p with jf:=(E p).jf.filter λx=>!(x.jb==i)}} C:=by have jX:=H.G.nb;let⟨B,F,c4,n⟩:=h.c4 l;have k4:=vU w (ao #[i] 3) c4;have o:=h.jT.lt;go_enter Tryz.func111,Tryz.ntmps111;go_wp2_with fail;apply aE (afK w i n ⟨A,A⟩ v _ (kI:aq w w<|ax w<|ao #[i] 3) jK F0);rintro r S⟨N,m,rfl,k,g⟩;obtain⟨q,a,kc,M⟩:=h.Qy l jX A (by let⟨W,_,_,_,s⟩:=n;exact s:Hid<|∀b,(ah B (E p).jf.length F).ownBlock=J b->O b=z+p*10+4).out g (λ_ _=>rfl) (P:={E p with jf:=(E p).jf.filter λx=>!(x.jb==i)}) (by unfold nP;simp[DE,DP,eJ];exact k.Gf h.oK A _ _) λQ t j=>⟨λ_=>⟨rfl,rfl,rfl⟩,λ_=>rfl,λh=>zW h j,λ_=>rfl,λ_ _=>rfl⟩;rw[show p*10+4=p*10+1+3 from rfl]at q a kc M;have d:Hid<|mA z O w e c vB vL K R _ _:=⟨_,_,q,a,λ_ _=>rfl⟩;go_wp2_with fail;go_end0;exact⟨rfl,d.out⟩
def akH(z:V)(O:V->V)(w:u)(e:V)(c:jH)(vB vL:y)(K R:V)(f:V->y)(E:jL)(h:j6 z O w e c vB vL K R f E)(H:mu c)(p i:V)(l:p<=c.D.nb)(v:(E p).ko.length<=1000):aA ar 112 #[ay<|K (p*10+5) ae,i] w λr C=>r=az (bj #[])/\mA z O w e c vB vL K R {E with jo:=jd E.jo p {E p with ko:=(E p).ko.filter λx=>!(x.jb==i)}} C:=by have jX:=H.G.nb;let⟨B,F,c4,n⟩:=h.c9 l;have k4:=vU w (ao #[i] 3) c4;have o:=h.jT.lt;go_enter Tryz.func112,Tryz.ntmps112;go_wp2_with fail;apply aE (aaH w i n ⟨A,A⟩ v _ (kI:aq w w<|ax w<|ao #[i] 3) jK F0);rintro r S⟨N,m,rfl,k,g⟩;obtain⟨q,a,kc,M⟩:=h.Qy l jX A (by let⟨W,_,_,_,s⟩:=n;exact s:Hid<|∀b,(ah B (E p).ko.length F).ownBlock=J b->O b=z+p*10+9).out g (λ_ _=>rfl) (P:={E p with ko:=(E p).ko.filter λx=>!(x.jb==i)}) (by unfold nP;simp[DE,DP,eJ];exact k.Gf h.oK A _ _) λQ t j=>⟨λ_=>⟨rfl,rfl,rfl⟩,λ_=>rfl,λ_=>rfl,λh=>zW h j,λ_ _=>rfl⟩;rw[show p*10+9=p*10+5+4 from rfl]at q a kc M;have d:Hid<|mA z O w e c vB vL K R _ _:=⟨_,_,q,a,λ_ _=>rfl⟩;go_wp2_with fail;go_end0;exact⟨rfl,d.out⟩
def adn(g cap n:V)(x0:y×kU)(i:L<|y×kU)(hk:I8 i)(W:n=i.length+1)(aw:n<=1000)(w:u)(r:aH w 0 195 3 (ah g n cap) n<|(x0::i).flatMap mE):aA ar 107 #[ah g n cap,au ak 0,au ak 1] w λe w'=>e=az (ah g (n-1) cap)/\w'.ownsRow 0 195 3 (ah g (n-1) cap) (n-1) (i.flatMap mE)/\jq (λb=>b≠g) w w':=by
 let⟨i0,hi,S,F,an⟩:=bI Tryz.QN;obtain⟨K,h,d,e1,O,al,ac,t,aa⟩:∃K h d,ah g n cap=ah (J ⟨K,0,ae⟩) n h/\w.heap[K]?=J (ao d 195 (0,0))/\n<=h/\h<=bu/\d=h*3/\d.toList.take (n*3)=(x0::i).flatMap mE:=by rcases r.2 with⟨e,_⟩|⟨K,h,d,e,_,h1,h2,h3,h4,h5⟩;(.cases e);.exact⟨K,h,d,e,h1,h2,h3,h4,h5⟩
 injection e1 with e1 _ e3;injection e1 with e1;injection e1 with e1;subst e1 e3;have m:=r.cells (g:=g) rfl;have o:∀j s,(i.flatMap mE)[j]?=J s->ai w (((g 3 ae):aZ).add j)=J s:=λj s N=>by have:=m (3+j) s (by rw[fF,iJ<|by simp[mE],show 3+j-(mE x0)=j by simp[mE]];exact N);rw[qn]at this⊢;simpa using this
 have q:∀s∈i.flatMap mE,s.oneCell'=T:=by intro s C;let⟨x,hx,C⟩:=fN.1 C;let⟨a,c',he⟩:=hk x hx;simp[mE]at C;rcases C with rfl|rfl|rfl;(.rfl);(.rfl);.rw[he];rfl
 have f:(i.flatMap mE)=(n-1)*3:=by rw[J0 mE 3 NU,W];simp
 have v:∀ty,(bN #[126,126] ty #[ah g 0 cap,ah (if cap=1 then g else J (g 3 ae)) (n-1)<|cap-1]).run ar w.drew=.ok (ah g (0+(n-1)) cap) (w.drew.setRow g (d.toList.take (0*i0.size)++i.flatMap mE++d.toList.drop (0*i0.size+(i.flatMap mE).length)).toArray):=λty=>by split;(.have ad:i.flatMap mE=[]:=dQ A;exact eu (P:=ar) w.drew 126 ty 195 i0 dU hi g 0 cap d O g (n-1) (cap-1) (i.flatMap mE) (by rw[F];exact f) (λj s N=>by rw[ad]at N;simp at N) q A<|by rw[f,t];omega);.exact eu (P:=ar) w.drew 126 ty 195 i0 dU hi g 0 cap d O (g 3 ae) (n-1) (cap-1) (i.flatMap mE) (by rw[F];exact f) o q A<|by rw[f,t];omega
 simp only[cZ,Nat.zero_mul,List.take_zero,iM]at v;have B:=dJ w.drew g d (i.flatMap mE++d.toList.drop (i.flatMap mE)).toArray 195 (0,0) O;generalize l:(i.flatMap mE++d.toList.drop (i.flatMap mE)).toArray=c at*;have Q:c=cap*3:=by rw[<-l,List.size_toArray,cG,List.length_drop,f,iP,t];omega
 have E:c.toList.take ((n-1)*3)=i.flatMap mE:=by rw[<-l,List.toList_toArray,<-f];exact List.take_left
 have G:jq (λb=>b≠g) w<|w.drew.setRow g c:=⟨by show w.drew<=(w.drew.setRow g c).heap.size;simp,λb R _=>dA w.drew g b _ R⟩;let⟨k,D,X,M⟩:=Oa (P:=ar) (w.drew.setRow g c) 126 195 i0 _ dU hi S (by intro s C;simp[cY]at C;rcases C with rfl|rfl<;>rfl) g ((n-1)*3) (n-(n-1)) (cap-(n-1)) c B A (by simp[cY];omega);have H:=dJ (w.drew.setRow g c) g c k 195 (0,0) B;have p:Hid<|aH ((w.drew.setRow g c).setRow g k) 0 195 3 (ah g (n-1) cap) (n-1) (i.flatMap mE)/\jq (λb=>b≠g) w ((w.drew.setRow g c).setRow g k):=⟨⟨f,aN ⟨g,cap,k,rfl,j9,H,A,ac,A,by rw[M,E]⟩⟩,G.jA ⟨F0,λb R _=>dA _ g b _ R⟩⟩;clear H M X G E Q B l f q o m aa t r O;generalize(w.drew.setRow g c).setRow g k=w3 at*;generalize w.drew.setRow g c=w2 at*;have q0:(1:Y)<=(n:Y):=A
 have q1:(n:Y)<=(cap:Y):=A
 have q2:(1:Y)<=(cap:Y):=A
 have q3:((n-1:V):Y)=(n:Y)-1:=A
 have am:Hid<|n=i.length+1:=W;clear W;go_enter Tryz.func107,Tryz.ntmps107;go_wp2_with fail;go_region_law(apply Iv rfl (.tmp 22) (.tmp 25) 126 rfl _ _ rfl rfl _ _ v);have av:(n:Y)-1<=(n:Y):=A
 go_wp2_with(at_builtin;apply Qa rfl _ 126 rfl _ rfl _ _ D);all_goals go_ret;first|exact⟨rfl,p.out.1,p.out.2⟩|((have z:cap=1:=by assumption);have hR:=p.out;rw[z]at hR;exact⟨rfl,hR.1,hR.2⟩)
def agx{z:V}{O:V->V}{w:u}{c:V}{a:n6 aZ}{n cap:V}{x:kU}{l:L kU}(h:pj z O w c (ah a n cap)<|x::l)(P:z<=c/\c<z+50)(G:l.length<=900)(W:u)(v:aq w w W):aA ar 107 #[ah a n cap,au ak 0,au ak 1] W λe i=>e=az (ah a l cap)/\pj z O i c (ah a l cap) l/\jq (λb=>J b≠(ah a n cap).ownBlock) w i:=by let⟨f,k,t,C,D⟩:=h;cases f with|nil=>simp at k|cons x0 f=>simp[dt,List.cons.injEq]at k;let⟨H,k⟩:=k;(have F:l=f.length:=pC);obtain⟨e,q⟩|⟨g,B,N,e,_,Q,p⟩:=t.2;(.simp at q);.injection e with e1 e2 e3;subst e1 e3;(have q:n=f.length+1:=pC);(have m:aH W 0 195 3 (ah g n cap) n<|(x0::f).flatMap mE:=by have:=zp t λb d=>v.block b (t.lt b d).2;grind);apply aE (adn g cap n x0 f (λx s=>(C x<|by simp[s]).1) q A W m);rintro r i⟨rfl,r1,r2⟩;(have j:jq (λb=>J b≠(ah g n cap).ownBlock) w i:=by have:jq (λb=>J b≠(ah g n cap).ownBlock) W i:=r2.jh λb d E=>d (by rw[E];rfl);exact(jq.km v).jA this);have o:Ag z O w i:=j.jh λb d E=>d (by have:=D b pC;exact⟨A,A⟩);rw[(by omega:n-1=l)]at r1⊢;exact⟨rfl,⟨f,k,r1,λM K=>(C M<|by simp[K]).mn o λ_ _=>rfl,D⟩,j⟩
def pj.Dw{z:V}{O:V->V}{w:u}{c:V}{a:n6 aZ}{n cap:V}{x:kU}{l:L kU}(h:pj z O w c (ah a n cap)<|x::l):∃g ka kc,a=J ⟨g,0,ae⟩/\g<w.heap.size/\O g=c/\ai w ⟨g,0,ae⟩=J (au ak x.fr)/\ai w ⟨g,1,ae⟩=J (au ak x.jb)/\ai w ⟨g,2,ae⟩=J (ah ka x.ps kc)/\qV z O w (ah ka x.ps kc) x.ps:=by let⟨o,k,q,v,B⟩:=h;cases o with|nil=>simp at k|cons x0 o=>simp[dt,List.cons.injEq]at k;let⟨f,k⟩:=k;let⟨r,pr⟩:=x0;simp at f;subst f;have d:=v (r,pr) F0;let⟨⟨ka,kc,b⟩,_⟩:=id d;simp at b;subst b;obtain⟨e,s⟩|⟨g,p,C,e,_,t,m⟩:=q.2;(.simp at s);.injection e with e1 e2 e3;(have jZ:∀j i,(mE (ah ka pr.ps kc,pr))[j]?=J i->ai w (g j ae)=J i:=λj i D=>by have:=(q.cells<|by rw[e1];rfl) j i pC;rw[qn,cZ]at this;exact this);exact⟨g,ka,kc,e1,(bY.1 t).1,B g<|by rw[e1];rfl,jZ 0 _ rfl,jZ 1 _ rfl,jZ 2 _ rfl,d⟩
def agM(z:V)(O:V->V)(w:u)(e:V)(c:jH)(vB vL:y)(K R:V)(f:V->y)(E:jL)(h:j6 z O w e c vB vL K R f E)(H:mu c)(p q:V)(N:p<=c.D.nb)(hq:q<4)(hl:((E p).jS q).length<=8)(ht:(E p).ko.length<=900):aA ar 66 #[ay<|K (p*10+5) ae,q] w λr w'=>r=az (qi q<|E p).isSome/\mA z O w e c vB vL K R ((qp E p<|qi q<|E p).getD E) w':=by
 have jX:=H.G.nb;have aV:(q:Y)<4:=A
 have a0:(0:Y)<=(q:Y):=A
 let⟨ma,k,c5,S⟩:=h.c5 N hq;cases o:(E p).jS q with|nil=>(have hA:Hid<|qi q (E p)=ae:=by show _=_;simp[qi,o]);rw[o]at c5;simp only[eH]at c5;clear o S;go_enter ja,aoy;go_wp2_with fail;go_ret;exact⟨by rw[hA.out];rfl,by rw[hA.out];exact h.tq jQ⟩|cons x l=>(have hA:Hid<|qi q (E p)=J {E p with ko:=(E p).ko++[x],jS:=jd (E p).jS q l}:=by show _=_;simp[qi,o]);rw[o]at c5 S hl;obtain⟨g,ka,kc,rfl,al,aC,x0,x1,x2,B⟩:=S.Dw;let⟨ta,tc,c9,hT⟩:=h.c9 N;simp only[eG]at c5 S hl;(have aS:((l:Y)+1==0)=aj:=pC);(have aw:(0:Y)<(l:Y)+1:=A);(have aa:f (p*10+(5+q))=ah g (l.length+1) k:=by have:=h.jP N (5+q) A;grind);go_enter ja,aoy;go_wp2_with fail;go_cut[]from 6(λwc=>∃X f',j6 z X wc e c vB vL K R f' {E with jo:=jd E.jo p {E p with ko:=(E p).ko++[x]}}/\Ag z O w wc/\(∀b,b<w.heap.size->X b=O b)/\f' (p*10+(5+q))=ah g (l.length+1) k);(case first=>obtain⟨v',w2,ad,Q,am,va,vc,rfl⟩:=hT.tn (kI.drew) A w x (ah ka x.ps kc) (Hv w _ 195) B A A;rw[To]at Q;let⟨h3,d,k4,kf⟩:=h.Q4 N jX (s:=9) A (O':=jd O (w.heap.size+1)<|z+p*10+9) (v:=ah va ((E p).ko.length+1) vc) (P:={E p with ko:=(E p).ko++[x]}) hT (kI.drew) am (λb hb=>j8 _ _ A) (λa1=>by unfold nP;simp only[DE,DP,eJ];exact Q.Gf (by rw[j8 _ _<|by have:=h.jT.lt;omega];exact h.oK) A _ _) λs' aL ac=>⟨λ_=>⟨rfl,rfl,rfl⟩,λ_=>rfl,λ_=>rfl,λh=>zW h ac,λt h2=>rfl⟩;rw[show p*10+9=p*10+5+4 from rfl]at h3 d k4 kf;have av:Hid<|∃X f',j6 z X (w2 (K (p*10+5+4) ae)<|ah va ((E p).ko.length+1) vc) e c vB vL K R f' {E with jo:=jd E.jo p {E p with ko:=(E p).ko++[x]}}/\Ag z O w (w2 (K (p*10+5+4) ae)<|ah va ((E p).ko.length+1) vc)/\(∀b,b<w.heap.size->X b=O b)/\f' (p*10+(5+q))=ah g (l.length+1) k:=⟨_,_,h3,d,λb hb=>j8 _ _ A,pC⟩;have d9:=vU w (ao #[x.fr,x.jb,ah ka x.ps kc] 195) c9;clear h3 d hT Q am h S B aa;go_region_law(apply Iv rfl (.tmp 19) (.tmp 23) 126 rfl _ _ rfl rfl _ _ ad);all_goals go_wp2_with fail;go_meet;exact av.out);case rest=>clear c5 c9 x0 x1 x2 B hT S aa aC al;let⟨O1,f1,t,n,an,F⟩:=hcut;(have C:pj z O1 wc (z+p*10+(5+q)) (ah g (l.length+1) k)<|x::l:=by have:=t.jo p (5+q) N A;unfold nP at this;rw[jz,jz,jz,jz,jz,jz,eK,F]at this;simp only[ki,o]at this;exact this);(have c5:ai wc (K (p*10+5+q) ae)=J (ah g (l.length+1) k):=by rw[cr,t.jP N (5+q) A,F]);have hC:=agx C ⟨A,A⟩ A wc.drew lD;(have i:Hid<|∀b,(ah g (l.length+1) k).ownBlock=J b->O1 b=z+p*10+(5+q):=by let⟨_,_,_,_,o4⟩:=C;exact o4);have aI:Hid<|j6 _ _ _ _ _ _ _ _ _ _ _:=t;have W:Hid<|Ag z O w wc/\∀b,b<w.heap.size->O1 b=O b:=⟨n,an⟩;have aB:=t.oK;have aG:=t.fz<|p*10+5+q;(have j:J K≠(ah g (l.length+1) k).ownBlock:=λe'=>by have:=i.out K e'.symm;omega);have aW:Hid<|_=_:=o;clear t n an C o F h;go_wp2_with fail;go_region_with(go_at_call 107;apply aE hC;rintro r w5⟨rfl,aR,M⟩;have m3:=bD (fp (w:=wc) (a:=(K (p*10+5+q) ae))<|M.jg K j<|bh wc _ c5) c5;have mf:bU w5 (K (p*10+5+q) ae)=aj:=bD (fA (w:=wc) (a:=(K (p*10+5+q) ae))<|M.jg K j<|bh wc _ c5) aG);all_goals go_wp2_with fail;go_ret;refine⟨by rw[hA.out];rfl,?_⟩;rw[hA.out];let⟨h5,m,_,_⟩:=aI.out.Qy N jX (s:=5+q) A (v:=ah g l k) (O':=O1) i.out M (λ_ _=>rfl) (P:={E p with ko:=(E p).ko++[x],jS:=jd (E p).jS q l}) (by unfold nP;rw[jz,jz,jz,jz,jz,jz,eK];simp only[ki];exact aR.Gf aB A _ _) λs' aL ac=>⟨λ_=>by simp[ki],λ_=>by simp only[ki],λ_=>by simp only[ki],λ_=>by simp only[ki],λt h2=>by simp only[ki];rw[j8 _ _ A]⟩;simp only[DR]at h5;rw[<-cr]at m h5;exact mA.mq W.out.1 W.out.2 ⟨_,_,h5,m,λ_ _=>rfl⟩
end
end Go.Proofs.YtldeiiffabfmeaaGreatDoor
