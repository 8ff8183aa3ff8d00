/- - -/
import Derived.RunT
import Derived.Laws.Sem
import Derived.Conc.Own
import Derived.Conc.Beside
import Derived.Conc.Listed
import Derived.Conc.CrowdTrace
import Derived.Conc.WgGenN3
import Derived.Conc.CrowdStepW
import Derived.Test.YtldeiiffabfmeaaGreatDoorAam
set_option linter.all false
set_option maxRecDepth 100000
set_option maxHeartbeats 4000000
open Option renaming some->K,none->B,map_eq_some_iff->dF,map_some->fH,bind_some->aoL
open Go renaming Value->O,World->Q,Frame->M,TypeId->z,Program->T,Addr->ah,Goroutine->aj,stepG->ak,Event->ao,MapEntry->aF,deafBehind->aQ,Trace->bj,FuncId->bn,Question->bu,behindNumber->bI,BinOp->bU,Operand->bV,execOp->cF,Item->cG,IntKind->cO,results->cV,Mark->dw,callFunc->dH,Oper->eu,exitTo->ez,yielded->eF,undef->eX,MemOp->fq,BoundsCode->fF,Deferred->fU,CallKind->fV,TypeDesc->gz,Machine->il,PanicEntry->im,FrameMode->ir,step_lone_go->iu,HappensBefore->iD,step_leave_panicked->aoP
open Or renaming inr->W,inl->N
open Bool renaming false->p,true->ae,false_eq_true->aT,not_true->fg,eq_iff_iff->aoE
open Go.Sem renaming runT->ai,pure->bH,bind->bQ,run->dE,store->dX,choose->fA,program->fB,halt->fE,runT_fst->fM,shape->gd,frozen->gj,getObj->gw,setObj->gx,run_bind'->gy
open Go.ConcN renaming upd_same->aq,upd_ne->az,cnt->aH,CTag->cx,WgLive->cJ,Mode->dk,bk_cell->dA,get_map_set->dM,OpenSt->dV,sumTo_upd->fQ,cell_of_block->fX,norel_of->iF,get_map_set_same->aoZ
open Go.Result renaming ok->ar,halt->de
open Eq renaming trans->au
open Go.Value renaming pointer->ax,slice->aA,int->aX,tuple->cd,map->cZ,nilIface->dt,agg->du,string->dB,nilFunc->eQ,iface->eV,bool->fx,cells->fY
open List renaming forall_mem_cons->ay,mem_cons_self->dQ,mem_singleton->dR,mem_cons_of_mem->ik,mem_toArray->iC,getElem?_map->iZ,mapM_cons->aoB,map_toArray->aoG,range->aoK,mem_cons->aoM,nil_append->aoO,headD_cons->aoR,tail_cons->aoS
open Go.Loc renaming obj->aD,cell->aN,mark->cf,low->dy
open Go.MemAct renaming ofEvent->aE,touch?->bG,low->iH
open Go.World renaming cell?->aJ,frozen?->cA,farLoad->iO,farStore->iP,noCell->aoN
open Go.stepG renaming exec->aK,oper->eK,apply->eM
open Array renaming setIfInBounds->aM,mem_of_getElem?->eG,getElem?_eq_some_iff->eP,getElem?_eq_getElem->fP,mapM_eq_mapM_toList->gF,getElem?_setIfInBounds_ne->iz,getElem?_map->iA,getD_eq_getD_getElem?->iK,mem_append->iN,range->iX,toList_map->iY,foldl_toList->aoz,toList_zipIdx->aoA,mem_iff_getElem->aoT,empty_append->aoU,getElem?_setIfInBounds_self_of_lt->aoV
open Go.Program renaming underlying->aO
open Go.Item renaming code->aP,inRegion->bY,inLoop->ey,inBlock->fc
open Go.MemOp renaming ofEvents->aU
open Go.Mode renaming plain->aY,atomic->bP
open Go.Op renaming equalIn->aZ,equal->cD,maxDepth->fK,intArith->gI,intDiv->gJ,intCmp->gM,unary->gQ,twoPlaces->gW,addrSub->ib,addrCmp->ic,addrMod->ig,eqGuardIn->aoJ
open Nat renaming le_refl->bh,le_trans->cT,lt_or_ge->fw,eq_zero_or_pos->fN,zero_mul->gT,strongRecOn->iy,lt_of_not_le->iE,lt_of_lt_of_le->iM,add_zero->iQ,le_of_not_lt->aoW
open Go.GoStatus renaming running->bC,blocked->iG
open Go.ConcR renaming g_of_ofEvents->bD,Payload->cH,WgAt->cN,ofEvent_loc_mark->dN,ofEvent_cell->dS
open Go.ConcN.CTag renaming blk->bE
open Go.Conc renaming Deaf_other->bJ,mem_ofEvents->bK,touch_of->cY,Deaf->dg,getElem?_append_cases->dK,touchAt_of->dL,awake_of->eO,runT_crowd_go->fl,woken_quitsD->fo,mem_seen->fp,noRace_append->ft,g?_old->fu,Deaf_own->fT,aside_setCell->iI,deafBehind_still->apa
open Go.Obj renaming cells->bN,isChan->dD,number->dW
open Prod.mk renaming injEq->bO
open Go.Stepped renaming next->bZ
open Go.Builtin renaming firstCells->cj,zeroCells->dO,lenOf->fI,len_->gR,cap_->gS,append_->gU,unsafeAdd_->gV,delete_->gZ,copy_->hJ,clear_->ia,mayShare->aoC,holdsCells->aoD
open Go.ConcN.RW renaming refl->cr
open Go.CallKind renaming normal->cU,early->ij
open Option.some renaming injEq->dz,inj->fS
open Go.Instr renaming sameNow->dG,sliceBound->dY,sliceBounds->dZ,findAsking->ej,findNow->ek,fill->eY,checkKey->eZ,findKey->fa,fieldAt->gA,indexAt->gB,sliceAt->gC,makeSlice->gD,build->gE,buildSlice->gG,extract->gH,lookup->gX,mapUpdate->gY,sureAddr->iR,loadAt->iT,storeAt->iU,alloc->iV,box->iW,makeMap->ja,makeFunc->aoy,sameBits->aoF,panic->aoH,panicnil->aoI
open Go.Frame renaming enter->dI,eval->dJ,finish->eH,oper?->eN,raise->iq
open Go.FrameMode renaming returning->dP,panicking->fi
open Go.Conc.Goes renaming cases->dU,rely->aoX,running->aoY
open LawfulMonad renaming bind_assoc->ee,pure_bind->eh
open Go.Question renaming forced->eJ,appendCap->fJ
open Go.Stepped.next renaming injEq->fj
open Go.Halt renaming unsupported->fy,stuck->fZ
open Go.GStep renaming after->fL
open Classical renaming byContradiction->iw,not_forall->aoQ
open Go.ConcN.Mode renaming last->iJ
variable{v x y b c e:O}{f h k l n:Nat}{o r H X:List M}
namespace Go.Rel
section
abbrev jG:=V->V->U
structure mB where
 tY:Z Obj
 os:Os
 kD:Z<|V×ByteArray
structure jO where
 fn:bn->U
 nX:U
 gs:V
 n9:U
 lS:mB
 vK:V->O
 mG:z
structure jG.lB(ok:jO)(ρ:jG):U where
 fn:∀{a b b'},ρ a b->ρ a b'->b=b'
 inj:∀{a a' b},ρ a b->ρ a' b->a=a'
 n9:∀{a b},ρ a b->(a<ok.gs\/b<ok.gs)->a=b
def jG.le(ρ c:jG):U:=∀a b,ρ a b->c a b
def jG.le.nH(ρ:jG):ρ.le ρ:=λ_ _ h=>h
def jG.le.jA{a b c:jG}(h:a.le b)(d:b.le c):a.le c:=λx y e=>d x y<|h x y e
def lT(ρ:jG)(a b:ah):U:=ρ a.block b.block/\a.off=b.off/\a.spot=b.spot
def lT.jh{ρ b:jG}(h:ρ.le b){a c:ah}(x:lT ρ a c):lT b a c:=⟨h _ _ x.1,x.2⟩
def lT.add{ρ:jG}{a b:ah}(x:lT ρ a b)(n:V):lT ρ (a.add n)<|b.add n:=by
 unfold Addr.add;split;.exact x
 .exact⟨x.1,by simp[x.2.1],rfl⟩
mutual def Flat:O->U|fx _|aX _ _|dB _|ax B|aA B _ _|cZ B|eQ|dt=>True|du ⟨x⟩|cd ⟨x⟩=>xG x|_=>False def xG:L O->U|[]=>True|v::vs=>Flat v/\xG vs end
def Pz:O->U|du _|cd _|fx _=>False|_=>True
def IS:O->U|aA (K _) _ _|ax (K _)=>True|_=>False
def Ai:ah:=⟨0,0,K 0⟩
mutual inductive jC(ok:jO)(ρ:jG):O->O->U|bool(b:I):jC ok ρ b b|int(k:cO)(n:Y):jC ok ρ (aX k n)<|aX k n|string(s:ByteArray):jC ok ρ (dB s)<|dB s|su:jC ok ρ (ax none)<|ax none|ptr{a a':ah}(h:lT ρ a a'):jC ok ρ (ax a)<|ax a'|qd(n c:V):jC ok ρ (aA none n c)<|aA none n c|slice{a a':ah}(h:lT ρ a a')(n c:V):jC ok ρ (aA a n c)<|aA a' n c|dead(a':ah):jC ok ρ (aA Ai 0 0)<|aA a' 0 0|sF:jC ok ρ (cZ none)<|cZ none|map{r r':V}(h:ρ r r'):jC ok ρ (cZ r)<|cZ r'|func{f:bn}(hf:ok.fn f){x x' y y':L O}(hx:kH ok ρ x x')(hy:kH ok ρ y y'):jC ok ρ (.func (.func f) ⟨x⟩ ⟨y⟩)<|.func (.func f) ⟨x'⟩ ⟨y'⟩|mj{v':O}(h:Pz v'):jC ok ρ eQ v'|nilIface:jC ok ρ dt dt|agg{x x':L O}(hx:kH ok ρ x x'):jC ok ρ (du ⟨x⟩)<|du ⟨x'⟩|tuple{x x':L O}(hx:kH ok ρ x x'):jC ok ρ (cd ⟨x⟩)<|cd ⟨x'⟩|uF(hh:ok.nX)(r':V):jC ok ρ (cZ<|some 0)<|cZ r'|iface(t:z){v:O}(h:Flat v)(hn:t≠ok.mG):jC ok ρ (eV t v)<|eV t v|tag(n:V){t:z}{v':O}(et:t=ok.mG)(e:ok.vK n=v')(h:IS v'):jC ok ρ (eV t n) v' inductive kH(ok:jO)(ρ:jG):L O->L O->U|nil:kH ok ρ [] []|cons{v v':O}{vs vs':L O}(h:jC ok ρ v v')(hs:kH ok ρ vs vs'):kH ok ρ (v::vs)<|v'::vs' end
variable{ok:jO}{ρ ρ':jG}
mutual theorem jC.jh(hl:ρ.le ρ'):∀{v v':O},jC ok ρ v v'->jC ok ρ' v v'|_,_,.bool b=>.bool b|_,_,.int k n=>.int k n|_,_,.string s=>.string s|_,_,.su=>.su|_,_,.ptr h=>.ptr (h.jh hl)|_,_,.qd n c=>.qd n c|_,_,.slice h n c=>.slice (h.jh hl) n c|_,_,.dead a=>.dead a|_,_,.sF=>.sF|_,_,.map h=>.map (hl _ _ h)|_,_,.func hf hx hy=>.func hf (kH.jh hl hx) (kH.jh hl hy)|_,_,.mj h=>.mj h|_,_,.nilIface=>.nilIface|_,_,.agg hx=>.agg (kH.jh hl hx)|_,_,.tuple hx=>.tuple (kH.jh hl hx)|_,_,.uF hh r=>.uF hh r|_,_,.iface t h hn=>.iface t h hn|_,_,.tag n et e h=>.tag n et e h theorem kH.jh(hl:ρ.le ρ'):∀{v v':L O},kH ok ρ v v'->kH ok ρ' v v'|_,_,.nil=>.nil|_,_,.cons h hs=>.cons (jC.jh hl h) (kH.jh hl hs)end
def kH.Mb{x a:L O}(h:kH ok ρ x a):x=a.length:=by induction x generalizing a with|nil=>cases h;rfl|cons v vs b=>cases h with|cons h hs=>simp[b hs]
def kH.get?{x a:L O}(h:kH ok ρ x a)(i:V):(x[i]?=B/\a[i]?=B)\/∃v b,x[i]?=K v/\a[i]?=K b/\jC ok ρ v b:=by induction x generalizing a i with|nil=>cases h;simp|cons v vs c=>cases h with|cons h hs=>grind
def kH.tn{x a y b:L O}(h:kH ok ρ x a)(g:kH ok ρ y b):kH ok ρ (x++y)<|a++b:=by induction x generalizing a with|nil=>cases h;exact g|cons v vs c=>cases h with|cons h hs=>exact .cons h<|c hs
def kH.uy{x a:L O}(h:kH ok ρ x a){v:O}(c:jC ok ρ v y)(i:V):kH ok ρ (x.set i v)<|a.set i y:=by induction x generalizing a i with|nil=>cases h;exact .nil|cons u d b=>cases h with|cons h hs=>cases i with|zero=>exact .cons c hs|succ i=>exact .cons h<|b hs i
def kH.take{x a:L O}(h:kH ok ρ x a)(n:V):kH ok ρ (x.take n)<|a.take n:=by induction n generalizing x a with|zero=>exact .nil|succ n b=>cases h with|nil=>exact .nil|cons h hs=>exact .cons h<|b hs
def kH.drop{x a:L O}(h:kH ok ρ x a)(n:V):kH ok ρ (x.drop n)<|a.drop n:=by induction n generalizing x a with|zero=>exact h|succ n b=>cases h with|nil=>exact .nil|cons h hs=>exact b hs
def kH.L5{x c:L O}(e:x=c.length)(h:∀(i:V)v d,x[i]?=K v->c[i]?=K d->jC ok ρ v d):kH ok ρ x c:=by induction x generalizing c with|nil=>(cases c with|nil=>exact .nil|cons _ _=>cases e)|cons v vs g=>cases c with|nil=>cases e|cons d f=>exact .cons (h 0 v d rfl rfl)<|g (by simpa using e) λi a b k j=>h (i+1) a b (by simpa using k) (by simpa using j)
def jW(ok:jO)(ρ:jG)(x a:Z O):U:=kH ok ρ x.toList a.toList
def jW.jh(b:ρ.le ρ'){x a:Z O}(h:jW ok ρ x a):jW ok ρ' x a:=kH.jh b h
def jW.jB{x a:Z O}(h:jW ok ρ x a):x=a.size:=by have:=kH.Mb h;simpa using this
def jW.get?{x a:Z O}(h:jW ok ρ x a)(i:V):(x[i]?=B/\a[i]?=B)\/∃v b,x[i]?=K v/\a[i]?=K b/\jC ok ρ v b:=by have:=kH.get? h i;simpa using this
def jW.tn{x b y a:Z O}(h:jW ok ρ x b)(g:jW ok ρ y a):jW ok ρ (x++y)<|b++a:=by have:=kH.tn h g;unfold jW;simpa using this
def jW.zN{x a:Z O}(h:jW ok ρ x a){v:O}(b:jC ok ρ v y):jW ok ρ (x.push v)<|a.push y:=by have:=kH.tn h<|.cons b .nil;unfold jW;simpa using this
def jW.uy{x a:Z O}(h:jW ok ρ x a){v:O}(b:jC ok ρ v y)(i:V):jW ok ρ (aM x i v)<|aM a i y:=by have:=kH.uy h b i;unfold jW;simpa using this
def jW.extract{x c:Z O}(h:jW ok ρ x c)(a b:V):jW ok ρ (x.extract a b)<|c.extract a b:=by have:=kH.take (kH.drop h a)<|b-a;unfold jW;simp_all
def jW.agg{x a:Z O}(h:jW ok ρ x a):jC ok ρ (du x)<|du a:=by cases x;cases a;exact .agg h
def jW.pU:jW ok ρ #[] #[]:=kH.nil
def jW.rz{v:O}(h:jC ok ρ v x):jW ok ρ #[v] #[x]:=kH.cons h .nil
def jC.sg:jC ok ρ eX eX:=.tuple .nil
def jW.getD{x a:Z O}(h:jW ok ρ x a)(i:V){d:O}(hd:jC ok ρ d y):jC ok ρ (x.getD i d)<|a.getD i y:=by
 rw[iK,iK];obtain⟨c,b⟩|⟨v,e,c,b,f⟩:=h.get? i;.grind
 grind
def jC.ou{v:O}(h:jC ok ρ v x):jW ok ρ v.cells x.cells:=by cases h with|agg b=>exact b|uF c r=>exact jW.rz<|.uF c r|iface t h d=>exact jW.rz<|.iface t h d|@tag n t x a e h=>(have f:x.cells=#[x]:=by unfold fY;cases x<;>first|rfl|exact zW h id);rw[f];exact jW.rz<|.tag n a e h|@mj x h=>(have e:x.cells=#[x]:=by unfold fY;cases x<;>first|rfl|exact zW h id);rw[e];exact jW.rz<|.mj h|_=>exact jW.rz (by first|exact .bool _|exact .int _ _|exact .string _|exact .su|(apply jC.ptr;assumption)|exact .qd _ _|(apply jC.slice;assumption)|exact .dead _|exact .sF|(apply jC.map;assumption)|(apply jC.func<;>assumption)|exact .nilIface|(apply jC.tuple;assumption))
mutual theorem Flat.kV:∀{v:O},Flat v->jC ok ρ v v|fx b,_=>.bool b|aX k n,_=>.int k n|dB s,_=>.string s|ax B,_=>.su|aA B n c,_=>.qd n c|cZ B,_=>.sF|eQ,_=>.mj n7|dt,_=>.nilIface|du ⟨x⟩,h=>.agg (xG.kV<|by simpa[Flat]using h)|cd ⟨x⟩,h=>.tuple (xG.kV<|by simpa[Flat]using h)|ax (K _),h=>by simp[Flat]at h|aA (K _) _ _,h=>by simp[Flat]at h|cZ (K _),h=>by simp[Flat]at h|.chan _,h=>by simp[Flat]at h|.func _ _ _,h=>by simp[Flat]at h|eV _ _,h=>by simp[Flat]at h|.float _ _,h=>by simp[Flat]at h|.complex _ _ _,h=>by simp[Flat]at h theorem xG.kV:∀{v:L O},xG v->kH ok ρ v v|[],_=>.nil|v::vs,h=>by simp only[xG]at h;exact .cons (Flat.kV h.1)<|xG.kV h.2 end
structure Eu(ok:jO)(ρ:jG)(e e':aF):U where
 lX:jC ok ρ e.key e'.key
 nk:jC ok ρ e.val e'.val
 ID:e.born=e'.born
inductive nN(ok:jO)(ρ:jG):L aF->L aF->U|nil:nN ok ρ [] []|cons{e e':aF}{es es':L aF}(h:Eu ok ρ e e')(hs:nN ok ρ es es'):nN ok ρ (e::es)<|e'::es'
def Eu.jh(a:ρ.le ρ'){e b:aF}(h:Eu ok ρ e b):Eu ok ρ' e b:=⟨h.lX.jh a,h.nk.jh a,h.ID⟩
def nN.jh(b:ρ.le ρ'){e a:L aF}(h:nN ok ρ e a):nN ok ρ' e a:=by induction h with|nil=>exact .nil|cons h _ c=>exact .cons (h.jh b) c
def nN.Mb{x a:L aF}(h:nN ok ρ x a):x=a.length:=by induction h with|nil=>rfl|cons _ _ b=>simp[b]
def nN.tn{x b y a:L aF}(h:nN ok ρ x b)(g:nN ok ρ y a):nN ok ρ (x++y)<|b++a:=by induction h with|nil=>exact g|cons h _ c=>exact .cons h c
def nN.ajI{x b:L aF}(h:nN ok ρ x b){f f':aF->aF}(c:∀e a,Eu ok ρ e a->Eu ok ρ (f e) (f' a))(i:V):nN ok ρ (x.modify i f)<|b.modify i f':=by induction h generalizing i with|nil=>simp;exact .nil|cons h hs d=>cases i with|zero=>simp;exact .cons (c _ _ h) hs|succ i=>simp;exact .cons h<|d i
def nN.amB{x a:L aF}(h:nN ok ρ x a)(i:V):nN ok ρ (x.eraseIdx i)<|a.eraseIdx i:=by induction h generalizing i with|nil=>simp;exact .nil|cons h hs b=>cases i with|zero=>simpa using hs|succ i=>simpa using nN.cons h (b i)
def nN.get?{x a:L aF}(h:nN ok ρ x a)(i:V):(x[i]?=B/\a[i]?=B)\/∃v b,x[i]?=K v/\a[i]?=K b/\Eu ok ρ v b:=by induction h generalizing i with|nil=>simp|cons h hs c=>grind
structure Cl(fr fr':V×V):U where
 Ot:∀i,fr'.1<=i->i<fr'.2->fr.1<=i/\i<fr.2
 pU:fr=(0,0)->fr'=(0,0)
inductive qN(ok:jO)(ρ:jG):Obj->Obj->U|cells{x x':Z O}(h:jW ok ρ x x')(t:z){fr fr':V×V}(hf:Cl fr fr'):qN ok ρ (bN x t fr)<|bN x' t fr'|map{x x':Z aF}(h:nN ok ρ x.toList x'.toList)(c:V):qN ok ρ (.map x c)<|.map x' c|number{a a':ah}(h:lT ρ a a')(l:I):qN ok ρ (dW a l)<|dW a' l
def qN.jh(a:ρ.le ρ'){o b:Obj}(h:qN ok ρ o b):qN ok ρ' o b:=by cases h with|cells h t d=>exact .cells (h.jh a) t d|map h c=>exact .map (h.jh a) c|number h l=>exact .number (h.jh a) l
def _root_.Go.Mark.bare:dw->U|.extern _|.noRoom=>True|_=>False
def _root_.Go.Halt.AZ:Halt->U|.panic _|fZ _=>True|fy (.initOrder _)=>False|fy _=>True|_=>False
def mU{a:Type}(P:T)(m:Sem a):U:=∀w,∃h b,m.run P w=de h b/\h.AZ
def jc{t w:Type}(ok:jO)(P:T)(R:jG->t->w->U):jG->Sem t->Sem w->U|ρ,bH a,m=>∃b,m=bH b/\R ρ a b|ρ,.load g a k,m=>mU P (.load g a k)\/∃f d,g=aY/\m=.load g f d/\lT ρ a f/\∀v j,jC ok ρ v j->jc ok P R ρ (k v) (d j)|ρ,dX g a v k,m=>mU P (dX g a v k)\/∃f j d,g=aY/\m=dX g f j d/\lT ρ a f/\jC ok ρ v j/\jc ok P R ρ k d|ρ,.new o k,m=>mU P (.new o k)\/∃u d,m=.new u d/\qN ok ρ o u/\∀(ρ':jG),ρ.le ρ'->ρ'.lB ok->∀r e,ρ' r e->jc ok P R ρ' (k r) (d e)|ρ,gd r k,m=>mU P (gd r k)\/∃e d,m=gd e d/\ρ r e/\∀s,jc ok P R ρ (k s) (d s)|_,.freeze a n k,_=>mU P (.freeze a n k)|ρ,gj a k,m=>mU P (gj a k)\/∃f d,m=gj f d/\∀b y,jc ok P R ρ (k b) (d y)|ρ,gw r k,m=>mU P (gw r k)\/(ok.nX/\r=0)\/∃e d,m=gw e d/\ρ r e/\(∀(x i:Z aF)c,nN ok ρ x.toList i.toList->jc ok P R ρ (k<|.map x c) (d<|.map i c))/\∀a f l,lT ρ a f->jc ok P R ρ (k<|dW a l) (d<|dW f l)|ρ,gx r o k,m=>mU P (gx r o k)\/(ok.nX/\r=0)\/∃e d x i c,m=gx e (.map i c) d/\o=.map x c/\ρ r e/\nN ok ρ x.toList i.toList/\jc ok P R ρ k d|ρ,fA q k,m=>mU P (fA q k)\/∃d,m=fA q d/\∀n,jc ok P R ρ (k n) (d n)|_,.sys c k,_=>mU P (.sys c k)|ρ,fB k,m=>mU P (fB k)\/∃d,m=fB d/\jc ok P R ρ (k P) (d P)|ρ,.mark mk k,m=>mU P (.mark mk k)\/∃d,m=.mark mk d/\mk.bare/\jc ok P R ρ k d|_,fE h,_=>h.AZ
def mU.jU{P:T}{a b:Type}{m:Sem a}(h:mU P m)(f:a->Sem b):mU P<|m.bind f:=by intro w;let⟨x,d,c,e⟩:=h w;have:=gy P m f w;simp_all
def jc.mL{P:T}{d e:Type}{R:jG->d->e->U}{m:Sem d}{i:Sem e}(h:mU P m):jc ok P R ρ m i:=by cases m with|pure a=>let⟨x,g,b,_⟩:=h default;cases b|halt x=>let⟨y,g,b,f⟩:=h default;cases b;exact f|freeze a n k=>exact h|sys c k=>exact h|_=>exact N h
section
variable{P:T}{α β α' β':Type}{R:jG->α->β->U}{R':jG->α'->β'->U}
def jc.jU{m:Sem α}{D:Sem β}(h:jc ok P R ρ m D){f:α->Sem α'}{f':β->Sem β'}(hi:ρ.lB ok)(e:∀(ρ':jG),ρ.le ρ'->ρ'.lB ok->∀a b,R ρ' a b->jc ok P R' ρ' (f a) (f' b)):jc ok P R' ρ (m>>=f)<|D>>=f':=by show jc ok P R' ρ (m.bind f) (D.bind f');induction m generalizing D ρ with|pure a=>obtain⟨b,rfl,hR⟩:=h;exact e ρ (jG.le.nH _) hi a b hR|load md a k d=>obtain h|⟨t,g,w,rfl,u,hk⟩:=h;(.exact jc.mL<|h.jU f);.exact W ⟨t,_,w,rfl,u,λv H S=>d v (hk v H S) hi e⟩|store md a v k d=>obtain h|⟨t,H,g,w,rfl,u,S,hk⟩:=h;(.exact jc.mL<|h.jU f);.exact W ⟨t,H,_,w,rfl,u,S,d hk hi e⟩|new o k d=>obtain h|⟨o',g,rfl,y,hk⟩:=h;(.exact jc.mL<|h.jU f);.exact W ⟨o',_,rfl,y,λG hl C r j i=>d r (hk G hl C r j i) C λE F=>e E<|hl.jA F⟩|shape r k d=>obtain h|⟨j,g,rfl,i,hk⟩:=h;(.exact jc.mL<|h.jU f);.exact W ⟨j,_,rfl,i,λs=>d s (hk s) hi e⟩|freeze a n k d=>exact jc.mL<|mU.jU h f|frozen a k d=>obtain h|⟨t,g,rfl,hk⟩:=h;(.exact jc.mL<|h.jU f);.exact W ⟨t,_,rfl,λs s'=>d s (hk s s') hi e⟩|getObj r k d=>obtain h|h|⟨j,g,rfl,i,hk,X⟩:=h;(.exact jc.mL<|h.jU f);(.exact W<|N h);.exact W<|W ⟨j,_,rfl,i,λx J c y=>d _ (hk x J c y) hi e,λa t l u=>d _ (X a t l u) hi e⟩|setObj r o k d=>obtain h|h|⟨j,g,x,J,c,rfl,y,i,he,hk⟩:=h;(.exact jc.mL<|h.jU f);(.exact W<|N h);.exact W<|W ⟨j,_,x,J,c,rfl,y,i,he,d hk hi e⟩|choose q k d=>obtain h|⟨g,rfl,hk⟩:=h;(.exact jc.mL<|h.jU f);.exact W ⟨_,rfl,λn=>d n (hk n) hi e⟩|sys c k d=>exact jc.mL<|mU.jU h f|program k d=>obtain h|⟨g,rfl,hk⟩:=h;(.exact jc.mL<|h.jU f);.exact W ⟨_,rfl,d P hk hi e⟩|mark mk k d=>obtain h|⟨g,rfl,w,hk⟩:=h;(.exact jc.mL<|h.jU f);.exact W ⟨_,rfl,w,d hk hi e⟩|halt _=>exact h
def jc.jJ{a:α}{b:β}(h:R ρ a b):jc ok P R ρ (pure a)<|pure b:=⟨b,rfl,h⟩
def jc.jN(h:Halt)(m:Sem β)(a:h.AZ:=by exact n7):jc ok P R ρ (fE h:Sem α) m:=a
end
end
section
variable{ok:jO}{ρ ρ':jG}{P:T}
structure lF(ok:jO)(ρ:jG)(w wa:Q):U where
 inj:ρ.lB ok
 gs:ok.gs<=w/\ok.gs<=wa
 rn:ok.nX->∃x t f,w.heap[0]?=some (bN x t f)
 nU:∀{b b'},ρ b b'->∃o o',w.heap[b]?=some o/\wa.heap[b']?=some o'/\qN ok ρ o o'
 kD:wa.os=ok.lS.os/\wa.output=ok.lS.kD
def nI(w:Q)(b:V):U:=∃x t hi,w.heap[b]?=K (bN x t (0,hi))/\x<=hi
def AE(ρ:jG)(w:Q)(e:ao):U:=match e.loc with|aN a=>e.sync=p/\∃b,ρ b a.block/\(e.write=ae->¬nI w b)|aD r=>e.sync=p/\∃b,ρ b r/\(e.write=ae->¬nI w b)|cf m=>m.bare|_=>False
structure uL(ok:jO)(ρ ρ':jG)(w w1 wa wa1:Q)(es:Z ao):U where
 le:ρ.le ρ'
 kV:lF ok ρ' w1 wa1
 qw:∀{b b'},ρ' b b'->ρ b b'\/(w<=b/\wa<=b')
 jB:w<=w1.heap.size
 BK:wa<=wa1.heap.size
 uC:∀b',wa.heap.size<=b'->b'<wa1.heap.size->∃b,ρ' b b'
 kD:∀b',b'<wa.heap.size->(∀b,¬ρ b b')->wa1.heap[b']?=wa.heap[b']?
 vp:∀b,nI w b->w1.heap[b]?=w.heap[b]?/\∀b',ρ b b'->wa1.heap[b']?=wa.heap[b']?
 JR:∀b,b<w.heap.size->nI w1 b->nI w b
 mW:w=wa.heap.size->(∀{b b'},ρ b b'->b=b')->(∀{b b'},ρ' b b'->b=b')/\w1=wa1.heap.size
 ev:∀e∈es,AE ρ' w1 e
 Gq:w.drawn<=w1.drawn
 qK:w1.tape=w.tape
 os:w1.os=w.os
 wJ:w1.output=w.output
 MW:wa1.drawn=wa.drawn+(w1.drawn-w.drawn)
 NI:wa1.tape=wa.tape
 Nl:wa1.os=wa.os
 Qz:wa1.output=wa.output
def uL.nH{w a:Q}(h:lF ok ρ w a):uL ok ρ ρ w w a a #[]:=⟨jG.le.nH _,h,N,bh _,bh _,λb c d=>A,λ_ _ _=>rfl,λ_ _=>⟨rfl,λ_ _=>rfl⟩,λ_ _ x=>x,λx y=>⟨y,x⟩,F0,bh _,rfl,rfl,rfl,A,rfl,rfl,rfl⟩
def lF.lt{w a:Q}(h:lF ok ρ w a){b:V}(c:ρ b f):b<w/\f<a:=by let⟨o,g,e,d,_⟩:=h.nU c;grind
def nI.jY{w w1:Q}{b:V}(h:nI w b)(e:w1.heap[b]?=w.heap[b]?):nI w1 b:=by unfold nI at*;rwa[e]
def AE.jh{w w1:Q}{e:ao}(h:AE ρ w e)(i:ρ.le ρ')(hs:∀b j,ρ b j->nI w1 b->nI w b):AE ρ' w1 e:=by let⟨g,wr,k⟩:=e;unfold AE at*;cases g with|cell a=>let⟨d,b,c,f⟩:=h;exact⟨d,b,i _ _ c,λx y=>f x<|hs _ _ c y⟩|obj r=>let⟨d,b,c,f⟩:=h;exact⟨d,b,i _ _ c,λx y=>f x<|hs _ _ c y⟩|mark m=>exact h|output=>exact h|goroutines=>exact h
def uL.jA{m i:jG}{w w1 r o c l:Q}{q k:Z ao}(C:lF ok ρ w o)(h:uL ok ρ m w w1 o c q)(g:uL ok m i w1 r c l k):uL ok ρ i w r o l<|q++k where
 le:=h.le.jA g.le;kV:=g.kV;qw:=λ{b a}x=>by have s1:=h.jB;have s2:=h.BK;rcases g.qw x with x|⟨u,v⟩;(.exact h.qw x);omega
 jB:=cT h.jB g.jB;BK:=cT h.BK g.BK;uC:=λa d f=>by by_cases n:a<c;(.let⟨b,x⟩:=h.uC a d n;exact⟨b,g.le _ _ x⟩);.exact g.uC a A f
 kD:=λa d f=>by rw[g.kD a (iM d h.BK) λb x=>?_,h.kD a d f];rcases h.qw x with y|⟨_,y⟩;(.exact f b y);.omega
 vp:=λb x=>by let⟨d,f⟩:=h.vp b x;let⟨s,t⟩:=g.vp b<|x.jY d;exact⟨au s d,λa y=>au (t a<|h.le _ _ y)<|f a y⟩
 JR:=λb n x=>h.JR b n<|g.JR b (iM n h.jB) x;mW:=λx y=>g.mW (h.mW x y).2 (h.mW x y).1;ev:=λe j=>by rcases iN.1 j with j|j;(.exact(h.ev e j).jh g.le λb a x y=>g.JR b (h.kV.lt x).1 y);.exact g.ev e j
 Gq:=cT h.Gq g.Gq;qK:=au g.qK h.qK;os:=au g.os h.os;wJ:=au g.wJ h.wJ;MW:=by have:=h.Gq;have:=g.Gq;rw[g.MW,h.MW];omega
 NI:=au g.NI h.NI;Nl:=au g.Nl h.Nl;Qz:=au g.Qz h.Qz
def lF.jP{w f:Q}(h:lF ok ρ w f){a a':ah}(d:lT ρ a a'){v:O}(b:aJ w a=K v):∃e,aJ f a'=K e/\jC ok ρ v e:=by let⟨o,m,i,k,j⟩:=h.nU d.1;unfold aJ at*;rw[i]at b;rw[k];cases j with|cells g t q=>simp only at b⊢;rw[<-d.2.2,<-d.2.1];split at b;(.cases b);.rename_i hs;rw[BW hs];obtain⟨e1,_⟩|⟨u,n,e1,e2,e3⟩:=g.get? a.off;(.grind);grind|map g c=>cases b|number h l=>cases b
def lF.noCell{w e:Q}(h:lF ok ρ w e){a j:ah}(i:lT ρ a j)(n:aJ w a=B)(b:I):∃x,w.farLoad P a b=.error x:=by let⟨o,k,g,q,f⟩:=h.nU i.1;unfold iO;rw[g];cases f with|cells d t m=>simp|map d c=>simp|number h l=>simp
def lF.ZZ{w e:Q}(h:lF ok ρ w e){a i:ah}(j:lT ρ a i)(v:O)(b:I):∃x,w.farStore P a v b=.error x:=by let⟨o,k,f,n,g⟩:=h.nU j.1;unfold iP;rw[f];cases g with|cells d t m=>simp|map d c=>simp|number h l=>simp
def lF.kr{w k:Q}(h:lF ok ρ w k){a m:ah}(n:lT ρ a m)(g:aJ w a=K v)(j:cA w a=p):cA k m=p:=by let⟨o,C,r,y,q⟩:=h.nU n.1;unfold aJ at g;unfold cA at*;rw[r]at j g;rw[y];cases q with|cells s t f=>rename_i x D fr e;let⟨lo,hi⟩:=fr;let⟨i,b⟩:=e;simp only at j⊢;rw[<-n.2.1];(cases d:(decide (i<=a.off)&&decide (a.off<b))with|false=>rfl|true=>simp[Bool.and_eq_true,DA]at d;have:=f.Ot a.off d.1 d.2;grind)|map s c=>rfl|number h l=>cases g
def As(w:Q)(a:ah)(v:O)(b:V):(w a v).heap[b]?=if b=a.block then(w.heap[b]?).map (λ|bN c d frozen=>bN (if a.spot.isSome then c else aM c a.off v) d frozen|o=>o)else w.heap[b]?:=by unfold World.setCell;grind
def Ut(w:Q)(a:ah)(v:O):(w a v)=w.heap.size:=F0
def Wp{w G:Q}(h:lF ok ρ w G){a m:ah}(j:lT ρ a m){v:O}(hv:jC ok ρ v y){u:O}(q:aJ w a=K u)(hf:cA w a=p):uL ok ρ ρ w (w a v) G (G m y) #[⟨aN m,ae,p⟩]:=by
 let⟨o,o',n,R,h3⟩:=h.nU j.1;have J:∃x E t fr i,o=bN x t fr/\o'=bN E t i/\jW ok ρ x E/\Cl fr i:=by unfold aJ at q;rw[n]at q;cases h3 with|cells H t C=>grind|map H c=>cases q|number h l=>cases q
 obtain⟨x,E,t,fr,i,rfl,rfl,H,C⟩:=J;have d:a.spot.isSome=p:=by unfold aJ at q;grind
 have X:a.off<x:=by unfold aJ at q;grind
 have uW:¬nI w a.block:=by rintro⟨s,S,hi,e,g⟩;rw[n]at e;cases e;unfold cA at hf;grind
 have D:∀b,nI w b->b≠a.block:=λb k e=>uW<|e▸k;refine⟨jG.le.nH _,⟨h.inj,by simpa[Ut]using h.gs,λhh=>?_,λ{b r}k=>?_,h.kD⟩,N,F0,F0,λr n R=>by rw[Ut]at R;omega,λr _ F=>?_,λb hs=>⟨?_,λr k=>?_⟩,λb k hs=>?_,λx s=>⟨s,by simp_all⟩,?_,bh _,rfl,rfl,rfl,F0,rfl,rfl,rfl⟩;.let⟨s,u,f,e⟩:=h.rn hh;rw[As,e];grind
 .by_cases e:b=a.block;(.subst e;have e':=h.inj.fn k j.1;subst e';refine⟨bN (aM x a.off v) t fr,bN (aM E m.off y) t i,?_,?_,?_⟩;(.rw[As,rW rfl,n];simp[d]);(.rw[As,rW rfl,R];simp[<-j.2.2,d]);.rw[<-j.2.1];exact .cells (H.uy hv _) t C);.let⟨aa,p',q1,q2,q3⟩:=h.nU k;exact⟨aa,p',by rwa[As,BW e],by rwa[As,BW (λx=>e<|h.inj.inj (x▸k) j.1:r≠m.block)],q3⟩
 .rw[As,BW<|show¬r=m.block fromλe=>F a.block (e▸j.1)]
 .rw[As,BW<|D b hs]
 .rw[As,BW<|show¬r=m.block fromλe=>D b hs (h.inj.inj (e▸k) j.1)]
 .by_cases e:b=a.block;(.subst e;exfalso;apply uW;let⟨s,S,hi,e,g⟩:=hs;rw[As,rW rfl,n]at e;simp[d]at e;let⟨e1,e2,e3⟩:=e;subst e1 e2 e3;exact⟨x,t,hi,n,by simpa using g⟩);.exact hs.jY<|by rw[As,BW e]
 .intro e he;(obtain rfl:e=⟨aN m,ae,p⟩:=by simpa using he);refine⟨rfl,a.block,j.1,λ_ hs=>uW ?_⟩;let⟨s,S,hi,e,g⟩:=hs;rw[As,rW rfl,n]at e;simp[d]at e;let⟨e1,e2,e3⟩:=e;subst e1 e2 e3;exact⟨x,t,hi,n,by simpa using g⟩
def QC{w l:Q}(h:lF ok ρ w l){r:V}(a:ρ r k){x o:Z aF}{c:V}(n:nN ok ρ x.toList o.toList)(v:∀x t f,w.heap[r]?≠K (bN x t f)):uL ok ρ ρ w {w with heap:=aM w.heap r<|.map x c} l {l with heap:=aM l.heap k<|.map o c} #[⟨aD k,ae,p⟩]:=by
 have g:=(h.lt a).1;have uW:¬nI w r:=by rintro⟨y,D,hi,e,m⟩;exact v _ _ _ e
 have j:¬nI {w with heap:=aM w.heap r<|.map x c} r:=by rintro⟨y,D,hi,e,m⟩;simp[g]at e
 refine⟨jG.le.nH _,⟨h.inj,by simpa using h.gs,λC=>?_,λ{b i}d=>?_,h.kD⟩,N,F0,F0,λi J F=>by simp at F;omega,λi _ E=>?_,λb hs=>⟨?_,λi d=>?_⟩,λb d hs=>?_,λx y=>⟨y,by simpa using x⟩,?_,bh _,rfl,rfl,rfl,F0,rfl,rfl,rfl⟩;.let⟨y,u,f,e⟩:=h.rn C;grind
 .by_cases e:b=r;(.subst e;have s:=h.inj.fn d a;subst s;exact⟨_,_,by simp[g],by simp[(h.lt a).2],.map n c⟩);.have s:i≠k:=λx=>e<|h.inj.inj (x▸d) a;let⟨q,H,q1,q2,G⟩:=h.nU d;grind
 .grind
 .grind
 .simp only[Array.getElem?_setIfInBounds];rw[BW<|show¬k=i fromλe=>uW (h.inj.inj (e▸d) a▸hs)]
 .by_cases e:b=r;(.grind);.exact hs.jY pC
 .intro e n;(obtain rfl:e=⟨aD k,ae,p⟩:=by simpa using n);exact⟨rfl,r,a,λ_ hs=>j hs⟩
def Wl{w i:Q}(h:lF ok ρ w i){o m:Obj}(C:qN ok ρ o m):∃ρ':jG,ρ.le ρ'/\ρ'.lB ok/\ρ' w i/\uL ok ρ ρ' w {w with heap:=w.heap.push o} i {i with heap:=i.heap.push m} #[]:=by
 have d:ρ.le λb c=>ρ b c\/(b=w/\c=i):=λ_ _ x=>N x;have j:jG.lB ok λb c=>ρ b c\/(b=w/\c=i):=by constructor;(.rintro a b c(x|⟨r,s⟩)(y|⟨G,t⟩);(.exact h.inj.fn x y);(.have:=(h.lt x).1;omega);(.have:=(h.lt y).1;omega);.omega);(.rintro a X b(x|⟨r,s⟩)(y|⟨G,t⟩);(.exact h.inj.inj x y);(.have:=(h.lt x).2;omega);(.have:=(h.lt y).2;omega);.omega);.rintro a b(x|⟨r,s⟩)D;(.exact h.inj.n9 x D);.have:=h.gs;omega
 have l:∀b,b<w.heap.size->(w.heap.push o)[b]?=w.heap[b]?:=λb g=>pC
 have k:∀b,b<i.heap.size->(i.heap.push m)[b]?=i.heap[b]?:=λb g=>pC
 have n:∀b,nI w b->b<w:=by rintro b⟨y,R,hi,e,d⟩;grind
 refine⟨_,d,j,W ⟨rfl,rfl⟩,d,⟨j,by have:=h.gs;simp;omega,λF=>?_,λ{b c}g=>?_,h.kD⟩,λx=>?_,F0,F0,λc J H=>?_,λc g _=>k c g,λb hs=>⟨l b<|n b hs,λc g=>k c (h.lt g).2⟩,λb g hs=>hs.jY (l b g).symm,λx y=>⟨λS=>?_,by simp[x]⟩,F0,bh _,rfl,rfl,rfl,F0,rfl,rfl,rfl⟩;.let⟨y,u,f,e⟩:=h.rn F;grind
 .obtain g|⟨rfl,rfl⟩:=g;(.let⟨q,v,q1,q2,E⟩:=h.nU g;exact⟨q,v,pC,pC,E.jh d⟩);.exact⟨o,m,F0,F0,C.jh d⟩
 .grind
 .grind
 grind
def PS{w a:Q}(h:lF ok ρ w a){e:ao}(d:AE ρ w e):uL ok ρ ρ w w a a #[e]:=⟨jG.le.nH _,h,N,bh _,bh _,λb f g=>A,λ_ _ _=>rfl,λ_ _=>⟨rfl,λ_ _=>rfl⟩,λ_ _ x=>x,λx y=>⟨y,x⟩,λi c=>(by simpa using c)▸d,bh _,rfl,rfl,rfl,A,rfl,rfl,rfl⟩
def agY{w b:Q}(h:lF ok ρ w b){a c:ah}(d:lT ρ a c){v:O}(e:aJ w a=K v):uL ok ρ ρ w w b b #[⟨aN c,p,p⟩]:=PS h ⟨rfl,a.block,d.1,λh=>by cases h⟩
def Rt{w a:Q}(h:lF ok ρ w a){r:V}(b:ρ r f):uL ok ρ ρ w w a a #[⟨aD f,p,p⟩]:=PS h ⟨rfl,r,b,λh=>by cases h⟩
def afh{w a:Q}(h:lF ok ρ w a){m:dw}(b:m.bare):uL ok ρ ρ w w a a #[⟨cf m,p,ae⟩]:=PS h b
def XG{w a:Q}(h:lF ok ρ w a):uL ok ρ ρ w {w with drawn:=w.drawn+1} a {a with drawn:=a.drawn+1} #[]:=⟨jG.le.nH _,⟨h.inj,h.gs,h.rn,h.nU,h.kD⟩,N,bh _,bh _,λb c d=>zW d<|Nat.not_lt.2 c,λ_ _ _=>rfl,λ_ _=>⟨rfl,λ_ _=>rfl⟩,λ_ _ x=>x,λx y=>⟨y,x⟩,F0,Nat.le_succ _,rfl,rfl,rfl,F0,rfl,rfl,rfl⟩
section
variable{α β:Type}{R:jG->α->β->U}
def FE(m:Sem α):∀{m':Sem β}{ρ:jG}{w J:Q}{es esa:Z ao}{a:α}{w1:Q}{E:Z ao},jc ok P R ρ m m'->lF ok ρ w J->m.runT P w es=(ar a w1,E)->(∀i,w.drawn+i<w1.drawn->w.tape (w.drawn+i)=J.tape (J.drawn+i))->∃ρ' b j s,m'.runT P J esa=(ar b j,esa++s)/\R ρ' a b/\uL ok ρ ρ' w w1 J j s:=by
 have ac:∀{m:Sem α}{w:Q}{es:Z ao}{a:α}{w1:Q}{E:Z ao},mU P m->m.runT P w es=(ar a w1,E)->False:=by intro m w es a w1 E hd g;let⟨x,w',hx,_⟩:=hd w;simp_all
 induction m with|pure a=>intro m' ρ w J es esa a1 w1 E h C g F;obtain⟨b,rfl,hR⟩:=h;simp only[ai,bO,Result.ok.injEq]at g;obtain⟨⟨rfl,rfl⟩,rfl⟩:=g;exact⟨ρ,b,J,#[],by simp[ai],hR,uL.nH C⟩|load md ad k G=>intro m' ρ w J es esa a1 w1 E h C g F;rcases h with h|⟨a',k',hm,rfl,ha,hk⟩;(.grind);subst hm;simp only[ai]at g;(cases hc:aJ w ad with|none=>let⟨x,hx⟩:=C.noCell (P:=P) ha hc<|aY==bP;grind|some v=>let⟨v',al,hv⟩:=C.jP ha hc;rw[hc]at g;let⟨ρ',b,j,s,X,H,S⟩:=G v (esa:=esa.push ⟨aN a',p,aY==bP⟩) (hk v v' hv) C g F;refine⟨ρ',b,j,#[⟨aN a',p,p⟩]++s,?_,H,(agY C ha hc).jA C S⟩;simp only[ai,al,X];simp;rfl)|store md ad v k G=>intro m' ρ w J es esa a1 w1 E h C g F;rcases h with h|⟨a',v',k',hm,rfl,ha,hv,hk⟩;(.grind);subst hm;(have key:∀{u:O},aJ w ad=K u->cA w ad=p->k.runT P (w ad v) (es.push ⟨aN ad,ae,aY==bP⟩)=(ar a1 w1,E)->(∀x,v'≠du x)->(∀x,v'≠cd x)->∃ρ' b j s,(dX aY a' v' k').runT P J esa=(ar b j,esa++s)/\R ρ' a1 b/\uL ok ρ ρ' w w1 J j s:=by intro u hc hf g n1 n2;obtain⟨u',al,-⟩:=C.jP ha hc;have D:=Wp C ha hv hc hf;let⟨ρ',b,j,s,X,H,S⟩:=G (esa:=esa.push ⟨aN a',ae,aY==bP⟩) hk D.kV g F;refine⟨ρ',b,j,#[⟨aN a',ae,p⟩]++s,?_,H,D.jA C S⟩;cases v' with|agg x=>grind|tuple x=>grind|_=>(simp only[ai,al,C.kr ha hc hf,X];simp;rfl));(cases hv with|agg hx=>simp only[ai]at g;cases g|tuple hx=>simp only[ai]at g;cases g|_=>simp only[ai]at g;cases hc:aJ w ad with|none=>obtain⟨x,hx⟩:=C.ZZ (P:=P) ha _<|aY==bP;rw[hc,hx]at g;cases g|some u=>rw[hc]at g;cases hf:cA w ad with|true=>grind|false=>simp only[hf]at g;exact key hc hf (by simpa using g) (λx e=>by first|(cases e;done)|(subst e;exact zW ‹Pz _› id)|(subst e;exact zW ‹IS _› id)) (λx e=>by first|(cases e;done)|(subst e;exact zW ‹Pz _› id)|(subst e;exact zW ‹IS _› id)))|new o k G=>intro m' ρ w J es esa a1 w1 E h C g F;rcases h with h|⟨o',k',rfl,ho,hk⟩;(.grind);let⟨aB,an,hi,am,D⟩:=Wl C ho;simp only[ai]at g;let⟨ρ',b,j,s,X,H,S⟩:=G w (esa:=esa) (hk aB an hi _ _ am) D.kV g F;refine⟨ρ',b,j,#[]++s,?_,H,D.jA C S⟩;simp only[ai,X];simp|shape r k G=>intro m' ρ w J es esa a1 w1 E h C g F;rcases h with h|⟨r',k',rfl,aa,hk⟩;(.grind);simp only[ai]at g;let⟨o,o',X,H,S⟩:=C.nU aa;(have e:J.shape? r'=w.shape? r:=by unfold World.shape?;rw[X,H];cases S with|cells hx t hf=>simp[hx.jB]|number h l=>rfl|map hx c=>rfl);let⟨ρ',b,j,s,g1,g2,g3⟩:=G _ (esa:=esa) (hk _) C g F;exact⟨ρ',b,j,s,by simp only[ai,e,g1],g2,g3⟩|freeze a n k G=>intro m' ρ w J es esa a1 w1 E h C g F;exact(ac h g).elim|frozen a k G=>intro m' ρ w J es esa a1 w1 E h C g F;rcases h with h|⟨a',k',rfl,hk⟩;(.grind);simp only[ai]at g;let⟨ρ',b,j,s,X,H,S⟩:=G _ (esa:=esa) (hk _<|cA J a') C g F;exact⟨ρ',b,j,s,by simp only[ai,X],H,S⟩|getObj r k G=>intro m' ρ w J es esa a1 w1 E h C g F;rcases h with h|⟨hh,rfl⟩|⟨r',k',rfl,aa,hk,av⟩;(.grind);(.let⟨y,u,f,e⟩:=C.rn hh;simp only[ai,e]at g;cases g);simp only[ai]at g;let⟨o,o',X,H,S⟩:=C.nU aa;rw[X]at g;(cases S with|cells hx t hf=>cases g|number ha l=>simp only[dD]at g;let⟨ρ',b,j,s,g1,g2,g3⟩:=G _ (esa:=esa.push ⟨aD r',p,p⟩) (av _ _ l ha) C g F;refine⟨ρ',b,j,#[⟨aD r',p,p⟩]++s,?_,g2,(Rt C aa).jA C g3⟩;simp only[ai,H,dD,g1];simp|map hx c=>simp only[dD]at g;let⟨ρ',b,j,s,g1,g2,g3⟩:=G _ (esa:=esa.push ⟨aD r',p,p⟩) (hk _ _ c hx) C g F;refine⟨ρ',b,j,#[⟨aD r',p,p⟩]++s,?_,g2,(Rt C aa).jA C g3⟩;simp only[ai,H,dD,g1];simp)|setObj r o k G=>intro m' ρ w J es esa a1 w1 E h C g F;rcases h with h|⟨hh,rfl⟩|⟨r',k',x,x',c,rfl,rfl,aa,he,hk⟩;(.grind);(.let⟨y,u,f,e⟩:=C.rn hh;simp only[ai,e]at g;cases g);simp only[ai]at g;let⟨o,o',X,H,S⟩:=C.nU aa;rw[X]at g;(cases S with|cells hx t hf=>cases g|number ha l=>simp only[dD]at g;have D:=QC (c:=c) C aa he (λx t f e=>pC);let⟨ρ',b,j,s,g1,g2,g3⟩:=G (esa:=esa.push ⟨aD r',ae,p⟩) hk D.kV g F;refine⟨ρ',b,j,#[⟨aD r',ae,p⟩]++s,?_,g2,D.jA C g3⟩;simp only[ai,H,dD,g1];simp|map hx d=>simp only[dD]at g;have D:=QC (c:=c) C aa he (λx t f e=>pC);let⟨ρ',b,j,s,g1,g2,g3⟩:=G (esa:=esa.push ⟨aD r',ae,p⟩) hk D.kV g F;refine⟨ρ',b,j,#[⟨aD r',ae,p⟩]++s,?_,g2,D.jA C g3⟩;simp only[ai,H,dD,g1];simp)|choose q k G=>intro m' ρ w J es esa a1 w1 E h C g F;rcases h with h|⟨k',rfl,hk⟩;(.grind);simp only[ai]at g;by_cases hq:q.forced=ae;(.rw[rW hq]at g;let⟨ρ',b,j,s,X,H,S⟩:=G _ (esa:=esa) (hk 0) C g F;exact⟨ρ',b,j,s,by simp only[ai,rW hq,X],H,S⟩);.rw[BW hq]at g;have D:=XG C;let⟨ρ',b,j,s,X,H,S⟩:=G _ (esa:=esa) (hk _) D.kV g (λi hi=>by have:=F (i+1) pC;grind);have aw:=S.Gq;simp only at aw;have h0:=F 0 A;simp only[iQ]at h0;refine⟨ρ',b,j,#[]++s,?_,H,D.jA C S⟩;simp only[ai,BW hq,<-h0,X];simp|sys c k G=>intro m' ρ w J es esa a1 w1 E h C g F;exact(ac h g).elim|program k G=>intro m' ρ w J es esa a1 w1 E h C g F;rcases h with h|⟨k',rfl,hk⟩;(.grind);simp only[ai]at g;let⟨ρ',b,j,s,X,H,S⟩:=G _ (esa:=esa) hk C g F;exact⟨ρ',b,j,s,by simp only[ai,X],H,S⟩|mark mk k G=>intro m' ρ w J es esa a1 w1 E h C g F;rcases h with h|⟨k',rfl,hm,hk⟩;(.grind);simp only[ai]at g;let⟨ρ',b,j,s,X,H,S⟩:=G (esa:=esa.push ⟨cf mk,p,ae⟩) hk C g F;refine⟨ρ',b,j,#[⟨cf mk,p,ae⟩]++s,?_,H,(afh C hm).jA C S⟩;simp only[ai,X];simp|halt h=>simp
end
end
section
variable{ok:jO}{ρ ρ':jG}{P:T}
abbrev VR(ok:jO):jG->O->O->U:=λρ=>jC ok ρ
abbrev AR:jG->ah->ah->U:=λρ=>lT ρ
abbrev SR(ok:jO):jG->Z O->Z O->U:=λρ=>jW ok ρ
abbrev ER{c:Type}:jG->c->c->U:=λ_ a b=>a=b
abbrev UR:jG->Unit->Unit->U:=λ_ _ _=>True
section
variable{α β α' β':Type}{R:jG->α->β->U}{R':jG->α'->β'->U}
def jc.imp{i:jG->α->β->U}{m:Sem α}{c:Sem β}(h:jc ok P R ρ m c)(hi:ρ.lB ok)(j:∀ρ' a b,R ρ' a b->i ρ' a b):jc ok P i ρ m c:=by
 have e:∀{g:Type}(m:Sem g),m.bind bH=m:=by intro g m;induction m with|pure a=>rfl|halt h=>rfl|_=>simp[bQ, *]
 have:=jc.jU h (f:=bH) hi λρ' _ _ a b d=>⟨b,rfl,j _ _ _ d⟩;rw[show(m>>=bH)=m.bind bH from rfl,show(c>>=bH)=c.bind bH from rfl,e,e]at this;exact this
def DI{f:T->Sem α}{a:T->Sem β}(h:jc ok P R ρ (f P)<|a P):jc ok P R ρ (program>>=f)<|program>>=a:=W ⟨_,rfl,h⟩
def pJ{t:z}{f:gz->Sem α}{a:gz->Sem β}(h:∀d,aO P t=K d->jc ok P R ρ (f d) (a d)):jc ok P R ρ (underlying t>>=f)<|underlying t>>=a:=by refine W ⟨_,rfl,?_⟩;simp[bQ];cases e:aO P t with|none=>exact jc.jN _ _|some d=>exact h d e
def Bf{t:z}{f:TypeInfo->Sem α}{a:TypeInfo->Sem β}(h:∀d,P.info? t=K d->jc ok P R ρ (f d) (a d)):jc ok P R ρ (typeInfo t>>=f)<|typeInfo t>>=a:=by refine W ⟨_,rfl,?_⟩;simp[bQ];cases e:P.info? t with|none=>exact jc.jN _ _|some d=>exact h d e
def vA{t:z}{f:V->Sem α}{a:V->Sem β}(h:∀d,P.info? t=K d->jc ok P R ρ (f d.size) (a d.size)):jc ok P R ρ (sizeOf t>>=f)<|sizeOf t>>=a:=by refine W ⟨_,rfl,?_⟩;simp[bQ];cases e:P.info? t with|none=>exact jc.jN _ _|some d=>exact h d e
def Ct{t:z}(b:∀d v,P.info? t=K d->d.zero=K v->Flat v){f:O->Sem α}{a:O->Sem β}(h:∀v,Flat v->jc ok P R ρ (f v) (a v)):jc ok P R ρ (zeroValue t>>=f)<|zeroValue t>>=a:=by refine W ⟨_,rfl,?_⟩;simp[bQ];cases e:P.info? t with|none=>exact jc.jN _ _|some d=>show jc ok P R ρ (bQ (match d.zero with|K v=>pure v|B=>unsupported (.resourceLimit "a value of more than 2^22 cells")) f) (bQ (match d.zero with|K v=>pure v|B=>unsupported (.resourceLimit "a value of more than 2^22 cells")) a);cases e2:d.zero with|none=>exact jc.jN _ _|some v=>exact h v<|b d v e e2
def SH{t:z}{f:I->Sem α}{a:I->Sem β}(h:∀b,jc ok P R ρ (f b)<|a b):jc ok P R ρ (isAgg t>>=f)<|isAgg t>>=a:=by refine W ⟨_,rfl,?_⟩;simp[bQ];cases e:aO P t with|none=>exact jc.jN _ _|some d=>cases d<;>exact h _
def LQ{q:bu}{f:V->Sem α}{a:V->Sem β}(h:∀n,jc ok P R ρ (f n)<|a n):jc ok P R ρ (choose q>>=f)<|choose q>>=a:=W ⟨_,rfl,h⟩
def adV{mk:dw}(b:mk.bare){f:Unit->Sem α}{a:Unit->Sem β}(h:jc ok P R ρ (f ())<|a ()):jc ok P R ρ (mark mk>>=f)<|mark mk>>=a:=W ⟨_,rfl,b,h⟩
def MQ{n:V}{f:Unit->Sem α}{a:Unit->Sem β}(h:jc ok P R ρ (f ())<|a ()):jc ok P R ρ (askRoom n>>=f)<|askRoom n>>=a:=by
 unfold askRoom;split;.exact adV (mk:=.noRoom) n7 h
 .exact h
def ajv{a b:ah}(e:lT ρ a b){f:O->Sem α}{d:O->Sem β}(h:∀v c,jC ok ρ v c->jc ok P R ρ (f v) (d c)):jc ok P R ρ (load a>>=f)<|load b>>=d:=W ⟨b,_,rfl,rfl,e,h⟩
def Ye{a b:ah}(e:lT ρ a b){v:O}(d:jC ok ρ v x){f:Unit->Sem α}{c:Unit->Sem β}(h:jc ok P R ρ (f ())<|c ()):jc ok P R ρ (store a v>>=f)<|store b x>>=c:=W ⟨b,x,_,rfl,rfl,e,d,h⟩
def Ft{r:V}(g:ρ r k){f:Obj->Sem α}{b:Obj->Sem β}(h:∀(x e:Z aF)c,nN ok ρ x.toList e.toList->jc ok P R ρ (f<|.map x c) (b<|.map e c))(i:∀a d l,lT ρ a d->jc ok P R ρ (f<|dW a l) (b<|dW d l)):jc ok P R ρ (getObj r>>=f)<|getObj k>>=b:=W<|W ⟨k,_,rfl,g,h,i⟩
def Hx(a:ok.nX){f:Obj->Sem α}{m:Sem β}:jc ok P R ρ (getObj 0>>=f) m:=W<|N ⟨a,rfl⟩
def I6{r:V}(b:ρ r k){f:n6 (z×V)->Sem α}{a:n6 (z×V)->Sem β}(h:∀s,jc ok P R ρ (f s)<|a s):jc ok P R ρ (shape r>>=f)<|shape k>>=a:=W ⟨k,_,rfl,b,h⟩
def Mx{o a:Obj}(d:qN ok ρ o a){f:V->Sem α}{b:V->Sem β}(h:∀(ρ':jG),ρ.le ρ'->ρ'.lB ok->∀r c,ρ' r c->jc ok P R ρ' (f r) (b c)):jc ok P R ρ (newObj o>>=f)<|newObj a>>=b:=W ⟨a,_,rfl,d,h⟩
end
def ur{α:Type}(h:Halt)(a:h.AZ:=by exact n7):mU P (fE h:Sem α):=λw=>⟨h,w,rfl,a⟩
def V7{α:Type}{q:bu}{f:V->Sem α}(h:∀n,mU P<|f n):mU P<|choose q>>=f:=by
 intro w;show∃h a,dE P (fA q _) w=_/\_;simp only[dE];split;.exact h _ _
 .exact h _ _
def ahb{α:Type}{f:T->Sem α}(h:mU P<|f P):mU P<|program>>=f:=h
def Tn{α:Type}(x y:Y)(s:I)(c:fF):mU P (runtimePanic<|.bounds x y s c:Sem α):=λw=>⟨_,w,rfl,n7⟩
def Cg{α:Type}(m:String):mU P (runtimePanic<|.error m:Sem α):=λw=>⟨_,w,rfl,n7⟩
def aga{α:Type}(m:String):mU P (runtimePanic<|.plain m:Sem α):=λw=>⟨_,w,rfl,n7⟩
def IE{α:Type}:mU P (runtimePanic .nilDeref:Sem α):=λw=>⟨_,w,rfl,n7⟩
def rQ{α β:Type}{m:Sem α}{f:α->Sem β}(h:mU P m):mU P<|m>>=f:=h.jU f
def Fx{α:Type}(k:cO)(x y:Y)(c:fF):mU P (boundsPanic k x y c:Sem α):=by
 unfold boundsPanic;split;.exact V7 λn=>Tn _ _ _ _
 .exact Tn _ _ _ _
def akQ{a c:ah}(d:lT ρ a c)(n:V):∀(i:V){acc b:Z O},jW ok ρ acc b->jc ok P (SR ok) ρ (loadCellsFrom a i n acc) (loadCellsFrom c i n b):=by induction n with|zero=>exactλi acc b h=>jc.jJ h|succ n e=>exactλi acc b h=>ajv (d.add i) λv g f=>e (i+1) (h.zN f)
def Q9{a b:ah}(c:lT ρ a b)(n:V):jc ok P (SR ok) ρ (loadCells a n)<|loadCells b n:=akQ c n 0 jW.pU
def Is{a c:ah}(d:lT ρ a c){vs b:L O}(h:kH ok ρ vs b)(i:V):jc ok P UR ρ (storeCells a vs i)<|storeCells c b i:=by induction vs generalizing b i with|nil=>cases h;exact jc.jJ n7|cons v vs f=>cases h with|cons e hs=>exact Ye (d.add i) e<|f hs<|i+1
def TJ(hi:ρ.lB ok){a c:ah}(e:lT ρ a c)(t:z):jc ok P (VR ok) ρ (loadVar t a)<|loadVar t c:=by unfold loadVar;refine SH λb=>?_;cases b with|true=>simp[DE];exact vA λd _=>jc.jU (Q9 e _) hi λρ' i _ x j g=>jc.jJ (jW.agg g)|false=>simp[aT,DP];exact W ⟨c,_,rfl,rfl,e,λv h f=>⟨h,rfl,f⟩⟩
def Yp{a b:ah}(e:lT ρ a b){v:O}(c:jC ok ρ v x)(t:z):jc ok P UR ρ (storeVar t a v)<|storeVar t b x:=by
 unfold storeVar;refine vA λd _=>?_;rw[<-c.ou.jB];split;.exact jc.jN _ _
 .exact Is e c.ou 0
def jW.Tx{v:O}(h:Flat v):jW ok ρ v.cells v.cells:=(Flat.kV h).ou
def Cl.nH(f:V×V):Cl f f:=⟨λ_ a b=>⟨a,b⟩,id⟩
def E0{x a:Z O}(h:jW ok ρ x a)(t:z):jc ok P AR ρ (newRow t x)<|newRow t a:=Mx (.cells h t<|Cl.nH _) λρ' c hi r d b=>jc.jJ ⟨b,rfl,rfl⟩
def SO{v:O}(h:jC ok ρ v x)(t:z):jc ok P AR ρ (newVar t v)<|newVar t x:=E0 h.ou t
def MV{v:O}(h:jC ok ρ v x):jc ok P ER ρ (asIntOf v)<|asIntOf x:=by cases h<;>first|exact jc.jJ rfl|exact jc.jN _ _
def LH{v:O}(h:jC ok ρ v x):jc ok P ER ρ (asInt v)<|asInt x:=by cases h<;>first|exact jc.jJ rfl|exact jc.jN _ _
def aiH{v:O}(h:jC ok ρ v x):jc ok P ER ρ (asBool v)<|asBool x:=by cases h<;>first|exact jc.jJ rfl|exact jc.jN _ _
def I7{v:O}(h:jC ok ρ v x):jc ok P AR ρ (iR v)<|iR x:=by cases h with|ptr h=>exact jc.jJ h|_=>exact jc.jN _ _
def amr{v:O}(h:jC ok ρ v x):jc ok P AR ρ (asAddr v)<|asAddr x:=by cases h with|ptr h=>exact jc.jJ h|su=>exact jc.mL IE|_=>exact jc.jN _ _
def Re{x e:Z O}(h:jW ok ρ x e)(t:z)(off:V):jc ok P (VR ok) ρ (part t x off)<|part t e off:=by unfold part;refine SH λb=>?_;cases b with|true=>simp[DE];exact vA λd _=>jc.jJ (jW.agg<|h.extract _ _)|false=>simp[aT,DP];obtain⟨c,a⟩|⟨v,g,c,a,f⟩:=h.get? off;(.rw[c,a];exact jc.jN _ _);.rw[c,a];exact jc.jJ f
end
section
variable{ok:jO}{ρ ρ':jG}{P:T}
def ahf(hi:ρ.lB ok){v:O}(h:jC ok ρ v x)(t:z):jc ok P (VR ok) ρ (iT t v)<|iT t x:=jc.jU (I7 h) hi λ_ d b a e c=>TJ b c t
def ahB(hi:ρ.lB ok){v:O}(h:jC ok ρ v y){x:O}(d:jC ok ρ x b)(t:z):jc ok P UR ρ (iU t v x)<|iU t y b:=jc.jU (I7 h) hi λ_ e f a g c=>Yp c (d.jh e) t
def Y7(t:z)(c:∀d v,P.info? t=K d->d.zero=K v->Flat v)(hi:ρ.lB ok):jc ok P (VR ok) ρ (iV t ae<|cd #[])<|iV t ae<|cd #[]:=Ct c λv e=>jc.jU (SO (Flat.kV e) t) hi λ_ _ _ a f b=>jc.jJ (.ptr b)
def ama(hi:ρ.lB ok){v:O}(h:jC ok ρ v x)(t:z):jc ok P (VR ok) ρ (iW t v)<|iW t x:=jc.jU (SO h t) hi λ_ _ _ a c b=>jc.jJ (.ptr b)
def Zw(hi:ρ.lB ok){s:z}(i:∀fs f d,aO P s=K (.struct fs)->fs[k]?=K f->P.info? f.type=K d->d.size≠0){v:O}(h:jC ok ρ v x):jc ok P (VR ok) ρ (gA s v k)<|gA s x k:=by unfold gA;refine pJ λd hd=>?_;cases d with|struct fs=>(cases e:fs[k]? with|none=>simp[e];exact jc.jN _ _|some f=>simp[e];refine jc.jU (I7 h) hi λ_ o g a m l=>?_;refine jc.jU ?_ g λ_ _ _ b n j=>jc.jJ (.ptr j);unfold fieldPlace;refine vA λd c=>?_;rw[BW<|i fs f d hd e c,BW<|i fs f d hd e c];exact jc.jJ<|l.add _)|_=>exact jc.jN _ _
def ahV(hi:ρ.lB ok){t:z}{x i:O}(o:jC ok ρ x v)(r:jC ok ρ i y):jc ok P (VR ok) ρ (gB t x i)<|gB t v y:=by
 unfold gB;refine jc.jU (MV r) hi λ_ D m a b u=>?_;let⟨k,n⟩:=a;subst u;replace o:=o.jh D;simp only[];have tail:∀{ρ:jG},ρ.lB ok->∀{base f:n6 ah}{len:V}{g:z}(h:I),(base=B/\f=B\/∃a q,base=K a/\f=K q/\lT ρ a q)->jc ok P (VR ok) ρ (match base with|K a=>if 0<=n/\n<(len)then do let s<-sizeOf g;pure (ax<|a.add<|n.toNat*s)else if h then unsupported (.noEntry "op/indexAddr.an index out of range at an array of length 0 or 1 (ledger 616)")else boundsPanic k n len .index|B=>boundsPanic k n 0 .index) (match f with|K a=>if 0<=n/\n<(len)then do let s<-sizeOf g;pure (ax<|a.add<|n.toNat*s)else if h then unsupported (.noEntry "op/indexAddr.an index out of range at an array of length 0 or 1 (ledger 616)")else boundsPanic k n len .index|B=>boundsPanic k n 0 .index):=by rintro ρ hi base f len g h(⟨rfl,rfl⟩|⟨a,q,rfl,rfl,w⟩);(.exact jc.mL<|Fx _ _ _ _);.simp[];split;(.exact vA λd _=>jc.jJ (.ptr<|w.add _));.cases h;(.simp[aT,DP];exact jc.mL<|Fx _ _ _ _);.simp[DE];exact jc.jN _ _
 refine pJ λd hd=>?_;cases d with|array len g=>simp only[];refine jc.jU (I7 o) m λ_ _ j G F E=>?_;show jc ok P (VR ok) _ (underlying t>>=_) (underlying t>>=_);refine pJ λC e=>?_;rw[hd]at e;cases e;exact tail j _<|W ⟨G,F,rfl,rfl,E⟩|slice g=>(cases o with|qd l c=>simp[];refine pJ λC e=>?_;rw[hd]at e;cases e;exact jc.mL<|Fx _ _ _ _|slice w l c=>simp only[];refine pJ λC e=>?_;rw[hd]at e;cases e;exact tail m _<|W ⟨_,_,rfl,rfl,w⟩|dead q=>simp[];refine pJ λC e=>?_;rw[hd]at e;cases e;simp[];rw[BW A,BW A];exact jc.mL<|Fx _ _ _ _|_=>exact jc.jN _ _)|_=>exact jc.jN _ _
def Pd{x:O}(h:jC ok ρ x v)(y:V)(c:fF)(hi:ρ.lB ok):jc ok P ER ρ (dY x y c)<|dY v y c:=by
 unfold dY;refine jc.jU (MV h) hi λ_ _ _ a b d=>?_;let⟨k,n⟩:=a;subst d;simp[];split;.exact jc.jJ rfl
 .exact jc.mL<|Fx _ _ _ _
def za(ok:jO)(ρ:jG)(a b:n6 O):U:=(a=B/\b=B)\/∃v c,a=K v/\b=K c/\jC ok ρ v c
def za.jh(g:ρ.le ρ'){a b:n6 O}(h:za ok ρ a b):za ok ρ' a b:=by
 obtain h|⟨v,c,f,e,d⟩:=h;.exact N h
 .exact W ⟨v,c,f,e,d.jh g⟩
def Ou(a:I)(len cap:V){lo e j b k d:n6 O}(o:za ok ρ lo e)(E:za ok ρ j b)(q:za ok ρ k d)(hi:ρ.lB ok):jc ok P ER ρ (dZ a len cap lo j k)<|dZ a len cap e b d:=by unfold dZ;obtain⟨rfl,rfl⟩|⟨v,X,rfl,rfl,F⟩:=q<;>obtain⟨rfl,rfl⟩|⟨u,S,rfl,rfl,C⟩:=E<;>obtain⟨rfl,rfl⟩|⟨x,J,rfl,rfl,r⟩:=o<;>dsimp only<;>(refine jc.jU (R:=ER) (by first|exact jc.jJ rfl|exact Pd F _ _ hi) hi λD g f m H t=>?_;subst t;refine jc.jU (R:=ER) (by first|exact jc.jJ rfl|exact jc.jN _ _|exact Pd (C.jh g) _ _ f) f λs i c h h' w=>?_;subst w;refine jc.jU (R:=ER) (by first|exact jc.jJ rfl|exact Pd (r.jh<|g.jA i) _ _ c) c λy _ _ l G n=>?_;subst n;exact jc.jJ rfl)
def Oj{x:O}(h:jC ok ρ x v)(c:fF)(hi:ρ.lB ok):jc ok P (λ_ a b=>a=b/\a=0) ρ (dY x 0 c)<|dY v 0 c:=by
 unfold dY;refine jc.jU (MV h) hi λ_ _ _ a b d=>?_;let⟨k,n⟩:=a;subst d;simp[];split;.exact jc.jJ ⟨rfl,A⟩
 .exact jc.mL<|Fx _ _ _ _
def XY{lo g k d n f:n6 O}(o:za ok ρ lo g)(F:za ok ρ k d)(r:za ok ρ n f)(hi:ρ.lB ok):jc ok P (λ_ a b=>a=b/\a=(0,0,0)) ρ (dZ ae 0 0 lo k n)<|dZ ae 0 0 g d f:=by unfold dZ;obtain⟨rfl,rfl⟩|⟨v,v',rfl,rfl,q⟩:=r<;>obtain⟨rfl,rfl⟩|⟨u,u',rfl,rfl,D⟩:=F<;>obtain⟨rfl,rfl⟩|⟨x,S,rfl,rfl,t⟩:=o<;>dsimp only<;>(refine jc.jU (R:=λ_ a b=>a=b/\a=0) (by first|exact jc.jJ ⟨rfl,rfl⟩|exact Oj q _ hi) hi λC i c m X y=>?_;obtain⟨rfl,rfl⟩:=y;refine jc.jU (R:=λ_ a b=>a=b/\a=0) (by first|exact jc.jJ ⟨rfl,rfl⟩|exact jc.jN _ _|exact Oj (D.jh i) _ c) c λw j e h J E=>?_;obtain⟨rfl,rfl⟩:=E;refine jc.jU (R:=λ_ a b=>a=b/\a=0) (by first|exact jc.jJ ⟨rfl,rfl⟩|exact Oj (t.jh<|i.jA j) _ e) e λG _ _ l H s=>?_;obtain⟨rfl,rfl⟩:=s;exact jc.jJ ⟨rfl,rfl⟩)
def MN(P:T)(t:z):U:=∀d,aO P t=K d->(∃n e,d=.array n e)\/∃e,d=.slice e
def aaO(hi:ρ.lB ok){t:z}(E:MN P t){x:O}(u:jC ok ρ x v){lo l y i w f:n6 O}(m:za ok ρ lo l)(o:za ok ρ y i)(r:za ok ρ w f):jc ok P (VR ok) ρ (gC t x lo y w)<|gC t v l i f:=by
 unfold gC;refine pJ λd hd=>?_;obtain⟨n,j,rfl⟩|⟨j,rfl⟩:=E d hd;.simp[];refine jc.jU (I7 u) hi λD e h a C g=>?_;refine jc.jU (Ou p _ _ (m.jh e) (o.jh e) (r.jh e) h) h λ_ b _ s q c=>?_;subst c;refine vA λd _=>jc.jJ (.slice ?_ _ _);split;(.exact g.jh b);.exact(g.jh b).add _
 .simp[];unfold Instr.slice;refine pJ λF k=>?_;rw[hd]at k;cases k;cases u with|qd len cap=>refine jc.jU (Ou ae _ _ m o r hi) hi λ_ b _ s q c=>?_;subst c;refine vA λd _=>jc.jJ ?_;simp[Option.map_none,ite_self];exact .qd _ _|slice g len cap=>refine jc.jU (Ou ae _ _ m o r hi) hi λ_ b _ s q c=>?_;subst c;refine vA λd _=>jc.jJ ?_;simp[fH];split;(.exact .slice (g.jh b) _ _);.exact .slice ((g.jh b).add _) _ _|dead C=>refine jc.jU (XY m o r hi) hi λ_ b _ s q c=>?_;obtain⟨rfl,rfl⟩:=c;refine vA λd _=>jc.jJ ?_;simp[DE];exact .dead C|_=>exact jc.jN _ _
def xG.get{x:L O}(h:xG x):∀{v},v∈x->Flat v:=by induction x with|nil=>simp|cons u a b=>simp[xG]at h;grind
def Flat.ou{v:O}(h:Flat v):∀u∈v.cells,Flat u:=by
 intro u a;unfold fY at a;split at a;.rename_i x;let⟨l⟩:=x;simp[Flat]at h;exact xG.get h<|by simpa using a
 grind
def jW.Hp(n:V){f:V->O}(h:∀i,Flat<|f i):jW ok ρ ((iX n).map f)<|(iX n).map f:=by unfold jW;refine kH.L5 rfl λi v c a b=>?_;rw[a]at b;cases b;simp[iY,Array.toList_range,iZ,dF]at a;obtain⟨j,_,rfl⟩:=a;exact Flat.kV<|h j
def Jx{x:Z O}(h:∀u∈x,Flat u)(i:V):Flat<|x[i]!:=by
 by_cases hi:i<x;.grind
 .rw[getElem!_neg x i hi];exact n7
def Yv(hi:ρ.lB ok)(t:z):jc ok P (VR ok) ρ (ja t B)<|ja t B:=Mx (.map .nil 0) λ_ _ _ r b a=>jc.jJ (.map a)
def aca{f:bn}(d:ok.fn f){x a y b:Z O}(e:jW ok ρ x a)(c:jW ok ρ y b):jc ok P (VR ok) ρ (aoy (.func f) x y)<|aoy (.func f) a b:=by cases x;cases a;cases y;cases b;exact jc.jJ<|.func d e c
def ahk(hi:ρ.lB ok){t:z}(w:∀e d v,aO P t=K (.slice e)->P.info? e=K d->d.zero=K v->Flat v){l c:O}(D:jC ok ρ l x)(s:jC ok ρ c y):jc ok P (VR ok) ρ (gD t l c)<|gD t x y:=by unfold gD;refine pJ λd hd=>?_;cases d with|slice f=>simp only[];refine jc.jU (LH D) hi λC q m a b g=>?_;subst g;refine jc.jU (LH<|s.jh q) m λh u j J b2 g=>?_;subst g;refine Bf λd E=>?_;split;(.split;(.exact jc.mL<|rQ<|Cg _);.split;(.exact jc.mL<|rQ<|Cg _);.exact jc.mL<|V7 λn=>rQ (Cg _));.refine MQ ?_;refine vA λR r=>?_;split;(.show jc ok P (VR ok) h (newRow f _>>=_) (newRow f _>>=_);exact jc.jU (E0 (jW.Hp _ λi=>Jx F0 _) _) j λ_ _ _ H F k=>jc.jJ (.slice k _ _));.refine Ct (λe v G o=>w f e v hd G o) λv o=>?_;show jc ok P (VR ok) h (newRow f _>>=_) (newRow f _>>=_);exact jc.jU (E0 (jW.Hp _ λi=>Jx o.ou _) _) j λ_ _ _ H F k=>jc.jJ (.slice k _ _)|_=>exact jc.jN _ _
def IZ(ok:jO)(ρ:jG):L (V×O)->L (V×O)->U|[],[]=>True|(i,v)::l,(b,a)::c=>i=b/\jC ok ρ v a/\IZ ok ρ l c|_,_=>False
def jW.lay{x c y e:Z O}(g:jW ok ρ x c)(b:jW ok ρ y e)(off:V):jW ok ρ (y.zipIdx.foldl (λd a=>aM d (off+a.2) a.1) x)<|e.zipIdx.foldl (λd a=>aM d (off+a.2) a.1) c:=by let⟨l⟩:=y;let⟨f⟩:=e;replace b:kH ok ρ l f:=b;rw[<-aoz,<-aoz,aoA,aoA];simp[];generalize 0=k;induction l generalizing f x c k with|nil=>cases b;exact g|cons v l h=>cases b with|cons i hs=>simp[List.zipIdx_cons,List.foldl_cons];exact h (g.uy i _) _ hs _
def IG(a:V->n6 (V×V)):∀{l d:L<|V×O}{x b:Z O},IZ ok ρ l d->jW ok ρ x b->(eY a x l=B/\eY a b d=B)\/∃y g,eY a x l=K y/\eY a b d=K g/\jW ok ρ y g|[],[],x,b,_,c=>W ⟨x,b,rfl,rfl,c⟩|[],(_,_)::_,_,_,h,_=>by cases h|(_,_)::_,[],_,_,h,_=>by cases h|(i,v)::l,(m,k)::d,x,b,h,c=>by obtain⟨rfl,e,hs⟩:=h;simp only[eY];cases a i with|none=>simp|some j=>let⟨off,f⟩:=j;simp only[<-e.ou.jB,<-c.jB];split;(.simp);.exact IG a hs<|c.lay e.ou off
def afF{t:z}(u:∀d v,P.info? t=K d->d.zero=K v->Flat v){l r:Z<|V×O}(h:IZ ok ρ l.toList r.toList)(hi:ρ.lB ok):jc ok P (VR ok) ρ (gE t l)<|gE t r:=by unfold gE;refine Ct u λv q=>?_;refine pJ λd hd=>?_;cases d with|struct b=>simp[];(have pl:∀(fs:L Field),∀{g j:Type}{R:jG->g->j->U}{ρ:jG}{f:L (V×V)->Sem g}{k:L (V×V)->Sem j},(∀x,jc ok P R ρ (f x)<|k x)->jc ok P R ρ ((fs.mapM λf=>do pure (f.offset,<-sizeOf f.type))>>=f) ((fs.mapM λf=>do pure (f.offset,<-sizeOf f.type))>>=k):=by intro fs;induction fs with|nil=>grind|cons x C w=>intro g j R ρ f k D;simp only[aoB,ee];refine vA λd _=>?_;grind);rw[gF];simp only[bind_map_left];refine pl b.toList λa=>?_;obtain⟨c,e⟩|⟨y,s,c,e,m⟩:=IG (a.toArray[·]?) h<|jW.Tx q;(.rw[c,e];exact jc.jN _ _);.rw[c,e];exact jc.jJ<|jW.agg m|array n o=>simp[];refine vA λd _=>?_;obtain⟨c,e⟩|⟨y,s,c,e,m⟩:=IG (λi=>K (i*d.size,d.size)) h<|jW.Tx q;(.rw[c,e];exact jc.jN _ _);.rw[c,e];exact jc.jJ<|jW.agg m|_=>exact jc.jN _ _
def abJ{t:z}(o:∀e d v,aO P t=K (.slice e)->P.info? e=K d->d.zero=K v->Flat v)(len:V){l n:Z<|V×O}(h:IZ ok ρ l.toList n.toList)(hi:ρ.lB ok):jc ok P (VR ok) ρ (gG t len l)<|gG t len n:=by unfold gG;refine pJ λd hd=>?_;cases d with|slice j=>simp only[];refine vA λg _=>?_;split;(.exact jc.jN _ _);.split;(.simp only[eh];obtain⟨c,a⟩|⟨y,k,c,a,b⟩:=IG (λi=>K (i*g.size,g.size)) h<|jW.Hp (len*g.size) (f:=λx=>(#[]:Z O)[x%(#[]:Z O)]!) λi=>Jx F0 _;(.rw[c,a];exact jc.jN _ _);.rw[c,a];exact jc.jU (E0 b _) hi λ_ _ _ y k b=>jc.jJ (.slice b _ _));.refine Ct (λe v q m=>o j e v hd q m) λv m=>?_;simp[eh];obtain⟨c,a⟩|⟨y,k,c,a,b⟩:=IG (λi=>K (i*g.size,g.size)) h<|jW.Hp (len*g.size) λi=>Jx m.ou _;(.rw[c,a];exact jc.jN _ _);.rw[c,a];exact jc.jU (E0 b _) hi λ_ _ _ y k b=>jc.jJ (.slice b _ _)|_=>exact jc.jN _ _
def acN{v:O}(h:jC ok ρ v x)(i:V):jc ok P (VR ok) ρ (gH v i)<|gH x i:=by cases h with|tuple c=>unfold gH;obtain⟨b,a⟩|⟨u,e,b,a,d⟩:=jW.get? c i;(.simp[b,a];exact jc.jN _ _);.simp[b,a];exact jc.jJ d|_=>exact jc.jN _ _
def VB(op:bU)(k:cO)(x y:Y):jc ok P (VR ok) ρ (gI op k x y)<|gI op k x y:=by unfold gI;split<;>first|exact jc.jJ<|.int _ _|exact jc.jN _ _
def Zc(op:bU)(k:cO)(x y:Y):jc ok P (VR ok) ρ (gJ op k x y)<|gJ op k x y:=by
 unfold gJ;split;.exact jc.mL<|Cg _
 .split<;>first|exact jc.jJ<|.int _ _|exact jc.jN _ _
def akV(op:bU)(x y:Y):jc ok P (VR ok) ρ (gM op x y)<|gM op x y:=by unfold gM;split<;>first|exact jc.jJ<|.bool _|exact jc.jN _ _
def Zd{op:UnOp}(a:op=.not\/op=.neg){v:O}(h:jC ok ρ v x):jc ok P (VR ok) ρ (gQ op v)<|gQ op x:=by obtain rfl|rfl:=a<;>cases h<;>first|exact jc.jJ<|.bool _|(simp[gQ];exact VB _ _ _ _)|exact jc.jN _ _
def ahA(hi:ρ.lB ok){ts:Z z}{t:z}{x i:Z O}(l:jW ok ρ x i):jc ok P (VR ok) ρ (gR ts t x)<|gR ts t i:=by unfold gR;cases e:ts[0]? with|none=>exact jc.jN _ _|some s=>rcases l.get? 0 with⟨f,g⟩|⟨v,q,f,g,a⟩;(.simp only[f,g];exact jc.jN _ _);.simp only[f,g];refine pJ λd hd=>?_;cases d with|array n e=>cases a<;>exact jc.jJ (.int _ _)|pointer b=>(have key:jc ok P (VR ok) ρ (underlying b>>=λd=>match d with|.array n _=>pure (goInt n)|_=>stuck "len: pointer to array expected") (underlying b>>=λd=>match d with|.array n _=>pure (goInt n)|_=>stuck "len: pointer to array expected"):=by refine pJ λd _=>?_;cases d<;>first|exact jc.jJ<|.int _ _|exact jc.jN _ _);omega|map k e=>(cases a with|sF=>exact jc.jJ<|.int _ _|uF j r=>exact Hx j|map m=>refine Ft m (λy h c o=>?_) λ_ _ _ _=>jc.jN _ _;show jc ok P (VR ok) ρ (pure<|goInt y) (pure<|goInt h);rw[(by simpa using o.Mb:y=h.size)];exact jc.jJ<|.int _ _|_=>exact jc.jN _ _)|slice e=>(cases a<;>first|exact jc.jJ<|.int _ _|exact jc.jN _ _)|string=>(cases a<;>first|exact jc.jJ<|.int _ _|exact jc.jN _ _)|chan d e=>cases a<;>exact jc.jN _ _|_=>cases a<;>exact jc.jN _ _
def ajR(hi:ρ.lB ok){ts:Z z}{t:z}{x g:Z O}(h:jW ok ρ x g):jc ok P (VR ok) ρ (gS ts t x)<|gS ts t g:=by unfold gS;cases e:ts[0]? with|none=>exact jc.jN _ _|some s=>obtain⟨f,c⟩|⟨v,i,f,c,b⟩:=h.get? 0;(.simp[f,c];exact jc.jN _ _);.simp[f,c];refine pJ λd hd=>?_;cases d with|array n e=>cases b<;>exact jc.jJ (.int _ _)|pointer a=>(have key:jc ok P (VR ok) ρ (underlying a>>=λd=>match d with|.array n _=>pure (goInt n)|_=>stuck "cap: pointer to array expected") (underlying a>>=λd=>match d with|.array n _=>pure (goInt n)|_=>stuck "cap: pointer to array expected"):=by refine pJ λd _=>?_;cases d<;>first|exact jc.jJ<|.int _ _|exact jc.jN _ _);omega|slice e=>(cases b<;>first|exact jc.jJ<|.int _ _|exact jc.jN _ _)|chan d e=>cases b<;>exact jc.jN _ _|_=>cases b<;>exact jc.jN _ _
end
section
variable{ok:jO}{ρ ρ':jG}{P:T}
def ahu{v:O}(h:jC ok ρ v x):jc ok P ER ρ (fI v)<|fI x:=by cases h<;>first|exact jc.jJ rfl|exact jc.jN _ _
def Qd{v:O}(h:jC ok ρ v x):jc ok P (λ_ a b=>a=b/\(v=aA Ai 0 0->a=0)) ρ (fI v)<|fI x:=by cases h<;>first|exact jc.jJ ⟨rfl,λe=>by cases e<;>rfl⟩|exact jc.jN _ _
def TP{v:O}(h:jC ok ρ v x)(c:V):jc ok P (λ_ a b=>a=#[]/\b=#[]) ρ (cj c 0 v)<|cj c 0 x:=by cases h<;>first|exact jc.jN _ _|(simp[cj];exact jc.jJ ⟨rfl,rfl⟩)|(simp[cj,(λa=>by rw[gT];rfl)];exact jc.jJ ⟨rfl,rfl⟩)|(simp[cj];refine jc.jJ ⟨?_,?_⟩<;>simp[ByteArray.extract,ByteArray.copySlice])
def GZ(hi:ρ.lB ok){v:O}(h:jC ok ρ v x)(a n:V)(hd:v=aA Ai 0 0->n=0):jc ok P (SR ok) ρ (cj a n v)<|cj a n x:=by cases h with|qd=>exact jc.jJ jW.pU|slice e=>exact Q9 e _|dead d=>obtain rfl:=hd rfl;show jc ok P (SR ok) ρ (loadCells Ai<|0*a) (loadCells d<|0*a);rw[gT];exact jc.jJ jW.pU|string s=>apply jc.jJ;unfold SR jW;refine kH.L5 rfl λi u f b c=>?_;rw[b]at c;cases c;simp only[iY,iZ,dF]at b;obtain⟨j,_,rfl⟩:=b;exact .int _ _|_=>exact jc.jN _ _
def LM{v:O}(h:Flat v)(n:V):jW ok ρ (dO v.cells n)<|dO v.cells n:=jW.Hp _ λi=>Jx h.ou _
def afa{a:Type}(u:Unsupported)(b:(fy u).AZ:=by exact n7):mU P (unsupported u:Sem a):=ur _ b
def Calm{a:Type}(P:T)(m:Sem a):U:=∀w h b,m.run P w=de h b->h.AZ
def Calm.jU{b g:Type}{m:Sem b}{f:b->Sem g}(h:Calm P m)(c:∀a,Calm P<|f a):Calm P<|m>>=f:=by intro w x d e;replace e:dE P (m.bind f) w=_:=e;rw[gy]at e;cases e1:m.run P w with|ok a w1=>rw[e1]at e;exact c a w1 x d e|halt y w1=>rw[e1]at e;cases e;exact h w _ _ e1
def Calm.sI{b:Type}(a:b):Calm P (pure a:Sem b):=λw h c e=>by cases e
def akL(r:V):Calm P<|shape r:=λw h a e=>by cases e
def akN(a:ah):Calm P<|frozen a:=λw h b e=>by cases e
def UY:Calm P program:=λw h a e=>by cases e
def Oe{a:Type}(h:Halt)(b:h.AZ:=by exact n7):Calm P (fE h:Sem a):=λw x c e=>by cases e;exact b
def FT{c d:Type}{m:Sem c}(g:Calm P m){f:c->Sem d}(h:∀a,mU P<|f a):mU P<|m>>=f:=by intro w;show∃h b,dE P (m.bind f) w=_/\_;rw[gy];cases e:m.run P w with|ok a b=>exact h a b|halt x b=>exact⟨x,b,rfl,g w _ _ e⟩
def Yd(c d n:V)(base:n6 ah)(x:O):Calm P<|aoC c d n base x:=by
 have e:∀a k,Calm P<|aoD a k:=λa k=>Calm.jU (akL _) λs=>by split<;>exact Calm.sI _
 unfold aoC;have tail:∀there:I,Calm P (if(!there)=ae then pure ae else match x with|aA (K b) _ _=>do let y<-aoD b (n*c);pure (!y||base.any (·.block==b.block))|_=>pure p):=by intro there;split;(.exact Calm.sI _);.split;(.exact Calm.jU (e _ _) λ_=>Calm.sI _);.exact Calm.sI _
 cases base with|none=>exact tail ae|some a=>exact Calm.jU (e _ _) λ_=>Calm.jU (akN _) λ_=>tail _
def abu(q:bu):Calm P<|choose q:=λw h a e=>by exfalso;revert e;unfold choose;simp[dE];split<;>simp
def Gj(b:z)(a n:V):Sem<|Z O:=if n*a=0 then pure #[]else do pure (dO (<-zeroValue b).cells n)
def Vi{a:z}(e:∀d v,P.info? a=K d->d.zero=K v->Flat v)(b n:V):jc ok P (SR ok) ρ (Gj a b n)<|Gj a b n:=by
 unfold Gj;split;.exact jc.jJ jW.pU
 .exact Ct e λf c=>jc.jJ (LM c _)
def alh(hi:ρ.lB ok){ts:Z z}{t:z}(hz:∀s e d v,ts[0]?=K s->aO P s=K (.slice e)->P.info? e=K d->d.zero=K v->Flat v)(hn:∀x d,ts[1]?=K x->aO P x=K d->(∃e,d=.slice e)\/∃k,d=.int k){x x':Z O}(hx:jW ok ρ x x'):jc ok P (VR ok) ρ (gU ts t x)<|gU ts t x':=by unfold gU;cases e0:ts[0]? with|none=>exact jc.jN _ _|some s=>rcases hx.get? 0 with⟨X,S⟩|⟨v,v',X,S,hv⟩;(.simp only[X,S];exact jc.jN _ _);rcases hx.get? 1 with⟨g1,g2⟩|⟨u,u',g1,g2,hu⟩;(.simp only[X,S,g1,g2];exact jc.jN _ _);simp only[X,S,g1,g2];refine pJ λd hd=>?_;cases d with|slice g=>(have hb:(∃n c,v=aA B n c/\v'=aA B n c)\/(∃a a' n c,v=aA (K a) n c/\v'=aA (K a') n c/\lT ρ a a')\/(∃a' n c,n=0/\c=0/\v=aA (K Ai) n c/\v'=aA (K a') n c)\/(∀b n c,v≠aA b n c):=by cases hv with|qd n c=>simp|slice ha n c=>grind|dead a'=>simp|_=>simp);(have grow:∀{h l:V}{E:jG}(C:ρ.le E)(D:E.lB ok)(q n j:V),(v=aA (K Ai) 0 0->h=0)->(u=aA (K Ai) 0 0->n=0)->jc ok P (VR ok) E (do let f<-choose (fJ j l g);let i<-typeInfo g;askRoom (f*i.bytes);let J<-cj q h v;let new<-cj q n u;let H<-zeroValue g;let r<-newRow g (J++new++dO H.cells (f-j));pure (aA (K r) j f)) (do let f<-choose (fJ j l g);let i<-typeInfo g;askRoom (f*i.bytes);let J<-cj q h v';let new<-cj q n u';let H<-zeroValue g;let r<-newRow g (J++new++dO H.cells (f-j));pure (aA (K r) j f)):=by intro h l E C D q n j aR aL;refine LQ λcap=>Bf λi _=>MQ ?_;refine jc.jU (GZ D (hv.jh C) _ _ aR) D λad F G o o' ho=>?_;refine jc.jU (GZ G (hu.jh<|C.jA F) _ _ aL) G λaI R aa w w' hw=>?_;refine Ct (λd H X S=>hz s g d H e0 hd X S) λH aC=>?_;exact jc.jU (E0 (((ho.jh R).tn hw).tn<|LM aC _) _) aa λ_ _ _ y y' hy=>jc.jJ (.slice hy _ _));(have aB:∀{h l:V}{E:jG}(C:ρ.le E)(D:E.lB ok)(q n j:V),(v=aA (K Ai) 0 0->h=0)->jc ok P (VR ok) E (do let f<-choose (fJ j l g);let i<-typeInfo g;askRoom (f*i.bytes);let J<-cj q h v;let new<-Gj g q n;let H<-zeroValue g;let r<-newRow g (J++new++dO H.cells (f-j));pure (aA (K r) j f)) (do let f<-choose (fJ j l g);let i<-typeInfo g;askRoom (f*i.bytes);let J<-cj q h v';let new<-Gj g q n;let H<-zeroValue g;let r<-newRow g (J++new++dO H.cells (f-j));pure (aA (K r) j f)):=by intro h l E C D q n j aR;refine LQ λcap=>Bf λi _=>MQ ?_;refine jc.jU (GZ D (hv.jh C) _ _ aR) D λad F G o o' ho=>?_;refine jc.jU (Vi (λd H X S=>hz s g d H e0 hd X S) _ _) G λaI R aa w w' hw=>?_;refine Ct (λd H X S=>hz s g d H e0 hd X S) λH aC=>?_;exact jc.jU (E0 (((ho.jh R).tn hw).tn<|LM aC _) _) aa λ_ _ _ y y' hy=>jc.jJ (.slice hy _ _));rcases hb with⟨h,l,rfl,rfl⟩|⟨a,a',h,l,rfl,rfl,ha⟩|⟨a',h,l,aV,aW,rfl,rfl⟩|hb;rotate_right;(.cases v<;>first|exact jc.jN _ _|grind);all_goals refine vA λds a1=>?_;rcases e1:ts[1]? with _|xt;(case' some=>refine pJ λdx a0=>?_;by_cases aw:∃k,dx=.int k;(.obtain⟨k,rfl⟩:=aw;simp only[eh];rw[rW n7,rW n7];refine jc.jU (LH hu) hi λE C D m m' ac=>?_;subst ac;by_cases hc:IntKind.i64.wrap m<0;(.rw[rW hc,rW hc];exact jc.mL<|rQ<|Cg _);rw[BW hc,BW hc];refine Bf λdj _=>?_;by_cases av:IntKind.i64.wrap m*dj.bytes>2^48;(.rw[rW av,rW av];exact jc.mL<|FT (abu _) λ_=>rQ (Cg _));rw[BW av,BW av];by_cases al:h+(IntKind.i64.wrap m).toNat<=l;(.rw[rW al,rW al];first|((have aG:(IntKind.i64.wrap m).toNat=0:=A);rw[aG];subst aV aW;simp only[Gj,gT,DE,eh];exact jc.jJ<|.dead a')|refine jc.jU (Vi (λd H X S=>hz s g d H e0 hd X S) _ _) D λad F G w w' hw=>?_;first|exact jc.jJ<|.qd _ _|exact jc.jU (Is ((ha.jh<|C.jA F).add _) hw 0) G λaI R aa _ _ _=>jc.jJ (.slice (ha.jh<|(C.jA F).jA R) _ _));.rw[BW al,BW al];refine Bf λdi _=>?_;by_cases an:((h+(IntKind.i64.wrap m).toNat:V):Y)>IntKind.i64.max/\(True\/di.bytes=0);(.rw[rW an,rW an];exact jc.mL<|rQ<|Cg _);.rw[BW an,BW an];refine Bf λaS _=>?_;by_cases am:Builtin.nextslicecap (h+(IntKind.i64.wrap m).toNat) l*aS.bytes>2^48;(.rw[rW am,rW am,rW n7,rW n7];exact jc.mL<|rQ<|Cg _);.rw[BW am,BW am];exact aB C D _ _ _<|by intro e;cases e<;>rfl);obtain⟨el,rfl⟩:=(hn xt dx e1 a0).resolve_right aw);all_goals simp only[eh,aT,DP,false_or];refine jc.jU (Qd hu) hi λE C D n n' ac=>?_;let⟨ac,aL⟩:=ac;subst ac;split;(.first|((have aG:n=0:=A);subst aG aV aW;refine jc.jU (TP (hu.jh C) _) D λad F G w w' hw=>?_;obtain⟨rfl,rfl⟩:=hw;exact jc.jJ<|.dead a')|refine jc.jU (GZ D (hu.jh C) _ _ aL) D λad F G w w' hw=>?_;first|exact jc.jJ<|.qd _ _|exact jc.jU (Is ((ha.jh<|C.jA F).add _) hw 0) G λaI R aa _ _ _=>jc.jJ (.slice (ha.jh<|(C.jA F).jA R) _ _));.refine Bf λdi _=>?_;split;(.exact jc.mL<|rQ<|Cg _);.refine Bf λaS _=>?_;split;(.refine jc.mL<|rQ<|FT (Yd _ _ _ _ _) λb=>?_;split;(.exactλw=>⟨_,w,rfl,n7⟩);.exact afa _);simp_all|_=>exact jc.jN _ _
end
section
variable{ok:jO}{ρ ρ':jG}{P:T}
structure Fits(ok:jO)(P:T):U where
 gs:P.globals=ok.gs
def afe{r:V}(e:ρ r f):jc ok P (λρ a b=>(a=B/\b=B)\/∃x d l,a=K (x,l)/\b=K (d,l)/\lT ρ x d) ρ (numberAt r)<|numberAt f:=by unfold numberAt;refine I6 e λs=>?_;cases s with|some j=>exact jc.jJ<|N ⟨rfl,rfl⟩|none=>exact Ft e (λx d c i=>jc.jJ<|N ⟨rfl,rfl⟩) λa h l g=>jc.jJ (W ⟨a,h,l,rfl,rfl,g⟩)
def Dk(hi:ρ.lB ok){a e:ah}(h:lT ρ a e):jc ok P (λρ(d q:ah×I)=>lT ρ d.1 q.1/\d.2=q.2) ρ (bI a)<|bI e:=by
 unfold bI;refine jc.jU (afe h.1) hi λg b f d q c=>?_;obtain⟨rfl,rfl⟩|⟨x,j,l,rfl,rfl,i⟩:=c;.exact jc.jJ ⟨h.jh b,rfl⟩
 .exact jc.jJ ⟨i,rfl⟩
def Rn{r:V}(d:ρ r f):jc ok P (λ_ a b=>a=B/\b=B) ρ (viewAt r)<|viewAt f:=by unfold viewAt;refine I6 d λs=>?_;cases s with|some g=>exact jc.jJ ⟨rfl,rfl⟩|none=>exact Ft d (λx j c h=>jc.jJ ⟨rfl,rfl⟩) λa i l e=>jc.jJ ⟨rfl,rfl⟩
def ajc(hi:ρ.lB ok){a a':ah}(h:lT ρ a a'):jc ok P UR ρ (noView a)<|noView a':=by unfold noView;refine jc.jU (Rn h.1) hi λd c e f q b=>?_;obtain⟨rfl,rfl⟩:=b;exact jc.jJ n7
def Ik(hi:ρ.lB ok){a a':ah}(h:lT ρ a a'):jc ok P ER ρ (byteOf a)<|byteOf a':=by unfold byteOf;let⟨b,o,s⟩:=a;let⟨g,k,l⟩:=a';obtain⟨d,rfl,rfl⟩:=h;simp at d;cases s with|some s=>exact jc.jJ rfl|none=>simp[];apply DI;refine jc.jU (ajc (a:=(b o B)) (a':=(g o B)) hi ⟨d,rfl,rfl⟩) hi λj c i _ _ _=>?_;refine I6 (c _ _ d) λs=>?_;cases s with|none=>exact jc.jN _ _|some f=>let⟨e,n⟩:=f;simp[];split;(.exact jc.jJ rfl);.split;(.exact jc.jJ rfl);.exact jc.jN _ _
def PR:jG->O->O->U:=λρ v c=>∃a b,v=ax (K a)/\c=ax (K b)/\lT ρ a b
def alQ(hi:ρ.lB ok)(t:z){a i:ah}(c:lT ρ a i)(l:jC ok ρ y v):jc ok P PR ρ (gV #[] t #[ax a,y])<|gV #[] t #[ax i,v]:=by
 show jc ok P PR ρ (asInt y>>=_) (asInt v>>=_);refine jc.jU (LH l) hi λj b d n r k=>?_;subst k;dsimp only;split;.refine jc.jU (Rn<|b _ _ c.1) d λm g o h q f=>?_;obtain⟨rfl,rfl⟩:=f;exact jc.jJ ⟨_,_,rfl,rfl,c.jh<|b.jA g⟩
 .split;(.exact jc.jN _ _);.refine I6 (b _ _ c.1) λs=>?_;cases s with|none=>exact jc.jN _ _|some h=>let⟨e,cells⟩:=h;apply DI;rw[<-c.2.1];split;(.exact jc.jJ ⟨_,_,rfl,rfl,b _ _ c.1,rfl,c.2.2⟩);.exact jc.jN _ _
def aiJ(t:z)(y:O):mU P<|gV #[] t #[ax B,y]:=by
 show mU P (asInt y>>=_);refine FT (λw h a e=>by cases y<;>first|(cases e;done)|(cases e;exact n7)|(rename_i o;cases o<;>(cases e;exact n7))) λn=>?_;dsimp only;split;.exact ur _
 .split<;>exact ur _
def amf{a b:ah}(h:lT ρ a b)(l:I):jc ok P (VR ok) ρ (asNumber a l)<|asNumber b l:=Mx (.number h l) λρ' d hi r e c=>jc.jJ (.ptr ⟨c,rfl,rfl⟩)
def Jg(hi:ρ.lB ok)(t:z){o g:n6 ah}(C:jC ok ρ (ax o)<|ax g)(u:jC ok ρ y x):jc ok P (VR ok) ρ (movedNumber t (ax o) y)<|movedNumber t (ax g) x:=by
 unfold movedNumber;refine pJ λd hd=>?_;by_cases f:d=.unsafePointer;.subst f;exact jc.jN _ _
 cases C with|su=>apply jc.mL;(cases d<;>first|exact zW rfl f|(simp[aT,DP];exact aiJ _ _))|ptr k=>cases d<;>first|exact zW rfl f|(show jc ok P (VR ok) ρ (bI _>>=_) (bI _>>=_);refine jc.jU (Dk hi k) hi λn e a s q c=>?_;let⟨G,l1⟩:=s;let⟨F,l2⟩:=q;let⟨h,i⟩:=c;simp at h i;subst i;refine jc.jU (alQ a t h<|u.jh e) a λj w r v D l=>?_;obtain⟨b,E,rfl,rfl,m⟩:=l;exact amf m _)
def Vn(hi:ρ.lB ok){a c b d:ah}(f:lT ρ a c)(g:lT ρ b d):(a.block==b.block)=(c.block==d.block):=by rw[aoE];simp[DB];exact⟨λe=>hi.fn (e▸f.1) g.1,λe=>hi.inj (e▸f.1) g.1⟩
def SD(hi:ρ.lB ok){a c:ah}(b:lT ρ a c):(a.block<ok.gs)↔(c.block<ok.gs):=⟨λh=>by rwa[<-hi.n9 b.1<|N h],λh=>by rwa[hi.n9 b.1<|W h]⟩
def ade(hi:ρ.lB ok){a f b c:ah}(k:lT ρ a f)(o:lT ρ b c):(a==b)=(f==c):=by
 let⟨r,u,s⟩:=a;let⟨n,j,i⟩:=f;let⟨q,t,sb⟩:=b;let⟨h,l,m⟩:=c;obtain⟨d,rfl,rfl⟩:=k;obtain⟨g,rfl,rfl⟩:=o;simp at d g;rw[aoE];simp only[DB,Addr.mk.injEq];constructor;.rintro⟨e,e2⟩;subst e;exact⟨hi.fn d g,e2⟩
 .rintro⟨e,e2⟩;subst e;exact⟨hi.inj d g,e2⟩
def V8(F:Fits ok P)(hi:ρ.lB ok){a d b g:ah}(f:lT ρ a d)(i:lT ρ b g):jc ok P ER ρ (gW a b)<|gW d g:=by
 unfold gW;apply DI;have e:(a.block !=b.block||decide (a.block>=P.globals))=(d.block !=g.block||decide (d.block>=P.globals)):=by have q:=Vn hi f i;have r:=SD hi f;rw[F.gs];grind
 rw[e];split;.exact jc.jN _ _
 .refine jc.jU (Ik hi f) hi λo h c x s n=>?_;subst n;refine jc.jU (Ik c<|i.jh h) c λj m k y t l=>?_;subst l;exact jc.jJ rfl
def yb(P:T)(t:z):U:=∃k,aO P t=K (.int k)
def aeH(F:Fits ok P)(hi:ρ.lB ok){t:z}(ht:yb P t){a C b D:ah}(ha:lT ρ a C)(J:lT ρ b D)(d:V):jc ok P ER ρ (aZ (d+1) t (ax a)<|ax b)<|aZ (d+1) t (ax C)<|ax D:=by
 let⟨k,hk⟩:=ht;unfold aZ;refine pJ λu E=>?_;rw[hk]at E;cases E;dsimp only;refine jc.jU (Dk hi ha) hi λac w j r q f=>?_;let⟨G,l1⟩:=r;let⟨l,l2⟩:=q;obtain⟨g,-⟩:=f;refine jc.jU (Dk j<|J.jh w) j λn o c r q f=>?_;let⟨b1,m1⟩:=r;let⟨b2,m2⟩:=q;obtain⟨m,-⟩:=f;dsimp only at g m⊢;replace g:=g.jh o;apply DI;have e:(G.block==b1.block&&decide (G.block<P.globals))=(l.block==b2.block&&decide (l.block<P.globals)):=by rw[F.gs,Vn c g m,decide_eq_decide.2<|SD c g]
 rw[e];split;.refine jc.jU (Ik c g) c λad s h x x' H=>?_;subst H;refine jc.jU (Ik h<|m.jh s) h λaa S R y y' hy=>?_;subst hy;exact jc.jJ rfl
 .refine Bf λi X=>?_;rw[ade c g m];(have v:jc ok P ER n (if(l==b2)=ae then(pure ae)else unsupported .addressObserved)<|if(l==b2)=ae then(pure ae)else unsupported .addressObserved:=by split;(.exact jc.jJ rfl);.exact jc.jN _ _);revert v;generalize(if(l==b2)=ae then(pure ae)else unsupported .addressObserved)=al;intro v;split;(.exact v);.exact jc.jN _ _
def Sx(F:Fits ok P)(hi:ρ.lB ok){t:z}(h:yb P t){x:O}(l:jC ok ρ x v)(e:jC ok ρ y c)(d:V):jc ok P ER ρ (aZ (d+1) t x y)<|aZ (d+1) t v c:=by
 by_cases m:(∃a b,x=ax (K a)/\y=ax (K b));.obtain⟨a,b,rfl,rfl⟩:=m;cases l with|ptr i=>cases e with|ptr g=>exact aeH F hi h i g d
 let⟨k,hk⟩:=h;unfold aZ;refine pJ λu j=>?_;rw[hk]at j;cases j;cases l with|int k1 n1=>(cases e with|int k2 n2=>simp[];split;(.exact jc.jJ rfl);.exact jc.jN _ _|ptr g=>by_cases f:n1=0;(.subst f;exact jc.jJ rfl);.simp[];(split<;>first|exact jc.jN _ _|(simp_all;done)|skip);all_goals simp_all|_=>exact jc.jN _ _)|ptr i=>(cases e with|int k2 n2=>by_cases f:n2=0;(.subst f;exact jc.jJ rfl);.simp[];(split<;>first|exact jc.jN _ _|(simp_all;done)|skip);all_goals simp_all|ptr g=>grind|_=>exact jc.jN _ _)|_=>cases e<;>exact jc.jN _ _
end
section
variable{ok:jO}{ρ ρ':jG}{P:T}
def EE(P:T):V->z->U|0,_=>False|d+1,t=>yb P t\/aO P t=K .bool\/∃n e,aO P t=K (.array n e)/\EE P d e
def ahc{k b:Type}(hi:ρ.lB ok){f m:k->b->Sem (ForInStep b)}(l:L k)(h:∀ρ',ρ.le ρ'->ρ'.lB ok->∀a s,jc ok P ER ρ' (f a s) (m a s))(s:b):jc ok P ER ρ (forIn l s f)<|forIn l s m:=by induction l generalizing s ρ with|nil=>simp[List.forIn_nil];exact jc.jJ rfl|cons a l o=>simp[List.forIn_cons];refine jc.jU (h ρ (jG.le.nH _) hi a s) hi λn i g x y c=>?_;subst c;cases x with|done s=>exact jc.jJ rfl|yield s=>exact o g (λj e d=>h j (i.jA e) d) s
def alK(F:Fits ok P):∀(d:V){ρ:jG}(_:ρ.lB ok){t:z}(_:EE P d t){x C y r:O}(_:jC ok ρ x C)(_:jC ok ρ y r)(n:V),d<=n->jc ok P ER ρ (aZ n t x y) (aZ n t C r):=by intro d;induction d with|zero=>intro ρ hi t f;exact f.elim|succ d X=>intro ρ hi t f x C y r h c n hn;obtain⟨n,rfl⟩:∃m,n=m+1:=⟨n-1,A⟩;rcases f with f|D|⟨len,e,ha,he⟩;(.exact Sx F hi f h c n);(.unfold aZ;refine pJ λu j=>?_;rw[D]at j;cases j;cases h<;>cases c<;>first|exact jc.jJ rfl|exact jc.jN _ _);.unfold aZ;refine pJ λu j=>?_;rw[ha]at j;cases j;cases h with|agg h=>(cases c with|agg c=>simp only[];refine vA λds _=>?_;simp only[Std.Legacy.Range.forIn_eq_forIn_range'];refine jc.jU (ahc hi _ (λS k w i s=>?_) _) hi λ_ _ _ a b E=>?_;(.refine jc.jU (Re (jW.jh k<|h) _ _) w λG v o ad p' hp=>?_;refine jc.jU (Re (jW.jh (k.jA v)<|c) _ _) o λR l g q q' J=>?_;refine jc.jU (X g he (hp.jh l) J n A) g λaa ac H b b' D=>?_;subst D;split<;>exact jc.jJ rfl);.subst E;split<;>exact jc.jJ rfl|_=>exact jc.jN _ _)|_=>cases c<;>exact jc.jN _ _
def uE:O->U|ax B|aA B _ _|cZ B|eQ|dt=>True|_=>False
def I3(P:T)(t:z):U:=∀d,aO P t=K d->(∃e,d=.pointer e)\/(∃e,d=.slice e)\/∃k e,d=.map k e
def adJ{t:z}(l:I3 P t){x:O}(g:jC ok ρ x v)(d:jC ok ρ y b)(c:uE x\/uE y)(n:V):jc ok P ER ρ (aZ (n+1) t x y)<|aZ (n+1) t v b:=by
 unfold aZ;refine pJ λu m=>?_;obtain⟨e,rfl⟩|⟨e,rfl⟩|⟨k,e,rfl⟩:=l u m;.cases g with|su=>(cases d<;>first|exact jc.jJ rfl|exact jc.jN _ _)|ptr h=>(cases d with|su=>exact jc.jJ rfl|ptr f=>obtain c|c:=c<;>simp[uE]at c|_=>exact jc.jN _ _)|_=>cases d<;>exact jc.jN _ _
 .cases g with|qd=>(cases d<;>first|exact jc.jJ rfl|exact jc.jN _ _)|slice h=>(cases d with|qd=>exact jc.jJ rfl|slice f=>obtain c|c:=c<;>simp[uE]at c|dead j=>obtain c|c:=c<;>simp[uE]at c|_=>exact jc.jN _ _)|dead a=>(cases d with|qd=>exact jc.jJ rfl|slice f=>obtain c|c:=c<;>simp[uE]at c|dead j=>obtain c|c:=c<;>simp[uE]at c|_=>exact jc.jN _ _)|_=>cases d<;>exact jc.jN _ _
 .cases g with|sF=>(cases d<;>first|exact jc.jJ rfl|exact jc.jN _ _)|map h=>(cases d with|sF=>exact jc.jJ rfl|map f=>obtain c|c:=c<;>simp[uE]at c|uF i r=>obtain c|c:=c<;>simp[uE]at c|_=>exact jc.jN _ _)|uF i r=>(cases d with|sF=>exact jc.jJ rfl|map f=>obtain c|c:=c<;>simp[uE]at c|uF i r=>obtain c|c:=c<;>simp[uE]at c|_=>exact jc.jN _ _)|_=>cases d<;>exact jc.jN _ _
def J4{t:z}(e:∃k,aO P t=K (.int k))(b g:I){v:O}(n:V){c a:Type}{R:jG->c->a->U}{f:Unit->Sem c}{d:Unit->Sem a}(h:jc ok P R ρ (f ())<|d ()):jc ok P R ρ (eZ b (n+1) t v>>=f)<|eZ g (n+1) t x>>=d:=by let⟨k,hk⟩:=e;unfold eZ;simp[ee];refine pJ λu i=>?_;grind
def xg:O->U|aX _ _|ax _=>True|_=>False
def G2(ok:jO)(k:O)(d:L aF)(i:V):jG->n6 (V×O)->n6 (V×O)->U:=λρ a b=>(a=B/\b=B)\/∃j v c,a=K (i+j,v)/\b=K (i+j,c)/\jC ok ρ v c/\xg k/\∃e,d[j]?=K e/\xg e.key
def G2.FM{k:O}{e:aF}{c:L aF}{i:V}{a b:n6<|V×O}(h:G2 ok k c (i+1) ρ a b):G2 ok k (e::c) i ρ a b:=by
 obtain h|⟨j,v,m,n,o,g,f,e,d,l⟩:=h;.exact N h
 .exact W ⟨j+1,v,m,pC,pC,g,f,e,by simpa using d,l⟩
def Hr{a:Type}{t:z}{f:gz->Sem a}(h:∀d,aO P t=K d->mU P (f d)):mU P<|underlying t>>=f:=by intro w;show∃x b,dE P (fB _) w=_/\_;simp only[dE,bQ];cases e:aO P t with|none=>exact⟨_,_,rfl,n7⟩|some d=>exact h d e w
def OF{t:z}(b:yb P t){x:O}(h:¬(xg x/\xg y))(d:V):mU P<|aZ (d+1) t x y:=by let⟨k,hk⟩:=b;unfold aZ;refine Hr λu a=>?_;rw[hk]at a;cases a;split<;>first|exact ur _|simp_all[xg]
def aax{t:z}(g:yb P t){k k1 k2:cO}{a b:Y}{r:I}(h:dG (.int k) (aX k1 a) (aX k2 b)=K r)(d:V){e:Type}{f:I->Sem e}(hd:mU P<|f r):mU P<|aZ (d+1) t (aX k1 a) (aX k2 b)>>=f:=by let⟨k,hk⟩:=g;unfold aZ;simp[ee];refine Hr λu c=>?_;rw[hk]at c;cases c;simp[dG]at h;grind
def ahw(F:Fits ok P){t:z}(j:yb P t){k:O}{f c:L aF}(l:nN ok ρ f c)(hi:ρ.lB ok)(hk:jC ok ρ k v)(i:V):jc ok P (G2 ok k f i) ρ (ej t k f i)<|ej t v c i:=by induction f generalizing c ρ i with|nil=>cases l;exact jc.jJ<|N ⟨rfl,rfl⟩|cons e f n=>cases l with|cons h hs=>unfold ej;by_cases g:xg k/\xg e.key;(.refine jc.jU (Sx F hi j hk h.lX 9999) hi λo a d b q m=>?_;subst m;cases b with|true=>simp[DE];exact jc.jJ<|W ⟨0,_,_,rfl,rfl,h.nk.jh a,g.1,e,rfl,g.2⟩|false=>simp[aT,DP];exact jc.imp (n (hs.jh a) d (hk.jh a) _) d λ_ _ _ h=>h.FM);.exact jc.mL<|rQ<|OF j g 9999
def aac{k:cO}{x:O}(c:jC ok ρ x v)(d:jC ok ρ y b)(a:xg x/\xg y):dG (.int k) x y=dG (.int k) v b:=by cases c<;>first|exact zW a.1 id|(cases d<;>first|rfl|exact zW a.2 id)
def RG{k:cO}{x:O}{b:I}(h:dG (.int k) x y=K b):(∃k1 k2 a b,x=aX k1 a/\y=aX k2 b):=by unfold dG at h;grind
def aap{k:cO}{t:z}(n:yb P t){x:O}(q:jC ok ρ x v){d c:L aF}(o:nN ok ρ d c)(i:V):(ek (.int k) x d i=B/\(mU P (ej t x d i)\/ek (.int k) v c i=B))\/∃r j,ek (.int k) x d i=K r/\ek (.int k) v c i=K j/\G2 ok x d i ρ r j:=by induction d generalizing c i with|nil=>cases o;exact W ⟨_,_,rfl,rfl,N ⟨rfl,rfl⟩⟩|cons e d u=>cases o with|@cons _ w _ c h hs=>by_cases f:xg x/\xg e.key;(.simp only[ek];rw[<-aac (k:=k) q h.lX f];cases g:dG (.int k) x e.key with|none=>simp|some b=>cases b with|true=>exact W ⟨_,_,rfl,rfl,W ⟨0,_,_,rfl,rfl,h.nk,f.1,e,rfl,f.2⟩⟩|false=>obtain⟨l,m⟩|⟨r,j,l,m,s⟩:=u hs<|i+1;(.refine N ⟨l,m.imp (λhd=>?_) id⟩;let⟨k1,k2,a,b,e1,e2⟩:=RG g;unfold ej;rw[e1,e2]at g⊢;apply aax n g 9999;grind);.exact W ⟨r,j,l,m,s.FM⟩);.refine N ⟨?_,N<|by unfold ej;exact rQ<|OF n f 9999⟩;simp[ek];cases g:dG (.int k) x e.key with|none=>rfl|some b=>let⟨k1,k2,a,b,e1,e2⟩:=RG g;rw[e1,e2]at f;exact zW ⟨n7,n7⟩ f
def QF(F:Fits ok P){t:z}(e:yb P t){k:O}{d b:L aF}(h:nN ok ρ d b)(hi:ρ.lB ok)(hk:jC ok ρ k v):jc ok P (G2 ok k d 0) ρ (fa t k d)<|fa t v b:=by
 unfold fa;refine pJ λu g=>?_;let⟨l,f⟩:=id e;rw[f]at g;cases g;obtain⟨c,a|a⟩|⟨r,j,c,a,i⟩:=aap e hk h 0;.rw[c];exact jc.mL a
 .rw[c,a];exact ahw F e h hi hk 0
 .rw[c,a];exact jc.jJ i
structure ED(P:T)(t:z):U where
 lX:∀k e,aO P t=some (.map k e)->yb P k
 rn:∀k e d v,aO P t=some (.map k e)->P.info? e=some d->d.zero=some v->Flat v
def afE(F:Fits ok P)(hi:ρ.lB ok){t:z}(h:ED P t){x k:O}(D:jC ok ρ x y)(hk:jC ok ρ k e)(c:I):jc ok P (VR ok) ρ (gX t x k c)<|gX t y e c:=by unfold gX;refine pJ λu n=>?_;cases u with|map key a=>simp[];(have tail:∀{j f:Z aF},nN ok ρ j.toList f.toList->∀b l:I,jc ok P (VR ok) ρ (do eZ b 10000 key k;match<-fa key k j.toList with|K (_,v)=>pure (if c then cd #[v,ae]else v)|B=>do let g<-zeroValue a;pure (if c then cd #[g,p]else g)) (do eZ l 10000 key e;match<-fa key e f.toList with|K (_,v)=>pure (if c then cd #[v,ae]else v)|B=>do let g<-zeroValue a;pure (if c then cd #[g,p]else g)):=by intro j f J b l;apply J4 (h.lX _ _ n) b l 9999;refine jc.jU (QF F (h.lX _ _ n) J hi hk) hi λE s w r X m=>?_;obtain⟨rfl,rfl⟩|⟨i,v,v',rfl,rfl,q,-,-⟩:=m;(.refine Ct (λd v G R=>h.rn _ _ d v n G R) λg o=>jc.jJ ?_;cases c;(.exact Flat.kV o);.exact .tuple<|.cons (Flat.kV o)<|.cons (.bool _) .nil);.refine jc.jJ ?_;cases c;(.exact q);.exact .tuple<|.cons q<|.cons (.bool _) .nil);(cases D with|sF=>exact tail .nil _ _|uF C r=>exact Hx C|map m=>exact Ft m (λS y' cl H=>(tail H _ _)) λ_ _ _ _=>jc.jN _ _|_=>exact jc.jN _ _)|_=>exact jc.jN _ _
def agS(hi:ρ.lB ok)(n:V){x:O}(r:jC ok ρ x v)(q:jC ok ρ y c)(nx:xg x)(C:xg y):aoF n x y=aoF n v c:=by
 have pt:∀{a f b d:ah},lT ρ a f->lT ρ b d->((K a==K b)=(K f==K d)):=by intro a f b d s w;let⟨k,F,D⟩:=a;let⟨h,u,t⟩:=f;let⟨m,G,sb⟩:=b;let⟨g,o,l⟩:=d;obtain⟨i,rfl,rfl⟩:=s;obtain⟨j,rfl,rfl⟩:=w;simp at i j;by_cases e:k=m;(.subst e;have:=hi.fn i j;grind);.have E:h≠g:=λx=>e<|hi.inj (x▸i) j;grind
 cases n<;>cases r<;>first|exact zW nx id|(cases q<;>first|rfl|exact zW C id|exact pt ‹_› ‹_›)
def WM(F:Fits ok P)(hi:ρ.lB ok){t:z}(S:ED P t){x k v:O}(hx:jC ok ρ x y)(hk:jC ok ρ k b)(hv:jC ok ρ v c):jc ok P UR ρ (gY t x k v)<|gY t y b c:=by unfold gY;refine pJ λu hu=>?_;cases u with|map key aa=>simp[];(cases hx with|sF=>exact jc.mL<|aga _|uF hh r=>exact Hx hh|@map r0 s C=>refine Ft C (λR y' cl o=>?_) λ_ _ _ _=>jc.jN _ _;simp[];apply J4 (S.lX _ _ hu) _ _ 9999;refine jc.jU (QF F (S.lX _ _ hu) o hi hk) hi λl a g r r' E=>?_;obtain⟨rfl,rfl⟩|⟨j,w,w',rfl,rfl,hw,J,en,am,al⟩:=E;(.simp[];refine W<|W ⟨_,_,_,_,_,rfl,rfl,a _ _ C,?_,jc.jJ n7⟩;simp[Array.toList_push];exact(o.jh a).tn<|.cons ⟨hk.jh a,hv.jh a,rfl⟩ .nil);.simp[];generalize ac:0+j=i;(obtain rfl:i=j:=by omega);(have G:xg (((R[i]?).map (·.key)).getD k):=pC);(have X:jC ok l (((R[i]?).map (·.key)).getD k) (((y'[i]?).map (·.key)).getD b):=by obtain⟨D,H⟩|⟨e,e',D,H,h3⟩:=(o.jh a).get? i;(.grind);.simp[Array.getElem?_toList]at D H;rw[D,H];exact h3.lX);(have fin:∀{d:jG},l.le d->d.lB ok->∀{q m:O},jC ok d q m->jc ok P UR d (setObj r0<|.map (R.modify i λe=>{e with key:=q,val:=v}) cl) (setObj s<|.map (y'.modify i λe=>{e with key:=m,val:=c}) cl):=by intro d h ad q m hq;refine W<|W ⟨_,_,_,_,_,rfl,rfl,h _ _<|a _ _ C,?_,jc.jJ n7⟩;simp[Array.toList_modify];exact nN.ajI (f:=λe=>{e with key:=q,val:=v}) (f':=λe=>{e with key:=m,val:=c}) (o.jh<|a.jA h) (λe e' he=>⟨hq,hv.jh<|a.jA h,he.ID⟩) i);unfold Instr.keyThatStays;rw[agS g 10000 X (hk.jh a) G J];split;(.exact fin (jG.le.nH _) g<|hk.jh a);.simp only[ee];refine LQ λn=>?_;simp[eh];split;(.exact fin (jG.le.nH _) g<|hk.jh a);.exact fin (jG.le.nH _) g X|_=>exact jc.jN _ _)|_=>exact jc.jN _ _
def agQ(F:Fits ok P)(hi:ρ.lB ok){ts:Z z}{t:z}(b:∀s,ts[0]?=K s->ED P s){x q:Z O}(o:jW ok ρ x q):jc ok P (VR ok) ρ (gZ ts t x)<|gZ ts t q:=by unfold gZ;cases e0:ts[0]? with|none=>exact jc.jN _ _|some s=>have b:=b s e0;obtain⟨d,c⟩|⟨m,X,d,c,E⟩:=o.get? 0;(.simp[d,c];exact jc.jN _ _);obtain⟨e,h⟩|⟨k,J,e,h,hk⟩:=o.get? 1;(.simp[d,c,e,h];exact jc.jN _ _);simp[d,c,e,h];refine pJ λu f=>?_;cases u with|map key v=>simp[];(cases E with|sF=>exact J4 (b.lX _ _ f) _ _ 9999<|jc.jJ<|.tuple .nil|uF H r=>exact Hx H|@map r0 G g=>refine Ft g (λy R cl n=>?_) λ_ _ _ _=>jc.jN _ _;simp[];apply J4 (b.lX _ _ f) _ _ 9999;refine jc.jU (QF F (b.lX _ _ f) n hi hk) hi λD a C r S j=>?_;obtain⟨rfl,rfl⟩|⟨i,w,w',rfl,rfl,hw⟩:=j;(.simp[];exact W<|W ⟨_,_,_,_,_,rfl,rfl,a _ _ g,n.jh a,jc.jJ<|.tuple .nil⟩);.simp only[];refine W<|W ⟨_,_,_,_,_,rfl,rfl,a _ _ g,?_,jc.jJ<|.tuple .nil⟩;(have el:∀l:Z aF,(l.eraseIdxIfInBounds i).toList=l.toList.eraseIdx i:=λl=>F0);rw[Nat.zero_add,el,el];exact(n.jh a).amB i|_=>exact jc.jN _ _)|_=>exact jc.jN _ _
def ajB(hi:ρ.lB ok){ts:Z z}{t:z}{x E:Z O}(F:jW ok ρ x E):jc ok P (VR ok) ρ (hJ ts t x)<|hJ ts t E:=by unfold hJ;cases e0:ts[0]? with|none=>exact jc.jN _ _|some s=>obtain⟨q,v⟩|⟨m,m',q,v,hm⟩:=F.get? 0;(.simp[q,v];exact jc.jN _ _);obtain⟨C,y⟩|⟨k,k',C,y,hk⟩:=F.get? 1;(.simp[q,v,C,y];exact jc.jN _ _);simp[q,v,C,y];refine pJ λu hu=>?_;cases u with|slice D=>(cases hm with|qd n c=>simp[];refine jc.jU (Qd hk) hi λo g f a b d=>?_;let⟨d,i⟩:=d;subst d;exact vA λH _=>(jc.jU (GZ f (hk.jh g) _ _ λe=>by rw[i e];simp) f λl j h w G r=>(jc.jJ<|.int _ _))|slice S n c=>simp[];refine jc.jU (Qd hk) hi λo g f a b d=>?_;let⟨d,i⟩:=d;subst d;exact vA λH _=>(jc.jU (GZ f (hk.jh g) _ _ λe=>by rw[i e];simp) f λl j h w G r=>(jc.jU (Is (S.jh<|g.jA j) r 0) h λJ R X _ _ _=>jc.jJ (.int _ _)))|dead a'=>simp only[];refine jc.jU (ahu hk) hi λo g f a b d=>?_;subst d;refine vA λH _=>?_;rw[show a.min 0=0 from Nat.min_zero a];refine jc.jU (TP (hk.jh g) _) f λl j h w G r=>?_;obtain⟨rfl,rfl⟩:=r;exact jc.jJ<|.int _ _|_=>exact jc.jN _ _)|_=>exact jc.jN _ _
def aex(hi:ρ.lB ok){ts:Z z}{t:z}(D:∀s e d v,ts[0]?=K s->aO P s=K (.slice e)->P.info? e=K d->d.zero=K v->Flat v){x i:Z O}(w:jW ok ρ x i):jc ok P (VR ok) ρ (ia ts t x)<|ia ts t i:=by unfold ia;cases e0:ts[0]? with|none=>exact jc.jN _ _|some s=>obtain⟨b,g⟩|⟨m,S,b,g,C⟩:=w.get? 0;(.simp[b,g];exact jc.jN _ _);simp[b,g];refine pJ λu F=>?_;cases C with|sF=>exact jc.jJ<|.tuple .nil|uF G r=>exact Hx G|qd n c=>exact jc.jJ<|.tuple .nil|dead a'=>exact jc.jJ<|.tuple .nil|map h=>exact Ft h (λy J R X=>W<|W ⟨_,_,_,_,_,rfl,rfl,h,.nil,jc.jJ<|.tuple .nil⟩) λ_ _ _ _=>jc.jN _ _|slice q n c=>(cases n with|zero=>exact jc.jJ<|.tuple .nil|succ n=>cases u with|slice a=>simp[];exact Ct (λd v j o=>D s a d v e0 F j o) λH f=>(jc.jU (Is q (LM f _) 0) hi λE k l _ _ _=>jc.jJ (.tuple .nil))|_=>exact jc.jN _ _)|_=>exact jc.jN _ _
end
section
variable{ok:jO}{ρ ρ':jG}{P:T}
def Mp(P:T)(op:bU)(t:z)(nil:I):U:=match op with|.add|.sub|.mul|.quo|.rem|.lss|.leq|.gtr|.geq=>yb P t|.eql|.neq=>(∃d,d<=100/\EE P d t)\/(I3 P t/\nil=ae)|_=>False
def Xh(F:Fits ok P)(hi:ρ.lB ok){t:z}{nil:I}(a:(∃d,d<=100/\EE P d t)\/(I3 P t/\nil=ae)){x:O}(c:jC ok ρ x v)(e:jC ok ρ y b)(g:nil=ae->uE x\/uE y):jc ok P ER ρ (cD t x y)<|cD t v b:=by
 unfold cD fK;obtain⟨d,hd,a⟩|⟨a,f⟩:=a;.exact alK F d hi a c e 10000 A
 .exact adJ a c e (g f) 9999
def Bu:O->U|eQ|eV _ _=>True|_=>False
def Ny{t:z}{nil:I}(b:(∃d,d<=100/\EE P d t)\/(I3 P t/\nil=ae)){x:O}(h:Bu x\/Bu y):mU P<|cD t x y:=by
 unfold cD fK;have j:¬(xg x/\xg y):=by rintro⟨g,m⟩;obtain h|h:=h;(.cases x<;>first|exact h.elim|exact g);.cases y<;>first|exact h.elim|exact m
 obtain⟨d,hd,b⟩|⟨b,i⟩:=b;.cases d with|zero=>exact b.elim|succ d=>obtain b|f|⟨len,e,l,i⟩:=b;(.exact OF b j 9999);(.unfold aZ;refine Hr λu c=>?_;rw[f]at c;cases c;obtain h|h:=h;(.cases x<;>first|exact h.elim|exact ur _);.cases y<;>first|exact h.elim|(cases x<;>exact ur _));.unfold aZ;refine Hr λu c=>?_;rw[l]at c;cases c;obtain h|h:=h;(.cases x<;>first|exact h.elim|exact ur _);.cases y<;>first|exact h.elim|(cases x<;>exact ur _)
 .unfold aZ;refine Hr λu c=>?_;(have n:∀o:n6 ah,o=B\/∃a,o=K a:=λo=>by cases o<;>simp);obtain⟨e,rfl⟩|⟨e,rfl⟩|⟨k,e,rfl⟩:=b u c<;>obtain h|h:=h;(.cases x<;>first|exact h.elim|exact ur _);(.cases y<;>first|exact h.elim|(cases x with|pointer o=>cases o<;>exact ur _|_=>exact ur _));(.cases x<;>first|exact h.elim|exact ur _);(.cases y<;>first|exact h.elim|(cases x with|slice o _ _=>cases o<;>exact ur _|_=>exact ur _));(.cases x<;>first|exact h.elim|exact ur _);.cases y<;>first|exact h.elim|(cases x with|map o=>cases o<;>exact ur _|_=>exact ur _)
def aiX(F:Fits ok P)(hi:ρ.lB ok)(k:cO){a j b i:ah}(n:lT ρ a j)(u:lT ρ b i):jc ok P (VR ok) ρ (do ib k (<-bI a).1 (<-bI b).1) (do ib k (<-bI j).1 (<-bI i).1):=by refine jc.jU (Dk hi n) hi λl g e y q h=>?_;refine jc.jU (Dk e (u.jh g)) e λo f d v q2 c=>?_;unfold ib;refine jc.jU (V8 F d (h.1.jh f) c.1) d λt m s x w r=>?_;subst r;exact jc.jJ (.int _ _)
def X3(F:Fits ok P)(hi:ρ.lB ok)(op:bU){a j b i:ah}(m:lT ρ a j)(t:lT ρ b i):jc ok P (VR ok) ρ (do ic op (<-bI a).1 (<-bI b).1) (do ic op (<-bI j).1 (<-bI i).1):=by refine jc.jU (Dk hi m) hi λk g e w q h=>?_;refine jc.jU (Dk e (t.jh g)) e λn f d u q2 c=>?_;unfold ic;refine jc.jU (V8 F d (h.1.jh f) c.1) d λs l r x v o=>?_;subst o;dsimp only;split<;>first|exact jc.jJ (.bool _)|exact jc.jN _ _
def aaG(hi:ρ.lB ok)(k:cO){a f:ah}(r:lT ρ a f)(n:Y):jc ok P (VR ok) ρ (do ig k (<-bI a).1 n) (do ig k (<-bI f).1 n):=by refine jc.jU (Dk hi r) hi λo l b t q d=>?_;unfold ig;refine I6 d.1.1 λs=>?_;cases s with|none=>exact jc.jN _ _|some e=>let⟨e,c⟩:=e;dsimp only;refine Bf λi _=>?_;split;(.exact jc.jN _ _);.refine jc.jU (Ik b d.1) b λg h j x u m=>?_;subst m;exact jc.jJ (.int _ _)
def UA(hi:ρ.lB ok)(t:z)(b:yb P t){o a:n6 ah}(c:jC ok ρ (ax o) (ax a))(e:jC ok ρ y v):jc ok P (VR ok) ρ (do if(<-underlying t)matches .unsafePointer then movedPointer t (ax o) y else movedNumber t (ax o) y) (do if(<-underlying t)matches .unsafePointer then movedPointer t (ax a) v else movedNumber t (ax a) v):=by refine pJ λd hd=>?_;let⟨k,hk⟩:=b;rw[hk]at hd;cases hd;dsimp only;simp[aT,DP];exact Jg hi t c e
def G0{op:bU}(t:z)(a b:ByteArray):jc ok P (VR ok) ρ (binOp op t (dB a)<|dB b)<|binOp op t (dB a)<|dB b:=by cases op<;>first|exact jc.jJ<|.bool _|exact jc.jN _ _|(show jc ok P (VR ok) ρ (if((a.size+b.size))>IntKind.i64.max then _ else _) (if((a.size+b.size))>IntKind.i64.max then _ else _);split;(.exact jc.jN _ _);.exact jc.jJ<|.string _)
def GA{op:bU}(h:op≠.shl/\op≠.shr/\op≠.and/\op≠.or/\op≠.xor/\op≠.andNot)(t:z)(k c:cO)(a b:Y):jc ok P (VR ok) ρ (binOp op t (aX k a)<|aX c b)<|binOp op t (aX k a)<|aX c b:=by let⟨g,j,i,f,d,e⟩:=h;cases op<;>first|exact zW rfl g|exact zW rfl j|exact zW rfl i|exact zW rfl f|exact zW rfl d|exact zW rfl e|(show jc ok P (VR ok) ρ (if k≠c then _ else _) (if k≠c then _ else _);split;(.exact jc.jN _ _);.first|exact VB _ _ _ _|exact Zc _ _ _ _|exact akV _ _ _)
def abG(F:Fits ok P)(hi:ρ.lB ok){t:z}(f:yb P t){x:O}(g:jC ok ρ x v)(d:jC ok ρ y c):jc ok P (VR ok) ρ (binOp .add t x y)<|binOp .add t v c:=by cases g with|int k a=>(cases d with|int e b=>exact GA E1 t k e a b|su=>exact Jg hi t .su<|.int k a|ptr h=>exact Jg hi t (.ptr h)<|.int k a|_=>exact jc.jN _ _)|su=>(cases d with|int e b=>exact UA hi t f .su<|.int e b|_=>exact jc.jN _ _)|ptr h=>(cases d with|int e b=>exact UA hi t f (.ptr h)<|.int e b|_=>exact jc.jN _ _)|string s=>(cases d with|string u=>exact G0 _ _ _|_=>exact jc.jN _ _)|_=>cases d<;>exact jc.jN _ _
def Yx(F:Fits ok P)(hi:ρ.lB ok){t:z}(i:yb P t){x:O}(g:jC ok ρ x v)(d:jC ok ρ y c):jc ok P (VR ok) ρ (binOp .sub t x y)<|binOp .sub t v c:=by cases g with|int k a=>(cases d with|int e b=>exact GA E1 t k e a b|_=>exact jc.jN _ _)|su=>(cases d with|int e b=>exact Jg hi t .su<|.int e<|-b|_=>exact jc.jN _ _)|ptr h=>(cases d with|int e b=>exact Jg hi t (.ptr h)<|.int e<|-b|ptr f=>exact aiX F hi _ h f|_=>exact jc.jN _ _)|string s=>(cases d with|string u=>exact G0 _ _ _|_=>exact jc.jN _ _)|_=>cases d<;>exact jc.jN _ _
def Rh(F:Fits ok P)(hi:ρ.lB ok){op:bU}(f:op=.mul\/op=.quo){t:z}{x:O}(g:jC ok ρ x v)(d:jC ok ρ y c):jc ok P (VR ok) ρ (binOp op t x y)<|binOp op t v c:=by obtain rfl|rfl:=f<;>(cases g with|int k a=>(cases d with|int e b=>exact GA E1 t k e a b|_=>exact jc.jN _ _)|string s=>(cases d with|string u=>exact G0 _ _ _|_=>exact jc.jN _ _)|_=>cases d<;>exact jc.jN _ _)
def ZW(F:Fits ok P)(hi:ρ.lB ok){t:z}{x:O}(f:jC ok ρ x v)(d:jC ok ρ y c):jc ok P (VR ok) ρ (binOp .rem t x y)<|binOp .rem t v c:=by cases f with|int k a=>(cases d with|int e b=>exact GA E1 t k e a b|_=>exact jc.jN _ _)|ptr h=>(cases d with|int e b=>exact aaG hi _ h _|_=>exact jc.jN _ _)|string s=>(cases d with|string u=>exact G0 _ _ _|_=>exact jc.jN _ _)|_=>cases d<;>exact jc.jN _ _
def Kf(F:Fits ok P)(hi:ρ.lB ok){op:bU}(g:op=.lss\/op=.leq\/op=.gtr\/op=.geq){t:z}{x:O}(i:jC ok ρ x v)(d:jC ok ρ y c):jc ok P (VR ok) ρ (binOp op t x y)<|binOp op t v c:=by obtain rfl|rfl|rfl|rfl:=g<;>(cases i with|int k a=>(cases d with|int e b=>exact GA E1 t k e a b|_=>exact jc.jN _ _)|ptr h=>(cases d with|ptr f=>exact X3 F hi _ h f|_=>exact jc.jN _ _)|string s=>(cases d with|string u=>exact G0 _ _ _|_=>exact jc.jN _ _)|_=>cases d<;>exact jc.jN _ _)
def Xu(F:Fits ok P)(hi:ρ.lB ok){op:bU}(j:op=.eql\/op=.neq){t:z}{x:O}(i:jC ok ρ x v)(f:jC ok ρ y c)(key:jc ok P ER ρ (cD t x y) (cD t v c))(d:Bu x\/Bu y->mU P (cD t x y)):jc ok P (VR ok) ρ (binOp op t x y) (binOp op t v c):=by
 have k1:jc ok P (VR ok) ρ (do pure (<-cD t x y)) (do pure (<-cD t v c)):=jc.jU key hi λ_ _ _ a b e=>by subst e;exact jc.jJ (.bool _)
 have k2:jc ok P (VR ok) ρ (do pure (!(<-cD t x y))) (do pure (!(<-cD t v c))):=jc.jU key hi λ_ _ _ a b e=>by subst e;exact jc.jJ (.bool _)
 obtain rfl|rfl:=j<;>(cases i with|int k a=>(cases f with|int g b=>exact GA E1 t k g a b|mj h=>exact jc.mL (rQ (d (W n7)))|tag _ _ _ h=>exact jc.mL (rQ (d (W n7)))|iface _ h _=>exact jc.mL (rQ (d (W n7)))|_=>first|exact k1|exact k2)|string s=>(cases f with|string u=>exact G0 _ _ _|mj h=>exact jc.mL (rQ (d (W n7)))|tag _ _ _ h=>exact jc.mL (rQ (d (W n7)))|iface _ h _=>exact jc.mL (rQ (d (W n7)))|_=>first|exact k1|exact k2)|mj h=>cases f<;>exact jc.mL (rQ (d (N n7)))|tag _ _ _ h=>cases f<;>exact jc.mL (rQ (d (N n7)))|iface _ h _=>cases f<;>exact jc.mL (rQ (d (N n7)))|_=>cases f with|mj h=>exact jc.mL (rQ (d (W n7)))|tag _ _ _ h=>exact jc.mL (rQ (d (W n7)))|iface _ h _=>exact jc.mL (rQ (d (W n7)))|_=>first|exact k1|exact k2)
def adH(F:Fits ok P)(hi:ρ.lB ok){op:bU}{t:z}{nil:I}(d:Mp P op t nil){x:O}(a:jC ok ρ x v)(c:jC ok ρ y b)(e:nil=ae->uE x\/uE y):jc ok P (VR ok) ρ (binOp op t x y)<|binOp op t v b:=by cases op with|add=>exact abG F hi d a c|sub=>exact Yx F hi d a c|mul=>exact Rh F hi (N rfl) a c|quo=>exact Rh F hi (W rfl) a c|rem=>exact ZW F hi a c|lss=>exact Kf F hi (N rfl) a c|leq=>exact Kf F hi (W<|N rfl) a c|gtr=>exact Kf F hi (W<|W<|N rfl) a c|geq=>exact Kf F hi (W<|W<|W rfl) a c|eql=>exact Xu F hi (N rfl) a c (Xh F hi d a c e)<|Ny d|neq=>exact Xu F hi (W rfl) a c (Xh F hi d a c e)<|Ny d|_=>exact d.elim
end
section
variable{ok:jO}{ρ ρ':jG}{P:T}
def mV(ok:jO):bV->U|.tmp _=>True|.const v=>Flat v|.global g=>ok.n9/\g<ok.gs|.func f=>ok.fn f
def tL(ok:jO)(ρ:jG):U:=ok.n9->∀g,g<ok.gs->ρ g g
def tL.jh(h:tL ok ρ)(b:ρ.le ρ'):tL ok ρ':=λx g a=>b _ _<|h x g a
def CF(ok:jO)(ρ:jG)(e a:bV->O):U:=(∀x,mV ok x->jC ok ρ (e x) (a x))/\∀v,e (.const v)=v/\a (.const v)=v
def IK{fr a:M}(d:tL ok ρ)(c:jW ok ρ fr.tmps a.tmps):CF ok ρ fr.eval a.eval:=by refine⟨λx b=>?_,λv=>⟨rfl,rfl⟩⟩;cases x with|tmp t=>exact c.getD t .sg|const v=>exact Flat.kV b|global g=>exact .ptr ⟨d b.1 g b.2,rfl,rfl⟩|func f=>exact .func b .nil .nil
def CF.map{e b:bV->O}(h:CF ok ρ e b){l:Z bV}(a:∀x∈l,mV ok x):jW ok ρ (l.map e)<|l.map b:=by let⟨l⟩:=l;unfold jW;simp only[aoG];replace a:∀x∈l,mV ok x:=λx d=>a x (by simpa using d);induction l with|nil=>exact .nil|cons x g f=>exact .cons (h.1 x<|a x F0)<|f λy c=>a y (by simp[c])
def CF.Ie{e c:bV->O}(h:CF ok ρ e c){l:Z<|V×bV}(b:∀x∈l,mV ok x.2):IZ ok ρ (l.map λa=>(a.1,e a.2)).toList (l.map λa=>(a.1,c a.2)).toList:=by let⟨l⟩:=l;simp only[aoG];replace b:∀x∈l,mV ok x.2:=λx f=>b x (by simpa using f);induction l with|nil=>exact n7|cons x i d=>exact⟨rfl,h.1 _<|b x F0,d λy g=>b y (by simp[g])⟩
def CF.opt{e a:bV->O}(h:CF ok ρ e a){o:n6 bV}(b:∀x,o=K x->mV ok x):za ok ρ (o.map e)<|o.map a:=by cases o with|none=>exact N ⟨rfl,rfl⟩|some x=>exact W ⟨_,_,rfl,rfl,h.1 x<|b x rfl⟩
def ZF(P:T)(t:z):U:=∀d v,P.info? t=K d->d.zero=K v->Flat v
def ZE(P:T)(t:z):U:=∀e d v,aO P t=K (.slice e)->P.info? e=K d->d.zero=K v->Flat v
def TD(P:T)(s:z)(i:V):U:=∀fs f d,aO P s=K (.struct fs)->fs[i]?=K f->P.info? f.type=K d->d.size≠0
def Lk:bV->U|.const v=>uE v|_=>False
def P8(P:T)(op:bU)(t:z):U:=(op=.eql\/op=.neq)->P.eqGuardType P.depth t=p/\∀d,aO P t=K d->∀a,d≠.interface a
def K8(P:T)(b:Builtin)(ts:Z z):U:=match b with|.append=>(∀s,ts[0]?=K s->ZE P s)/\∀x d,ts[1]?=K x->aO P x=K d->(∃e,d=.slice e)\/∃k,d=.int k|.cap|.len|.copy=>True|.clear=>∀s,ts[0]?=K s->ZE P s|.delete=>∀s,ts[0]?=K s->ED P s|_=>False
def Sr(ok:jO)(P:T)(c:Call):U:=(∀x∈c.args,mV ok x)/\match c.callee with|.value f=>mV ok f|.builtin b=>K8 P b c.argTypes|.invoke _ _=>False
def qh(ok:jO)(P:T)(o:eu):U:=match o.op with|.move x|.assign x|.box _ x|.load _ x|.nilCheck x|.extract x _=>mV ok x|.panic _=>True|.makeInterface t x=>t≠ok.mG/\∃v,x=.const v/\Flat v|.pick c a b=>mV ok c/\mV ok a/\mV ok b|.alloc t=>ZF P t|.build t ps=>ZF P t/\∀e∈ps,mV ok e.2|.buildSlice t _ ps=>ZE P t/\∀e∈ps,mV ok e.2|.store _ a x|.indexAddr _ a x=>mV ok a/\mV ok x|.binOp op t x y _=>mV ok x/\mV ok y/\P8 P op t/\∃nil,Mp P op t nil/\(nil=ae->Lk x\/Lk y)|.unOp op _ x=>(op=.not\/op=.neg)/\mV ok x|.makeFunc fn first d=>(∃f,fn=.func f/\ok.fn f)/\(∀x∈first,mV ok x)/\∀x∈d,mV ok x|.makeMap _ r=>r=B|.makeSlice t l c=>ZE P t/\mV ok l/\mV ok c|.slice t x lo h g=>MN P t/\mV ok x/\(∀y,lo=K y->mV ok y)/\(∀y,h=K y->mV ok y)/\∀y,g=K y->mV ok y|.fieldAddr s x i=>TD P s i/\mV ok x|.lookup t x k _=>ED P t/\mV ok x/\mV ok k|.mapUpdate t m k v|.insert t m k v=>ED P t/\mV ok m/\mV ok k/\mV ok v|.call c=>Sr ok P c|_=>False
inductive KM(ok:jO)(ρ:jG):Next->Next->U|value{v v':O}(h:jC ok ρ v v'):KM ok ρ (.value v)<|.value v'|skip:KM ok ρ .skip .skip|enter{f:bn}(hf:ok.fn f){x x':Z O}(h:jW ok ρ x x'):KM ok ρ (.enter f x)<|.enter f x'
abbrev NR(ok:jO):jG->Next->Next->U:=λρ=>KM ok ρ
def qa(ok:jO)(P:T):U:=∀f,ok.fn f->∃fn,P.funcs[f]?=K fn/\fn.body.isNone=p/\(fn.name== "runtime.NumGoroutine")=p
def ua(hi:ρ.lB ok){m d:Sem O}(h:jc ok P (VR ok) ρ m d):jc ok P (NR ok) ρ (do pure (.value (<-m))) (do pure (.value (<-d))):=jc.jU h hi λ_ _ _ a b c=>jc.jJ (.value c)
def On(hi:ρ.lB ok){m c:Sem Unit}(h:jc ok P UR ρ m c):jc ok P (NR ok) ρ (do m;pure .skip) (do c;pure .skip):=jc.jU h hi λ_ _ _ a b d=>jc.jJ .skip
def aiu(x:O):mU P<|aoH x:=by unfold aoH;cases x with|iface t v=>exact ur _|nilIface=>(have c1:Calm P aoI:=by unfold aoI;refine Calm.jU (λw h a e=>by cases e) λr=>?_;cases r<;>first|exact Calm.jU UY λ_=>Calm.sI _|exact Oe _);refine FT c1 λn=>?_;split;(.exact ur _);.show mU P (runtimePanic .panicNil);unfold runtimePanic;refine ahb<|FT ?_ λ_=>FT (λw h a e=>by cases e) λ_=>ur _;unfold elemOf;(refine Calm.jU ?_ λd=>by cases d<;>first|exact Calm.sI _|exact Oe _);unfold underlying;refine Calm.jU UY λb=>?_;split;(.exact Calm.sI _);.exact Oe _|_=>exact ur _
def aiI(F:Fits ok P)(hi:ρ.lB ok){b:Builtin}{ts:Z z}(c:K8 P b ts)(t:z)(l f:Z I){x k:Z O}(a:jW ok ρ x k):jc ok P (NR ok) ρ (builtin b ts t l x)<|builtin b ts t f k:=by cases b with|append=>exact ua hi<|alh hi (λs e d v h i g j=>c.1 s h e d v i g j) c.2 a|cap=>exact ua hi<|ajR hi a|len=>exact ua hi<|ahA hi a|copy=>exact ua hi<|ajB hi a|clear=>exact ua hi<|aex hi (λs e d v h i g j=>c s h e d v i g j) a|delete=>exact ua hi<|agQ F hi c a|_=>exact c.elim
def alP(g:qa ok P){f:bn}(b:ok.fn f){x a:Z O}(d:jW ok ρ x a):jc ok P (NR ok) ρ (dH f x)<|dH f a:=by let⟨fn,h,c,e⟩:=g f b;unfold dH;apply DI;rw[h];simp only[c,e,aT,DP];exact jc.jJ<|.enter b d
def Ys(F:Fits ok P)(o:qa ok P)(hi:ρ.lB ok){e h:bV->O}(k:CF ok ρ e h){c:Call}(s:Sr ok P c)(t:z):jc ok P (NR ok) ρ (do let d<-resolve e c t;invoke d.target d.args) (do let d<-resolve h c t;invoke d.target d.args):=by let⟨u,g⟩:=s;unfold resolve;have l:=k.map u;cases a:c.callee with|builtin b=>rw[a]at g;exact aiI F hi g t _ _ l|invoke r m=>grind|value f=>rw[a]at g;have j:=k.1 f g;simp only[];generalize e f=v at j;generalize h f=w at j;cases j with|func i n q=>show jc ok P (NR ok) ρ (dH _ _) (dH _ _);exact alP o i (jW.tn (jW.tn n l) q)|mj _=>exact jc.mL IE|_=>exact jc.jN _ _
def ajs{op:bU}{t:z}(s:P8 P op t)(x l:bV){a b:O}(u:jC ok ρ a v)(j:jC ok ρ b y){m o:Type}{R:jG->m->o->U}{f:Unit->Sem m}{e:Unit->Sem o}(h:jc ok P R ρ (f ())<|e ())(w:op=.eql\/op=.neq->Bu a\/Bu b->mU P (f ())):jc ok P R ρ (eqGuard op t x l a b>>=f)<|eqGuard op t x l v y>>=e:=by
 have q:(∀d,aO P t=K d->∀r,d≠.interface r)->∀(k i:I->Sem Unit),jc ok P R ρ (k p>>=f) (i p>>=e)->jc ok P R ρ ((aoJ fK t dt dt>>=k)>>=f) ((aoJ fK t dt dt>>=i)>>=e):=by intro n k i hk;show jc ok P R ρ (((underlying t>>=_)>>=k)>>=f) (((underlying t>>=_)>>=i)>>=e);simp only[ee];refine pJ λd hd=>?_;grind
 by_cases g:op=.eql\/op=.neq;.let⟨D,n⟩:=s g;by_cases c:Bu a\/Bu b;(.refine jc.mL ?_;have hd:=w g c;rcases c with c|c;(.cases a<;>first|exact c.elim|(rcases g with rfl|rfl<;>exact hd));.cases b<;>first|exact c.elim|(rcases g with rfl|rfl<;>cases a<;>exact hd));rcases g with rfl|rfl<;>(cases u with|nilIface=>(cases j with|nilIface=>(cases x<;>cases l<;>first|exact h|exact q n _ _ h)|mj _=>exact zW (W n7) c|tag _ _ _ _=>exact zW (W n7) c|iface _ _ _=>exact zW (W n7) c|_=>exact h)|agg E=>(cases j with|agg C=>show jc ok P R ρ ((program>>=_)>>=f) ((program>>=_)>>=e);simp only[ee];refine DI<|DI ?_;grind|mj _=>exact zW (W n7) c|tag _ _ _ _=>exact zW (W n7) c|iface _ _ _=>exact zW (W n7) c|_=>exact h)|mj _=>exact zW (N n7) c|tag _ _ _ _=>exact zW (N n7) c|iface _ _ _=>exact zW (N n7) c|_=>cases j with|mj _=>exact zW (W n7) c|tag _ _ _ _=>exact zW (W n7) c|iface _ _ _=>exact zW (W n7) c|_=>exact h)
 .unfold eqGuard;grind
def ajC{op:bU}(d:op=.eql\/op=.neq){t:z}{nil:I}(e:Mp P op t nil){a b:O}(c:Bu a\/Bu b):mU P<|binOp op t a b:=by rcases d with rfl|rfl;all_goals have:=Ny e c;rcases c with c|c;(.cases a<;>first|exact c.elim|exact rQ this);.cases b<;>first|exact c.elim|(cases a<;>exact rQ this)
def uE.of{x:bV}{e:bV->O}(a:∀v,e (.const v)=v)(h:Lk x):uE<|e x:=by cases x with|const v=>rw[a];exact h|_=>exact h.elim
def Q3(F:Fits ok P)(ac:qa ok P)(hi:ρ.lB ok){e G:bV->O}(j:CF ok ρ e G){o:eu}(g:qh ok P o):jc ok P (NR ok) ρ (cF e o)<|cF G o:=by let⟨aa,op,w,pos,J,guard⟩:=o;cases op with|move x=>exact jc.jJ<|.value<|j.1 x g|assign x=>exact jc.jJ<|.value<|j.1 x g|pick c a b=>refine jc.jU (aiH<|j.1 c g.1) hi λad C al x y H=>?_;subst H;refine jc.jJ<|.value ?_;cases x;(.exact(j.1 b g.2.2).jh C);.exact(j.1 a g.2.1).jh C|alloc t=>exact ua hi<|Y7 t g hi|box t x=>exact ua hi<|ama hi (j.1 x g) t|build t ps=>exact ua hi<|afF g.1 (j.Ie g.2) hi|buildSlice t n ps=>exact ua hi<|abJ g.1 n (j.Ie g.2) hi|load t x=>exact ua hi<|ahf hi (j.1 x g) t|store t a x=>exact On hi<|ahB hi (j.1 a g.1) (j.1 x g.2) t|nilCheck x=>have q:=j.1 x g;unfold cF;dsimp only;generalize e x=v at q;generalize G x=v' at q;(cases q with|su=>exact jc.mL IE|mj _=>exact jc.mL IE|nilIface=>exact jc.mL IE|bool b=>exact jc.jJ<|.value<|.bool b|int k n=>exact jc.jJ<|.value<|.int k n|string s=>exact jc.jJ<|.value<|.string s|ptr h=>exact jc.jJ<|.value<|.ptr h|qd n c=>exact jc.jJ<|.value<|.qd n c|slice h n c=>exact jc.jJ<|.value<|.slice h n c|dead a=>exact jc.jJ<|.value<|.dead a|sF=>exact jc.jJ<|.value .sF|map h=>exact jc.jJ<|.value<|.map h|func R q hy=>exact jc.jJ<|.value<|.func R q hy|agg q=>exact jc.jJ<|.value<|.agg q|tuple q=>exact jc.jJ<|.value<|.tuple q|uF hh r=>exact jc.jJ<|.value<|.uF hh r|iface t h u=>exact jc.jJ<|.value<|.iface t h u|tag n S e h=>cases v' with|slice o n' c=>(cases o with|none=>exact h.elim|some a=>exact jc.jJ<|.value<|.tag n S e h)|pointer o=>(cases o with|none=>exact h.elim|some a=>exact jc.jJ<|.value<|.tag n S e h)|_=>exact h.elim)|binOp op t x y yt=>let⟨D,E,h3,nil,X,h5⟩:=g;apply ua hi;refine ajs h3 x y (j.1 x D) (j.1 y E) ?_ λg hj=>ajC g X hj;exact adH F hi X (j.1 x D) (j.1 y E) λu=>(h5 u).imp (uE.of λv=>(j.2 v).1) (uE.of λv=>(j.2 v).1)|unOp op t x=>exact ua hi<|Zd g.1<|j.1 x g.2|makeInterface t x=>obtain⟨u,v,rfl,hv⟩:=g;apply ua hi;rw[(j.2 v).1,(j.2 v).2];unfold Instr.makeInterface;refine pJ λd hd=>?_;(cases d<;>first|exact jc.jJ<|.iface _ hv u|exact jc.jN _ _)|makeFunc fn x y=>obtain⟨⟨f,rfl,R⟩,D,E⟩:=g;exact ua hi<|aca R (j.map D)<|j.map E|makeMap t r=>cases g;exact ua hi<|Yv hi t|makeSlice t l c=>exact ua hi<|ahk hi g.1 (j.1 l g.2.1)<|j.1 c g.2.2|slice t x lo hg mx=>exact ua hi<|aaO hi g.1 (j.1 x g.2.1) (j.opt g.2.2.1) (j.opt g.2.2.2.1)<|j.opt g.2.2.2.2|fieldAddr s x i=>exact ua hi<|Zw hi g.1<|j.1 x g.2|indexAddr t x i=>exact ua hi<|ahV hi (j.1 x g.1)<|j.1 i g.2|lookup t x k c=>exact ua hi<|afE F hi g.1 (j.1 x g.2.1) (j.1 k g.2.2) c|mapUpdate t m k v=>exact On hi<|WM F hi g.1 (j.1 m g.2.1) (j.1 k g.2.2.1)<|j.1 v g.2.2.2|insert t m k v=>exact On hi<|WM F hi g.1 (j.1 m g.2.1) (j.1 k g.2.2.1)<|j.1 v g.2.2.2|extract x i=>exact ua hi<|acN (j.1 x g) i|call c=>exact Ys F ac hi j g w|panic x=>exact jc.mL<|rQ<|aiu _|_=>exact g.elim
end
section
variable{ok:jO}{ρ ρ':jG}{P:T}
def jV(P:T):L M->Sem (L M)|[]=>stuck ""|fr::d=>match fr.mode with|.run=>(match fr.todo with|[]|aP .ret::_=>pure ({fr with mode:=dP}::d)|aP .skip::k|fc _::k=>pure ({fr with todo:=k}::d)|aP (.seq a b)::k=>pure ({fr with todo:=aP a::aP b::k}::d)|aP (.cond c x y)::k=>(match fr.eval c with|fx b=>pure ({fr with todo:=aP (if b then x else y)::k}::d)|_=>stuck "")|aP (.block id b)::k=>pure ({fr with todo:=aP b::fc id::k}::d)|aP (.loop b)::k|ey b::k=>pure ({fr with todo:=aP b::ey b::k}::d)|aP (.exit id)::k=>(match ez id k with|K h=>pure ({fr with todo:=h}::d)|B=>stuck "")|aP (.region id ops e)::k=>if !e then pure ({fr with todo:=bY ops (aoK ops)::k}::d)else do let t<-choose (.order fr.fn id);pure ({fr with todo:=bY ops (Region.schedule (P.follows .mixedOrders) ops t)::k}::d)|bY _ []::k=>pure ({fr with todo:=k}::d)|bY ops (i::_)::_=>(match ops[i]? with|B=>pure (fr.finish eX::d)|K o=>if Region.wanted o (eF ops fr.tmps)then do match<-cF fr.eval o with|.value v=>pure (fr.finish v::d)|.skip=>pure (fr.finish eX::d)|.enter f g=>pure (dI P f g cU::fr::d)|_=>stuck ""else pure (fr.finish eX::d))|_=>stuck "")|dP=>(match d,P.funcs[fr.fn]? with|c::d,K fn=>do let v<-cV fn fr.tmps;pure (c.finish v::d)|_,_=>stuck "")|_=>stuck ""
def te(ok:jO)(P:T):Code->U|.skip|.exit _|.ret|.refuse _=>True|.region _ ops _=>∀o∈ops,qh ok P o|.seq a b=>te ok P a/\te ok P b|.cond c a b=>mV ok c/\te ok P a/\te ok P b|.block _ c|.loop c=>te ok P c|_=>False
def Fi(ok:jO)(P:T):cG->U|aP c|ey c=>te ok P c|fc _=>True|bY ops _=>∀o∈ops,qh ok P o|_=>False
structure sw(ok:jO)(P:T):U where
 mI:qa ok P
 code:∀f fn c,ok.fn f->P.funcs[f]?=some fn->fn.body=some c->te ok P c
def JF:cG->U|aP _|fc _|ey _|bY _ _=>True|_=>False
def Fi.x8{i:cG}(h:Fi ok P i):JF i:=by cases i<;>first|exact n7|exact h
def xK(ok:jO)(P:T)(l:L M):U:=∀f∈l,(∃fn,P.funcs[f.fn]?=K fn)/\(∀i∈f.todo,Fi ok P i)/\(f.mode=.run\/f.mode=dP)
def Pv(ok:jO)(P:T)(o:eu):U:=∃f b ts,o.op=.call ⟨.value<|.func f,b,ts⟩/\(∀a∈b,mV ok a)/\∃fn,P.funcs[f]?=K fn/\fn.body.isNone=p/\(fn.name== "runtime.NumGoroutine")=p
def aaK{fr a:M}(q:tL ok ρ)(r:jW ok ρ fr.tmps a.tmps){o:eu}(k:Pv ok P o):jc ok P (λρ n m=>∃f x g,n=.enter f x/\m=.enter f g/\jW ok ρ x g) ρ (cF fr.eval o)<|cF a.eval o:=by let⟨f,h,ts,e,b,fn,j,s,l⟩:=k;let⟨i,op,d,pos,c,guard⟩:=o;simp at e;subst e;show jc ok P _ ρ (dH f<|#[]++h.map fr.eval++#[]) (dH f<|#[]++h.map a.eval++#[]);unfold dH;apply DI;rw[j];simp only[s,l,aT,DP];exact jc.jJ ⟨f,_,_,rfl,rfl,jW.tn (jW.tn jW.pU<|(IK q r).map b) jW.pU⟩
def KX(ok:jO)(P:T):cG->U|aP (.cond c _ _)=>mV ok c|bY ops (i::_)=>∀o,ops[i]?=K o->qh ok P o\/Pv ok P o|_=>True
def wH(ok:jO)(P:T):L M->U|fr::_=>fr.mode=.run->∀it k,fr.todo=it::k->KX ok P it|[]=>True
def Fi.Dw{i:cG}(h:Fi ok P i):KX ok P i:=by
 unfold KX;split;.exact h.1
 .exactλo a=>N<|h o<|eG a
 .exact n7
def xK.Dw{l:L M}(h:xK ok P l):wH ok P l:=by cases l with|nil=>exact n7|cons f l=>exactλ_ it k e=>((h f F0).2.1 it<|by rw[e];simp).Dw
structure qD(ok:jO)(P:T)(ρ:jG)(fr fr':M):U where
 fn:fr'.fn=fr.fn
 BY:fr'.todo=fr.todo
 x8:∀i∈fr.todo,JF i
 sj:jW ok ρ fr.tmps fr'.tmps
 rv:fr'.mode=fr.mode
 MR:fr.roundOf=none
 yp:fr'.roundOf=none
 qS:fr.defers=[]
 rm:fr.kind=cU
 zP:fr'.kind≠ij
structure Plain(fr:M):U where
 qS:fr.defers=[]
 rm:fr.kind=cU
inductive ql(ok:jO)(P:T)(ρ:jG):L M->L M->U|one{f f':M}(h:qD ok P ρ f f'):ql ok P ρ [f] [f']|cons{f f':M}(h:qD ok P ρ f f')(hp:Plain f'){l l':L M}(hs:ql ok P ρ l l'):ql ok P ρ (f::l)<|f'::l'
def qD.jh(b:ρ.le ρ'){f a:M}(h:qD ok P ρ f a):qD ok P ρ' f a:={h with sj:=h.sj.jh b}
def ql.jh(a:ρ.le ρ'){l:L M}(h:ql ok P ρ l o):ql ok P ρ' l o:=by induction h with|one h=>exact .one<|h.jh a|cons h b _ c=>exact .cons (h.jh a) b c
def UM{X:cG->U}{id:V}{k a:L cG}(h:∀i∈k,X i)(e:ez id k=K a):∀i∈a,X i:=by induction k with|nil=>cases e|cons x k b=>cases x with|inBlock c=>simp[ez]at e;grind|_=>exact b (λi hi=>h i<|ik _ hi) e
def aih{v:O}(h:jC ok ρ v x)(b:I):v=b↔x=b:=by cases h with|mj h=>(cases x<;>first|exact zW h id|simp)|tag _ _ _ h=>(cases x<;>first|exact zW h id|simp)|_=>simp
def akC{x e:Z O}(h:jW ok ρ x e)(ops:Z eu):eF ops x=eF ops e:=by funext j;unfold eF;cases(ops[j]?).bind (·.dst)with|none=>rfl|some d=>simp[aoL];obtain⟨a,b⟩|⟨v,c,a,b,f⟩:=h.get? d;(.rw[a,b]);.rw[a,b];cases f with|mj h=>(cases c<;>first|exact zW h id|rfl)|tag _ _ _ h=>(cases c<;>first|exact zW h id|rfl)|_=>rfl
def qD.xT{fr j:M}(h:qD ok P ρ fr j){v:O}(y:jC ok ρ v x):qD ok P ρ (fr.finish v)<|j.finish x:=by let⟨fn,f,t,o,u,kind,round⟩:=fr;let⟨w,e,g,n,r,q,yp⟩:=j;have s:=h.BY;simp at s;subst s;cases g with|nil=>exact h|cons i k=>cases i with|inRegion ops l=>(cases l with|nil=>exact h|cons i rest=>refine{h with BY:=rfl,x8:=?_,sj:=?_};(.intro it m;obtain rfl|m:=aoM.1 m;(.exact n7);.exact h.x8 it<|by simp[m]);.show jW ok ρ (match(ops[i]?).bind (·.dst)with|K d=>aM f d v|B=>f) (match(ops[i]?).bind (·.dst)with|K d=>aM e d x|B=>e);cases(ops[i]?).bind (·.dst)with|none=>exact h.sj|some d=>exact h.sj.uy y d)|code c=>exact h|inBlock id=>exact h|inLoop c=>exact h|inScope c=>exact h|inRangeFunc l=>exact(h.x8 _<|dQ ..).elim|endRangeFunc l=>exact h|beginRound=>exact(h.x8 _<|dQ ..).elim|call d a b c=>exact(h.x8 _<|dQ ..).elim|extern a b=>exact(h.x8 _<|dQ ..).elim
def Plain.xT{fr:M}(h:Plain fr)(v:O):Plain<|fr.finish v:=by let⟨fn,d,c,a,b,kind,round⟩:=fr;unfold eH;split<;>exact⟨h.qS,h.rm⟩
def ql.xT{f a:M}{l:L M}(h:ql ok P ρ (f::l)<|a::o){v:O}(b:jC ok ρ v x):ql ok P ρ (f.finish v::l)<|a.finish x::o:=by cases h with|one h=>exact .one<|h.xT b|cons h c hs=>exact .cons (h.xT b) (c.xT _) hs
def ql.top{f a:M}{l:L M}(h:ql ok P ρ (f::l)<|a::o):qD ok P ρ f a:=by cases h with|one h=>exact h|cons h=>exact h
def ql.lh{f b g a:M}{l:L M}(h:ql ok P ρ (f::l)<|b::o)(c:qD ok P ρ g a)(e:Plain b->Plain a):ql ok P ρ (g::l)<|a::o:=by cases h with|one h=>exact .one c|cons h d hs=>exact .cons c (e d) hs
abbrev LR(ok:jO)(P:T):jG->L M->L M->U:=λρ=>ql ok P ρ
def ail(hi:ρ.lB ok){k:Type}{g j:k->Sem O}(l:L k)(h:∀ρ',ρ.le ρ'->ρ'.lB ok->∀a,jc ok P (VR ok) ρ' (g a) (j a)):jc ok P (λρ a b=>kH ok ρ a b) ρ (l.mapM g)<|l.mapM j:=by induction l generalizing ρ with|nil=>exact jc.jJ .nil|cons x t o=>simp[aoB];exact jc.jU (h ρ (jG.le.nH _) hi x) hi λm i d v s q=>(jc.jU (o d λe c f=>h e (i.jA c) f) d λe c f y r n=>(jc.jJ<|.cons (q.jh c) n))
def Sg(hi:ρ.lB ok)(fn:Func){x j:Z O}(h:jW ok ρ x j):jc ok P (VR ok) ρ (cV fn x)<|cV fn j:=by
 unfold cV;rw[gF,gF];simp only[bind_map_left];refine jc.jU (ail hi _ λi c d r=>?_) hi λi c d y o f=>?_;.cases r with|tmp t=>exact jc.jJ<|(h.jh c).getD t .sg|cell a t=>exact jc.jU (amr<|(h.jh c).getD a .sg) d λk m e b n l=>TJ e l t
 .refine jc.jJ ?_;have q:=f.Mb;by_cases g:y.length=1;(.rw[dif_pos<|by simpa using g,dif_pos<|by simpa using A];cases f with|nil=>cases g|cons h hs=>exact h);.rw[dif_neg<|by simpa using g,dif_neg<|by simpa using A];exact .tuple f
def qD.Of{f:bn}{x a:Z O}(h:jW ok ρ x a):qD ok P ρ (dI P f x cU)<|dI P f a cU:=by
 refine⟨rfl,rfl,?_,?_,rfl,rfl,rfl,rfl,rfl,by simp[dI]⟩;.intro i hi;simp[dI,dR]at hi;subst hi;exact n7
 .simp[dI];rw[h.jB];apply h.tn;unfold jW;refine kH.L5 rfl λi v c e1 e2=>?_;rw[e1]at e2;cases e2;have:=List.getElem?_eq_some_iff.1 e1;obtain⟨b,rfl⟩:=this;simp[Array.toList_replicate,List.getElem_replicate];exact .sg
def agG(C:sw ok P){f:bn}(b:ok.fn f)(x:Z O):xK ok P [dI P f x cU]:=by
 let⟨fn,a,j,k⟩:=C.mI f b;obtain⟨c,h⟩:∃c,fn.body=K c:=by cases e:fn.body with|none=>simp[e]at j|some c=>simp
 intro g d;simp[dR]at d;subst d;refine⟨⟨fn,a⟩,λi hi=>?_,N rfl⟩;simp[dI,a,h,aoL,Option.getD_some,dR]at hi;subst hi;exact C.code f fn c b a h
def FK(F:Fits ok P)(al:qa ok P)(hi:ρ.lB ok)(hg:tL ok ρ){l:L M}(h:ql ok P ρ l r)(hd:wH ok P l):jc ok P (LR ok P) ρ (jV P l)<|jV P r:=by cases l with|nil=>exact jc.jN _ _|cons fr cs=>cases r with|nil=>cases h|cons aa D=>have j:=h.top;let⟨fn,J,ad,s,ac,kind,round⟩:=fr;let⟨w,G,C,m,d,E,yp⟩:=aa;have e1:=j.fn;have e2:=j.BY;have e3:=j.rv;simp at e1 e2 e3;subst e1 e2 e3;have lh:∀{k:L cG},(∀i∈k,JF i)->ql ok P ρ (⟨w,J,k,s,d,kind,round⟩::cs) (⟨w,G,k,m,d,E,yp⟩::D):=λ{k}hk=>h.lh {j with BY:=rfl,x8:=hk} λu=>⟨u.qS,u.rm⟩;unfold jV;cases d with|panicking c=>exact jc.jN _ _|run=>simp[];have q:=j.x8;simp at q;(cases C with|nil=>exact jc.jJ<|h.lh {j with rv:=rfl} λu=>⟨u.qS,u.rm⟩|cons it k=>have R:=hd rfl it k rfl;have hk:=λi hi=>q i<|ik _ hi;cases it with|code c=>(cases c with|skip=>exact jc.jJ<|lh hk|ret=>exact jc.jJ<|h.lh {j with rv:=rfl} λu=>⟨u.qS,u.rm⟩|seq a b=>exact jc.jJ<|lh<|ay.2 ⟨n7,ay.2 ⟨n7,hk⟩⟩|cond c x y=>have hc:=(IK hg j.sj).1 c R;simp at hc⊢;generalize dJ _ c=v at hc⊢;generalize dJ _ c=v' at hc⊢;(cases hc with|bool b=>exact jc.jJ<|lh<|ay.2 ⟨n7,hk⟩|_=>exact jc.jN _ _)|block id b=>exact jc.jJ<|lh<|ay.2 ⟨n7,ay.2 ⟨n7,hk⟩⟩|loop b=>exact jc.jJ<|lh<|ay.2 ⟨n7,ay.2 ⟨n7,hk⟩⟩|exit id=>simp[];(cases e:ez id k with|none=>exact jc.jN _ _|some k'=>exact jc.jJ<|lh<|UM hk e)|region id ops X=>simp[];(cases X with|false=>exact jc.jJ<|lh<|ay.2 ⟨n7,hk⟩|true=>exact LQ λt=>jc.jJ (lh<|ay.2 ⟨n7,hk⟩))|_=>exact jc.jN _ _)|inBlock id=>exact jc.jJ<|lh hk|inLoop b=>exact jc.jJ<|lh<|ay.2 ⟨n7,ay.2 ⟨n7,hk⟩⟩|inRegion ops l=>(cases l with|nil=>exact jc.jJ<|lh hk|cons i rest=>simp[];cases eo:ops[i]? with|none=>exact jc.jJ<|h.xT .sg|some o=>simp[];rw[<-akC j.sj ops];split;(.obtain ho|ho:=R o eo;(.refine jc.jU (Q3 F al hi (IK hg j.sj) ho) hi λS g H n n' hn=>?_;cases hn with|value hv=>exact jc.jJ<|(h.jh g).xT hv|skip=>exact jc.jJ<|(h.jh g).xT .sg|enter hf hx=>exact jc.jJ<|.cons (qD.Of hx) ⟨rfl,rfl⟩<|h.jh g);.refine jc.jU (aaK hg j.sj ho) hi λS g H n n' hn=>?_;obtain⟨f,x,x',rfl,rfl,hx⟩:=hn;exact jc.jJ<|.cons (qD.Of hx) ⟨rfl,rfl⟩<|h.jh g);.exact jc.jJ<|h.xT .sg)|_=>exact jc.jN _ _)|returning=>simp[];cases cs with|nil=>exact jc.jN _ _|cons c cs=>cases h with|cons h1 hp hs=>cases D with|nil=>cases hs|cons c' D=>cases ef:P.funcs[w]? with|none=>exact jc.jN _ _|some f=>simp[];exact jc.jU (Sg hi f j.sj) hi λS g H v v' hv=>jc.jJ ((hs.jh g).xT hv)
end
section
open Go.Conc Go.ConcN Go.RowKit Go.Conc.Lib Go.ConcR.Gen Go.ConcN.Gen
open Go.ConcR(KK wgBlock WgAt stA smA rd wr mk Payload DC0)
variable[cH]{L:WgLink}{P:T}
def aji(P:T)(ty:z)(Wg:V)(Stop:aj->Q->U):aj->Q->U:=uR P (.acquire<|stA Wg)<|oY P ty Wg Stop
def NY(P:T)(ty:z)(Wg:V)(Stop:aj->Q->U):aj->Q->U:=uR P .enable<|oY P ty Wg<|aji P ty Wg Stop
def acm(P:T)(ty:z)(Wg:V)(Stop:aj->Q->U)(g:aj)(w:Q):U:=g.status=bC/\(cN ty Wg w 0 0->∃a,ak P ae g w=.go a w #[rd<|stA Wg]/\oY P ty Wg (NY P ty Wg Stop) a w)
def Sa(P:T)(ty:z)(Wg:V)(Stop:aj->Q->U)(g:aj)(w:Q):U:=g.status=bC/\g.offers=B/\((∃st,cN ty Wg w st 0)->ak P ae g w=.go {g with status:=iG} w #[])/\(cN ty Wg w 0 1->∃a,ak P ae g w=.go a (w (smA Wg)<|aX .u32 0) (semEvents<|smA Wg)/\oY P ty Wg (acm P ty Wg Stop) a (w (smA Wg)<|aX .u32 0))
def Cas(P:T)(ty:z)(Wg:V)(AA Stop:aj->Q->U)(vs:V)(g:aj)(w:Q):U:=g.status=bC/\∀v:V,v<2147483648->cN ty Wg w (v*KK) 0->(v=vs->∃a,ak P ae g w=.go a (w (stA Wg)<|aX .u64<|v*KK+1) #[rd<|stA Wg,wr<|stA Wg]/\oY P ty Wg (uR P (.write<|smA Wg)<|oY P ty Wg<|Sa P ty Wg Stop) a (w (stA Wg)<|aX .u64<|v*KK+1))/\(v≠vs->∃a,ak P ae g w=.go a w #[rd<|stA Wg]/\oY P ty Wg AA a w)
def JY(P:T)(ty:z)(Wg:V)(AA Stop:aj->Q->U)(g:aj)(w:Q):U:=g.status=bC/\∀v:V,v<2147483648->cN ty Wg w (v*KK) 0->∃a,ak P ae g w=.go a w #[rd<|stA Wg]/\(v=0->oY P ty Wg (NY P ty Wg Stop) a w)/\(v≠0->oY P ty Wg (Cas P ty Wg AA Stop v) a w)
section
variable{Wg:V}{Stop:aj->Q->U}{b₀:M}{a₀:Act}{ops₀:Z eu}{i₀:V}{rest₀:List V}{k₀:List cG}{cs:List M}{mT:V}
def AA(L:WgLink)(Wg:V)(c:M)(cs:List M):aj->Q->U:=AnchWN L (λ_=>True) Wg c cs
end
end
section
open Go.Conc(G)
variable{P:T}
def Sd(fn:bn):seen P fn #[]=#[]:=by simp[seen]
def sK{i l:Type}(m:Sem i)(f:i->Sem l)(w:Q)(e:Z ao):(m>>=f).runT P w e=match m.runT P w e with|(ar a g,d)=>(f a).runT P g d|(de h g,d)=>(de h g,d):=by show(m.bind f).runT P w e=_;induction m generalizing w e with|pure a=>rfl|load j a k b=>simp only[bQ,ai];grind|store j a v k b=>(cases v with|agg x=>rfl|tuple x=>rfl|_=>simp only[bQ,ai];grind)|new o k b=>exact b _ _ _|shape r k b=>exact b _ _ _|freeze a n k b=>exact b _ _|frozen a k b=>exact b _ _ _|getObj r k b=>simp only[bQ,ai];grind|setObj r o k b=>simp only[bQ,ai];grind|choose q k b=>simp only[bQ,ai];grind|sys c k b=>exact b _ _ _|program k b=>exact b _ _ _|mark m k b=>exact b _ _|halt h=>rfl
def Lw(u:I)(base:L M){fr:M}(hr:fr.roundOf=B)(he:fr.kind≠ij)(hp:fr.mode=dP->Plain fr){w J:Q}{F:Z ao}(h:(jV P<|fr::H).runT P w #[]=(ar X J,F)):∃g m,X=g::m/\ak P u (G fr<|H++base) w=.go (G g<|m++base) J (seen P fr.fn F):=by
 let⟨fn,j,t,e,q,kind,round⟩:=fr;simp only at hr he hp⊢;subst hr;have d:∀{g:M}{m:L M},(bH<|g::m).runT P w #[]=(ar X J,F)->ak P u (G ⟨fn,j,t,e,q,kind,B⟩<|H++base) w=.go (G g<|m++base) w->∃g m,X=g::m/\ak P u (G ⟨fn,j,t,e,q,kind,B⟩<|H++base) w=.go (G g<|m++base) J (seen P fn F):=by intro g m h hs;simp only[ai,bO,Result.ok.injEq]at h;obtain⟨⟨rfl,rfl⟩,rfl⟩:=h;exact⟨g,m,rfl,by rw[hs,Sd]⟩
 cases q with|panicking c=>cases h|returning=>let⟨hd,hk⟩:=hp rfl;simp only at hd hk;subst hd hk;unfold jV at h;simp only at h;(cases H with|nil=>cases h|cons c H=>cases ef:P.funcs[fn]? with|none=>simp_all|some f=>rw[ef]at h;simp only at h;rw[sK]at h;cases er:(cV f j).runT P w #[]with|mk r R=>rw[er]at h;cases r with|halt x w1=>cases h|ok v w1=>simp only at h;cases h;refine⟨_,_,rfl,?_⟩;simp[G,ak,unwind,ef,(by simp_all:(cV f j).run P w=.ok v J),(by simp_all:(cV f j).events P w #[]=F),doReturn,fL])|run=>unfold jV at h;simp only at h;cases t with|nil=>exact d h (by simp[G,ak,aK])|cons it k=>cases it with|code c=>(cases c with|skip=>exact d h (by simp[G,ak,aK])|ret=>exact d h (by simp[G,ak,aK])|seq a b=>exact d h (by simp[G,ak,aK])|block id b=>exact d h (by simp[G,ak,aK])|loop b=>exact d h (by simp[G,ak,aK])|cond c x y=>simp only at h;(cases ec:dJ ⟨fn,j,aP (.cond c x y)::k,e,.run,kind,B⟩ c with|bool b=>rw[ec]at h;exact d h (by simp[G,ak,aK,ec])|_=>simp_all)|exit id=>simp only at h;(cases ex:ez id k with|none=>simp_all|some k'=>rw[ex]at h;exact d h (by simp[G,ak,aK,ex]))|region id ops S=>simp only at h;(cases S with|false=>exact d h (by simp[G,ak,aK])|true=>simp only[fg,aT,DP]at h;rw[sK]at h;simp only[choose,ai,eJ,aT,DP]at h;cases h;refine⟨_,_,rfl,?_⟩;simp[G,ak,aK,choose,dE,eJ,Sd])|_=>cases h)|inBlock id=>exact d h (by simp[G,ak,aK])|inLoop b=>exact d h (by simp[G,ak,aK])|inRegion ops l=>(cases l with|nil=>exact d h (by simp[G,ak,aK])|cons i rest=>simp only at h;cases D:ops[i]? with|none=>rw[D]at h;exact d h (by simp[G,ak,aK,D])|some o=>rw[D]at h;simp only at h;cases E:Region.wanted o (eF ops j)with|false=>rw[E]at h;exact d h (by simp[G,ak,aK,D,E])|true=>rw[E]at h;simp only[DE]at h;rw[sK]at h;(have hk:(kind==ij)=p:=by simpa using he);cases ex:(cF (dJ ⟨fn,j,bY ops (i::rest)::k,e,.run,kind,B⟩) o).runT P w #[]with|mk r R=>rw[ex]at h;cases r with|halt x w1=>cases h|ok n w1=>simp only at h;have C:=C7 Prod.fst ex;have s:=C7 Prod.snd ex;rw[fM]at C;replace s:Sem.events P (cF (dJ ⟨fn,j,bY ops (i::rest)::k,e,.run,kind,B⟩) o) w #[]=R:=s;cases n with|value v=>cases h;exact⟨_,_,rfl,by simp[G,ak,aK,eK,eM,eN,D,E,C,s,hk,fL]⟩|skip=>cases h;exact⟨_,_,rfl,by simp[G,ak,aK,eK,eM,eN,D,E,C,s,hk,fL]⟩|enter f aa=>cases h;exact⟨_,_,rfl,by simp[G,ak,aK,eK,eM,eN,D,E,C,s,hk,fL]⟩|_=>cases h)|_=>cases h
end
section
variable{ok:jO}{ρ ρ':jG}{P:T}
def _root_.Go.World.re(w:Q)(a:V->bu->V)(d:V):Q:={w with tape:=a,drawn:=d}
@[simp]theorem aox(w:Q)(b a:V->bu->V)(d D:V):(w.re b d).re a D=w.re a D:=rfl
def Oq(w:Q):w.re w.tape w.drawn=w:=rfl
@[simp]theorem Dt(w:Q)(a:V->bu->V)(d:V):(w.re a d).heap=w.heap:=rfl
@[simp]theorem Rk(w:Q)(a:V->bu->V)(d:V):(w.re a d).drawn=d:=rfl
@[simp]theorem WA(w:Q)(a:V->bu->V)(d:V):(w.re a d).tape=a:=rfl
def lF.re{w b:Q}(h:lF ok ρ w b)(e a:V->bu->V)(d c:V):lF ok ρ (w.re e d)<|b.re a c:=⟨h.inj,h.gs,h.rn,h.nU,h.kD⟩
def lF.Cw{w a:Q}(h:lF ok ρ w a)(b:V->bu->V)(d:V):lF ok ρ (w.re b d) a:=⟨h.inj,h.gs,h.rn,h.nU,h.kD⟩
def MT(w:Q)(b:V->bu->V)(d:V)(a:ah):aJ (w.re b d) a=aJ w a:=rfl
def amL(w:Q)(b:V->bu->V)(d:V)(a:ah):cA (w.re b d) a=cA w a:=rfl
section
variable{α β:Type}{R:jG->α->β->U}
def lF.akM{w e:Q}(h:lF ok ρ w e){a c:ah}(f:lT ρ a c)(b:I):∃s,w.farLoad P a b=.error (fZ s):=by let⟨o,j,g,i,d⟩:=h.nU f.1;unfold iO aoN;rw[g];cases d<;>exact⟨_,rfl⟩
def lF.acZ{w d:Q}(h:lF ok ρ w d){a c:ah}(f:lT ρ a c)(v:O)(b:I):∃s,w.farStore P a v b=.error (fZ s):=by let⟨o,i,e,j,g⟩:=h.nU f.1;unfold iP aoN;rw[e];cases g<;>exact⟨_,rfl⟩
def Ur(P:T)(m:Sem α)(w:Q)(g:V->bu->V)(d:V)(j:Z ao)(e:Z ao):Result α->U|de h _=>h.AZ|ar a w1=>d<=w1.drawn/\w1.tape=g/\∀f D,(∀i,d+i<w1.drawn->f (D+i)=g (d+i))->∀b,∃c,m.runT P (w.re f D) b=(ar a<|w1.re f<|D+(w1.drawn-d),b++c)/\e=j++c
def Ln(P:T)(m:Sem α)(w:Q):U:=∀b d c r a,m.runT P (w.re b d) c=(r,a)->Ur P m w b d c a r
def Mt(m:Sem α):∀{m':Sem β}{ρ:jG}{w wa:Q},jc ok P R ρ m m'->lF ok ρ w wa->Ln P m w:=by
 have E:∀{m:Sem α}{w:Q},mU P m->Ln P m w:=by intro m w hd C d J r g b;let⟨x,w',hx,hf⟩:=hd<|w.re C d;have:=fM P m (w.re C d) J;rw[b,hx]at this;simp only at this;subst this;exact hf
 induction m with|pure a=>intro m' ρ w wa h H C d J r g b;simp only[ai,bO]at b;obtain⟨rfl,rfl⟩:=b;exact⟨bh _,rfl,λG D X j=>⟨#[],by simp[ai],F0⟩⟩|load md ad k S=>intro m' ρ w wa h H;rcases h with h|⟨a',k',hm,rfl,ha,hk⟩;(.exact E h);subst hm;intro C d J r g b;simp only[ai,MT]at b;(cases hc:aJ w ad with|none=>obtain⟨s,hs⟩:=(H.Cw C d).akM ha<|aY==bP;rw[hc,hs]at b;simp only[bO]at b;obtain⟨rfl,rfl⟩:=b;exact n7|some v=>let⟨v',aB,hv⟩:=H.jP ha hc;rw[hc]at b;have:=S v (hk v v' hv) H C d _ r g b;cases r with|halt x w1=>exact this|ok a w1=>let⟨h1,h2,h3⟩:=this;refine⟨h1,h2,λG D X j=>?_⟩;obtain⟨F,g1,g2⟩:=h3 G D X<|j.push ⟨aN ad,p,aY==bP⟩;refine⟨#[⟨aN ad,p,aY==bP⟩]++F,?_,by rw[g2];simp⟩;simp only[ai,MT,hc,g1];simp)|store md ad v k S=>intro m' ρ w wa h H;rcases h with h|⟨a',v',k',hm,rfl,ha,hv,hk⟩;(.exact E h);subst hm;intro C d J r g b;(have key:(∀x,v≠du x)->(∀x,v≠cd x)->(match w.cell? ad with|K _=>if w.frozen? ad then(de (fy<|.unsafePointer "a write to bytes that a string shares")<|w.re C d,J)else k.runT P ((w ad v).re C d) (J.push ⟨aN ad,ae,aY==bP⟩)|B=>match(w.re C d).farStore P ad v (aY==bP)with|.ok (w,ac)=>k.runT P w (J++ac.toArray.map (⟨.cell ·,ae,aY==.atomic⟩))|.error h=>(de h<|w.re C d,J))=(r,g)->Ur P (dX aY ad v k) w C d J g r:=by intro n1 n2 b;cases hc:aJ w ad with|none=>obtain⟨s,hs⟩:=(H.Cw C d).acZ ha v<|aY==bP;rw[hc,hs]at b;simp[bO]at b;obtain⟨rfl,rfl⟩:=b;exact n7|some u=>rw[hc]at b;cases hf:cA w ad with|true=>simp[hf,DE,bO]at b;obtain⟨rfl,rfl⟩:=b;exact n7|false=>simp only[hf,aT,DP]at b;have:=S hk (Wp H ha hv hc hf).kV C d _ r g b;cases r with|halt x w1=>exact this|ok a w1=>let⟨h1,h2,h3⟩:=this;refine⟨h1,h2,λG D X j=>?_⟩;let⟨F,g1,g2⟩:=h3 G D X<|j.push ⟨aN ad,ae,aY==bP⟩;refine⟨#[⟨aN ad,ae,aY==bP⟩]++F,?_,by rw[g2];simp⟩;(have e:∀{x:Result α×Z ao},k.runT P (w.re G D ad v) (j.push ⟨aN ad,ae,aY==bP⟩)=x->(dX aY ad v k).runT P (w.re G D) j=x:=by intro x hx;cases v with|agg y=>grind|tuple y=>grind|_=>simp only[ai,MT,hc,amL,hf,aT,DP];exact hx);apply e;rw[show w.re G D ad v=(w ad v).re G D from rfl,g1];simp);(cases hv with|agg hx=>simp only[ai,bO]at b;obtain⟨rfl,rfl⟩:=b;exact n7|tuple hx=>simp only[ai,bO]at b;obtain⟨rfl,rfl⟩:=b;exact n7|_=>exact key (λx e=>by cases e) (λx e=>by cases e) b)|new o k S=>intro m' ρ w wa h H;rcases h with h|⟨o',k',rfl,ho,hk⟩;(.exact E h);intro C d J r g b;let⟨av,am,hi,al,D1⟩:=Wl H ho;simp only[ai]at b;have:=S w (hk av am hi _ _ al) D1.kV C d J r g b;(cases r with|halt x w1=>exact this|ok a w1=>exact⟨this.1,this.2.1,this.2.2⟩)|shape r k S=>intro m' ρ w wa h H;rcases h with h|⟨r',k',rfl,aa,hk⟩;(.exact E h);intro C d J r g b;have:=S _ (hk _) H C d J r g b;(cases r with|halt x w1=>exact this|ok a w1=>exact⟨this.1,this.2.1,this.2.2⟩)|freeze a n k S=>intro m' ρ w wa h H;exact E h|frozen a k S=>intro m' ρ w wa h H;rcases h with h|⟨a',k',rfl,hk⟩;(.exact E h);intro C d J r g b;have:=S _ (hk _<|cA wa a') H C d J r g b;(cases r with|halt x w1=>exact this|ok a w1=>exact⟨this.1,this.2.1,this.2.2⟩)|getObj r k S=>intro m' ρ w wa h H;rcases h with h|⟨hh,rfl⟩|⟨r',k',rfl,aa,hk,an⟩;(.exact E h);(.let⟨y,u,f,e⟩:=H.rn hh;intro C d J r g b;simp only[ai,Dt,e,bO]at b;obtain⟨rfl,rfl⟩:=b;exact n7);let⟨o,o',h1,h2,h3⟩:=H.nU aa;intro C d J r1 g b;simp only[ai,Dt,h1]at b;(have fin:o.isChan=p->∀{J:Z ao},(k o).runT P (w.re C d) (J.push ⟨aD r,p,p⟩)=(r1,g)->Ln P (k o) w->match r1 with|de h _=>h.AZ|ar a w1=>d<=w1.drawn/\w1.tape=C/\∀G D,(∀i,d+i<w1.drawn->G (D+i)=C (d+i))->∀j,∃F,(k o).runT P (w.re G D) (j.push ⟨aD r,p,p⟩)=(ar a<|w1.re G<|D+(w1.drawn-d),j++F)/\g=J++F:=by intro aw J b this;have:=this C d _ r1 g b;cases r1 with|halt x w1=>exact this|ok a w1=>refine⟨this.1,this.2.1,λG D X j=>?_⟩;let⟨F,g1,g2⟩:=this.2.2 G D X<|j.push ⟨aD r,p,p⟩;exact⟨#[⟨aD r,p,p⟩]++F,by rw[g1];simp,by rw[g2];simp⟩);(cases h3 with|cells hx t hf=>simp only[bO]at b;obtain⟨rfl,rfl⟩:=b;exact n7|map hx c=>have:=fin rfl b<|S _ (hk _ _ c hx) H;(cases r1 with|halt x w1=>exact this|ok a w1=>exact⟨this.1,this.2.1,λG D X j=>by simp only[ai,Dt,h1];exact this.2.2 G D X j⟩)|number ha l=>have:=fin rfl b<|S _ (an _ _ l ha) H;cases r1 with|halt x w1=>exact this|ok a w1=>exact⟨this.1,this.2.1,λG D X j=>by simp only[ai,Dt,h1];exact this.2.2 G D X j⟩)|setObj r o k S=>intro m' ρ w wa h H;rcases h with h|⟨hh,rfl⟩|⟨r',k',x,x',c,rfl,rfl,aa,he,hk⟩;(.exact E h);(.let⟨y,u,f,e⟩:=H.rn hh;intro C d J r g b;simp only[ai,Dt,e,bO]at b;obtain⟨rfl,rfl⟩:=b;exact n7);let⟨o1,o',h1,h2,h3⟩:=H.nU aa;intro C d J r1 g b;simp only[ai,Dt,h1]at b;(have nc:(∀x t f,w.heap[r]?≠K (bN x t f))->k.runT P (({w with heap:=aM w.heap r<|.map x c}).re C d) (J.push ⟨aD r,ae,p⟩)=(r1,g)->match r1 with|de h _=>h.AZ|ar a w1=>d<=w1.drawn/\w1.tape=C/\∀G D,(∀i,d+i<w1.drawn->G (D+i)=C (d+i))->∀j,∃F,k.runT P (({w with heap:=aM w.heap r<|.map x c}).re G D) (j.push ⟨aD r,ae,p⟩)=(ar a<|w1.re G<|D+(w1.drawn-d),j++F)/\g=J++F:=by intro hn b;have:=S hk (QC H aa he hn).kV C d _ r1 g b;cases r1 with|halt x w1=>exact this|ok a w1=>refine⟨this.1,this.2.1,λG D X j=>?_⟩;let⟨F,g1,g2⟩:=this.2.2 G D X<|j.push ⟨aD r,ae,p⟩;exact⟨#[⟨aD r,ae,p⟩]++F,by rw[g1];simp,by rw[g2];simp⟩);(cases h3 with|cells hx t hf=>simp only[bO]at b;obtain⟨rfl,rfl⟩:=b;exact n7|map hx c2=>have:=nc (λx t f e=>pC) b;(cases r1 with|halt x w1=>exact this|ok a w1=>exact⟨this.1,this.2.1,λG D X j=>by simp only[ai,Dt,h1];exact this.2.2 G D X j⟩)|number ha l=>have:=nc (λx t f e=>pC) b;cases r1 with|halt x w1=>exact this|ok a w1=>exact⟨this.1,this.2.1,λG D X j=>by simp only[ai,Dt,h1];exact this.2.2 G D X j⟩)|choose q k S=>intro m' ρ w wa h H;rcases h with h|⟨k',rfl,hk⟩;(.exact E h);intro C d J r g b;simp only[ai]at b;by_cases hq:q.forced=ae;(.rw[rW hq]at b;have:=S 0 (hk 0) H C d J r g b;cases r with|halt x w1=>exact this|ok a w1=>exact⟨this.1,this.2.1,λG D X j=>by simp only[ai,rW hq];exact this.2.2 G D X j⟩);(.rw[BW hq]at b;have:=S _ (hk _) H C (d+1) J r g b;cases r with|halt x w1=>exact this|ok a w1=>let⟨h1,h2,h3⟩:=this;refine⟨A,h2,λG D X j=>?_⟩;have h0:=X 0 A;simp only[iQ]at h0;let⟨F,g1,g2⟩:=h3 G (D+1) (λi hi=>by have:=X (i+1) A;grind) j;refine⟨F,?_,g2⟩;simp only[ai,BW hq,WA,Rk,h0];show(k<|q.cut<|C d q).runT P (w.re G<|D+1) j=_;simp only[WA,Rk]at g1;grind)|sys c k S=>intro m' ρ w wa h H;exact E h|program k S=>intro m' ρ w wa h H;rcases h with h|⟨k',rfl,hk⟩;(.exact E h);intro C d J r g b;have:=S P hk H C d J r g b;(cases r with|halt x w1=>exact this|ok a w1=>exact⟨this.1,this.2.1,this.2.2⟩)|mark mk k S=>intro m' ρ w wa h H;rcases h with h|⟨k',rfl,hm,hk⟩;(.exact E h);intro C d J r g b;simp only[ai]at b;have:=S hk H C d _ r g b;(cases r with|halt x w1=>exact this|ok a w1=>refine⟨this.1,this.2.1,λG D X j=>?_⟩;let⟨F,g1,g2⟩:=this.2.2 G D X<|j.push ⟨cf mk,p,ae⟩;exact⟨#[⟨cf mk,p,ae⟩]++F,by simp only[ai];rw[g1];simp,by rw[g2];simp⟩)|halt x=>intro m' ρ w wa h H C d J r g b;simp[ai,bO]at b;obtain⟨rfl,rfl⟩:=b;exact h
end
end
section
open Go.Conc(G)
variable{ok:jO}{ρ ρ':jG}{P:T}
inductive Safe(ok:jO)(P:T)(S:L M->Q->U):L M->Q->U|stop{l:L M}{w:Q}(h:S l w):Safe ok P S l w|step{l:L M}{w:Q}(hd:wH ok P l)(h:∀τ d,∃l' w' es,(jV P l).runT P (w.re τ d) #[]=(ar l' w',es))(hs:∀τ d l' w' es,(jV P l).runT P (w.re τ d) #[]=(ar l' w',es)->Safe ok P S l' w'):Safe ok P S l w
def jv:M:={fn:=0,tmps:=#[],todo:=[aP<|.refuse ""],defers:=[{target:=.nil,args:=#[]}],mode:=.run,kind:=cU}
def OU{fr:M}{w a:Q}{o:Outcome}(h:(ak P ae (G fr r) w).bare=.ended o a)(k:V)(m:il):runN P (k+1) (lone fr r w)≠bZ m:=by simp[runN];rw[step_lone_ended h];simp
def Hw{fr a:M}{w b:Q}(h:lone fr o w=lone a r b):fr=a/\o=r/\w=b:=by simp[lone,Machine.mk.injEq,Array.mk.injEq,List.cons.injEq,Goroutine.mk.injEq,and_true]at h;grind
def QB(P:T)(m:il):U:=∀k fr w,runN P k m=bZ (lone fr [jv] w)->∃c,fr.mode=fi c
def amx(v:O)(w:Q):QB P<|lone (jv.finish v) [] w:=by intro k fr a h;cases k with|zero=>simp[runN,fj]at h;have:=(Hw h).2.1;cases this|succ k=>exact zW h<|OU (by simp[G,ak,aK,jv,eH];exact⟨rfl,rfl⟩) k _
def age(c:L im)(w:Q):QB P<|lone (jv.raise c) [] w:=by intro k fr a h;cases k with|zero=>simp[runN,fj]at h;have:=(Hw h).2.1;cases this|succ k=>exact zW h<|OU (by simp[G,ak,unwind,callDeferred,jv,iq];exact⟨rfl,rfl⟩) k _
def abr(f:M)(c:L im):(∃a,(f.raise c).mode=fi a)/\(f.raise c).defers=f.defers/\(f.raise c).fn=f.fn:=by unfold iq;grind
def acJ(j:∀f∈X,f.defers=[]/\∃fn,P.funcs[f.fn]?=K fn):∀{fr:M}{c:L im}{w:Q},fr.mode=fi c->fr.defers=[]->(∃fn,P.funcs[fr.fn]?=K fn)->QB P (lone fr (X++[jv]) w):=by induction X with|nil=>intro fr c w b hd i k a e h;(cases k with|zero=>simp[runN,fj]at h;exact⟨c,(Hw h).1▸b⟩|succ k=>simp[runN,aoO]at h;rw[aoP ⟨b,hd,i⟩]at h;exact age c w k a e h)|cons f X l=>intro fr c w b hd i k a e h;cases k with|zero=>simp[runN,fj]at h;exact⟨c,(Hw h).1▸b⟩|succ k=>simp[runN,List.cons_append]at h;rw[aoP ⟨b,hd,i⟩]at h;have d:=j f F0;let⟨⟨r,m⟩,q,n⟩:=abr f c;exact l (λg o=>j g<|by simp[o]) m (au q d.1) (n▸d.2) k a e h
def ql.xM{l:L M}(hF:xK ok P l)(h:ql ok P ρ l o):∀f∈l,f.defers=[]/\∃fn,P.funcs[f.fn]?=K fn:=by
 have hd:∀f∈l,f.defers=[]:=by clear hF;induction h with|one h=>intro f a;simp[dR]at a;subst a;exact h.qS|cons h c hs b=>exact ay.2 ⟨h.qS,b⟩
 exactλf a=>⟨hd f a,(hF f a).1⟩
def xK.xT{f:M}{l:L M}(h:xK ok P<|f::l)(v:O):xK ok P<|f.finish v::l:=by have a:=h f F0;refine ay.2 ⟨?_,λg m=>h g<|by simp[m]⟩;let⟨fn,e,b,d,j,kind,round⟩:=f;cases b with|nil=>exact a|cons it k=>cases it with|inRegion ops l=>(cases l with|nil=>exact a|cons i rest=>exact⟨a.1,ay.2 ⟨a.2.1 (bY ops<|i::rest) F0,λx n=>a.2.1 x<|by simp[n]⟩,a.2.2⟩)|code c=>exact a|inBlock id=>exact a|inLoop c=>exact a|_=>exact(a.2.1 _<|dQ ..).elim
def agR(F:Fits ok P)(C:sw ok P){l:L M}(hL:ql ok P ρ l H)(hg:tL ok ρ){w wa:Q}(hW:lF ok ρ w wa)(hF:xK ok P l){l1:L M}{w1:Q}{S:Z ao}(d:(jV P l).runT P w #[]=(ar l1 w1,S)):xK ok P l1:=by cases l with|nil=>cases d|cons fr D=>(have ht:∃f',qD ok P ρ fr f':=by cases hL with|one h=>exact⟨_,h⟩|cons h=>exact⟨_,h⟩);let⟨f',ht⟩:=ht;have hf:=hF fr F0;have hc:xK ok P D:=λf h=>hF f (by simp[h]);(have fin:∀{v:O}{u:Q}{t:Z ao},(bH<|eH fr v::D).runT P u t=(ar l1 w1,S)->xK ok P l1:=by intro v u t h;cases h;exact hF.xT v);let⟨fn,s,G,q,E,kind,round⟩:=fr;(have lh:∀{k:L cG}{m:ir}{u:Q}{t:Z ao},(∀i∈k,Fi ok P i)->(m=.run\/m=dP)->(bH<|⟨fn,s,k,q,m,kind,round⟩::D).runT P u t=(ar l1 w1,S)->xK ok P l1:=by intro k m u t hk hm h;cases h;exact ay.2 ⟨⟨hf.1,hk,hm⟩,hc⟩);unfold jV at d;simp only at d;cases E with|panicking c=>cases d|returning=>(cases D with|nil=>cases d|cons c D=>cases ef:P.funcs[fn]? with|none=>grind|some f=>rw[ef]at d;simp only at d;rw[sK]at d;cases er:(cV f s).runT P w #[]with|mk r R=>rw[er]at d;cases r with|halt x u=>cases d|ok v u=>cases d;exact hc.xT v)|run=>have j:=hf.2.1;simp at j;cases G with|nil=>exact lh F0 (W rfl) d|cons it k=>have g:=j it<|dQ ..;have hk:=λi hi=>j i<|ik _ hi;cases it with|code c=>(cases c with|skip=>exact lh hk (N rfl) d|ret=>exact lh j (W rfl) d|seq a b=>exact lh (k:=aP a::aP b::k) (ay.2 ⟨g.1,ay.2 ⟨g.2,hk⟩⟩) (N rfl) d|block id b=>exact lh (k:=aP b::fc id::k) (ay.2 ⟨g,ay.2 ⟨n7,hk⟩⟩) (N rfl) d|loop b=>exact lh (k:=aP b::ey b::k) (ay.2 ⟨g,ay.2 ⟨g,hk⟩⟩) (N rfl) d|cond c x y=>simp only at d;split at d;(.rename_i b _;exact lh (ay.2 ⟨by cases b;exact g.2.2;exact g.2.1,hk⟩) (N rfl) d);.cases d|exit id=>simp only at d;split at d;(.rename_i e;exact lh (UM hk e) (N rfl) d);.cases d|region id ops J=>simp only at d;(cases J with|false=>exact lh (k:=bY ops (aoK ops)::k) (ay.2 ⟨g,hk⟩) (N rfl) d|true=>simp only[fg,aT,DP]at d;rw[sK]at d;simp[choose,ai,eJ,aT,DP]at d;cases d;exact ay.2 ⟨⟨hf.1,ay.2 ⟨g,hk⟩,N rfl⟩,hc⟩)|_=>cases d)|inBlock id=>exact lh hk (N rfl) d|inLoop b=>exact lh (k:=aP b::ey b::k) (ay.2 ⟨g,ay.2 ⟨g,hk⟩⟩) (N rfl) d|inRegion ops l=>(cases l with|nil=>exact lh hk (N rfl) d|cons i rest=>simp only at d;cases eo:ops[i]? with|none=>rw[eo]at d;exact fin d|some o=>rw[eo]at d;simp only at d;split at d;(.rw[sK]at d;cases ex:(cF (dJ ⟨fn,s,bY ops (i::rest)::k,q,.run,kind,round⟩) o).runT P w #[]with|mk r R=>rw[ex]at d;cases r with|halt x u=>cases d|ok n u=>let⟨al,b,ac,ad,_,aa,_⟩:=(FE _ (esa:=#[]) (Q3 F C.mI hW.inj (IK hg ht.sj)<|g o<|eG eo) (hW.re w.tape w.tape w.drawn w.drawn) ex λi hi=>rfl);cases aa with|value hv=>exact fin d|skip=>exact fin d|enter X hx=>cases d;exact ay.2 ⟨agG C X _ _<|dR.2 rfl,hF⟩);.exact fin d)|_=>cases d
def anX(F:Fits ok P)(C:sw ok P){fr:M}(hL:ql ok P ρ (fr::X) H)(hF:xK ok P<|fr::X)(hg:tL ok ρ){w wa:Q}(hW:lF ok ρ w wa){h:Halt}{w1:Q}{es:Z ao}(d:(jV P<|fr::X).runT P w #[]=(de h w1,es)):∀k j w',runN P (k+1) (lone fr (X++[jv]) w)=bZ (lone j [jv] w')->∃c,j.mode=fi c:=by
 have E:h.AZ:=by have:=Mt (jV P<|fr::X) (FK F C.mI hW.inj hg hL hF.Dw) hW w.tape w.drawn #[] _ _ d;exact this
 have ad:=hL.xM hF;have am:=hF fr F0;have ht:∃f',qD ok P ρ fr f':=by cases hL with|one h=>exact⟨_,h⟩|cons h=>exact⟨_,h⟩
 let⟨f',ht⟩:=ht;let⟨ac,q⟩:=(ad fr F0).2;have e:∀{o:Outcome}{S:Q},(ak P ae (G fr<|X++[jv]) w).bare=.ended o S->∀k j w',runN P (k+1) (lone fr (X++[jv]) w)=bZ (lone j [jv] w')->∃c,j.mode=fi c:=λhe k j w' h=>zW h<|OU he k _;let⟨fn,t,al,av,aC,kind,round⟩:=fr;have e1:=ht.MR;have e2:=ht.qS;have e3:=ht.rm;simp only at e1 e2 e3 q;subst e1 e2 e3;rcases am.2.2 with hm|hm;.simp at hm;subst hm;unfold jV at d;simp only at d;have J:=am.2.1;simp at J;cases al with|nil=>cases d|cons it k=>have aa:=J it<|dQ ..;cases it with|code c=>(cases c with|skip=>cases d|ret=>cases d|seq a b=>cases d|block id b=>cases d|loop b=>cases d|cond c x y=>simp only at d;(cases ec:dJ ⟨fn,t,aP (.cond c x y)::k,[],.run,cU,B⟩ c with|bool b=>rw[ec]at d;cases d|_=>exact e (by simp[G,ak,aK,ec];exact⟨rfl,rfl⟩))|exit id=>simp only at d;(cases ex:ez id k with|some k'=>rw[ex]at d;cases d|none=>exact e (by simp[G,ak,aK,ex];exact⟨rfl,rfl⟩))|region id ops an=>simp only at d;(cases an with|false=>cases d|true=>simp only[fg,aT,DP]at d;rw[sK]at d;simp only[choose,ai,eJ,aT,DP]at d;cases d)|refuse m=>exact e (by simp[G,ak,aK];exact⟨rfl,rfl⟩)|_=>exact aa.elim)|inBlock id=>cases d|inLoop b=>cases d|inRegion ops l=>(cases l with|nil=>cases d|cons i rest=>simp only at d;cases eo:ops[i]? with|none=>rw[eo]at d;cases d|some o=>rw[eo]at d;simp only at d;cases ew:Region.wanted o (eF ops t)with|false=>rw[ew]at d;cases d|true=>rw[ew]at d;simp only[DE]at d;rw[sK]at d;cases ex:(cF (dJ ⟨fn,t,bY ops (i::rest)::k,[],.run,cU,B⟩) o).runT P w #[]with|mk r aB=>rw[ex]at d;have D:=C7 Prod.fst ex;rw[fM]at D;simp only at D;cases r with|ok n S=>have hn:=FE _ (esa:=#[]) (Q3 F C.mI hW.inj (IK hg ht.sj)<|aa o<|eG eo) (hW.re w.tape w.tape w.drawn w.drawn) ex λi hi=>rfl;let⟨aI,b,aG,aL,_,aw,_⟩:=hn;(cases aw with|value=>cases d|skip=>cases d|enter=>cases d)|halt x S=>simp only[bO,Result.halt.injEq]at d;obtain⟨⟨rfl,rfl⟩,rfl⟩:=d;cases x with|panic v=>intro k' j w' h;simp only[runN]at h;rw[iu (fr':=iq ⟨fn,t,bY ops (i::rest)::k,[],.run,cU,B⟩ [{v,recovered:=p}]) (cs':=X++[jv]) (w':=S)<|by simp[ak,aK,eK,eM,eN,eo,ew,D]]at h;exact acJ (λf hf=>ad f<|by simp[hf]) rfl rfl ⟨ac,q⟩ k' j w' h|stuck s=>exact e (by simp[G,ak,aK,eK,eM,eN,eo,ew,D];exact⟨rfl,rfl⟩)|unsupported u=>(cases u with|initOrder g=>exact E.elim|_=>exact e (by simp[G,ak,aK,eK,eM,eN,eo,ew,D];exact⟨rfl,rfl⟩))|_=>exact E.elim)|_=>exact aa.elim
 .simp only at hm;subst hm;unfold jV at d;simp only at d;cases er:(cV ac t).runT P w #[]with|mk r aB=>have R:=C7 Prod.fst er;rw[fM]at R;simp only at R;cases r with|halt x S=>(cases x with|stuck s=>exact e (by simp[G,ak,unwind,q,R];exact⟨rfl,rfl⟩)|_=>exact e (by simp[G,ak,unwind,q,R];exact⟨rfl,rfl⟩))|ok v S=>cases X with|cons c cs=>simp only[q]at d;rw[sK,er]at d;cases d|nil=>intro k j w' h;simp[runN,aoO]at h;rw[iu (fr':=jv.finish v) (cs':=[]) (w':=S)<|by simp[ak,unwind,q,R,doReturn]]at h;exact amx v S k j w' h
end
section
open Go.Conc(G)
variable{ok:jO}{ρ ρ':jG}{P:T}{S:L M->Q->U}
def Self(ok:jO)(P:T)(l:L M)(w:Q):U:=xK ok P l/\∃(ρ:jG)(la:L M)(a:Q),ql ok P ρ l la/\lF ok ρ w a/\tL ok ρ
def Self.re{l:L M}{w:Q}(h:Self ok P l w)(a:V->bu->V)(d:V):Self ok P l<|w.re a d:=let⟨hF,ρ,la,c,b,f,e⟩:=h;⟨hF,ρ,la,c,b,f.Cw a d,e⟩
def Self.mq(F:Fits ok P)(C:sw ok P){l:L M}{w j:Q}{k:Z ao}(h:Self ok P l w)(e:(jV P l).runT P w #[]=(ar o j,k)):Self ok P o j:=by obtain⟨hF,ρ,la,q,f,d,c⟩:=h;obtain⟨ρ',b,a,m,r,n,g⟩:=FE _ (esa:=#[]) (FK F C.mI d.inj c f hF.Dw) (d.re w.tape w.tape w.drawn w.drawn) e λi hi=>rfl;exact⟨agR F C f c d hF e,ρ',b,a,n,g.kV,c.jh g.le⟩
def Self.local(F:Fits ok P)(C:sw ok P){l:L M}{w:Q}(h:Self ok P l w):Ln P (jV P l) w:=by obtain⟨hF,ρ,la,d,b,a,c⟩:=h;exact Mt _ (FK F C.mI a.inj c b hF.Dw) a
def Self.FM{l:L M}{w:Q}(h:Self ok P l w):∃fr X,l=fr::X:=by obtain⟨hF,ρ,la,b,a,_⟩:=h;cases a with|one=>simp|cons=>simp
def Aq(l:L M)(w:Q):il:=lone (l.headD jv) (l.tail++[jv]) w
def amY{l:L M}{w b:Q}{d:Z ao}(h:Self ok P l w)(e:(jV P l).runT P w #[]=(ar o b,d)):Go.step P (Aq l w)=bZ (Aq o b):=by
 obtain⟨fr,X,rfl⟩:=h.FM;obtain⟨hF,ρ,la,j,f,_⟩:=h;have a:∃c,qD ok P ρ fr c:=by cases f with|one h=>exact⟨_,h⟩|cons h=>exact⟨_,h⟩
 obtain⟨c,a⟩:=a;obtain⟨g,i,rfl,hs⟩:=Lw ae [jv] a.MR (by rw[a.rm];simp) (λ_=>⟨a.qS,a.rm⟩) e;exact iu<|by have:=C7 GStep.bare hs;simpa[G]using this
def PV(P:T)(S:L M->Q->U)(l:L M)(w:Q):U:=∀c d,∃n a b,runN P n (Aq l<|w.re c d)=bZ (lone a [jv] b)/\S [a] b
structure qT(ok:jO)(P:T)(S:L M->Q->U)where
 l:L M
 w:Q
 xL:Self ok P l w
 bad:¬Safe ok P S l w
def TA(s:qT ok P S)(c:V->bu->V)(d:V):n6 (qT ok P S)->U|K b=>∃a,(jV P s.l).runT P (s.w.re c d) #[]=(ar b.l b.w,a)|B=>∀f e a,(jV P s.l).runT P (s.w.re c d) #[]≠(ar f e,a)
def J5(F:Fits ok P)(C:sw ok P)(s:qT ok P S):∃a d o,TA s a d o:=by
 by_cases h:∀a d,∃b c e,(jV P s.l).runT P (s.w.re a d) #[]=(ar b c,e);.have:¬∀a d b c e,(jV P s.l).runT P (s.w.re a d) #[]=(ar b c,e)->Safe ok P S b c:=λhs=>s.bad<|.step s.xL.1.Dw h hs;simp only[aoQ]at this;obtain⟨a,d,b,c,e,f,g⟩:=this;exact⟨a,d,K ⟨b,c,(s.xL.re a d).mq F C f,g⟩,e,f⟩
 .simp only[aoQ]at h;obtain⟨a,d,h⟩:=h;exact⟨a,d,B,λb c e f=>h ⟨b,c,e,f⟩⟩
section
variable(F:Fits ok P)(C:sw ok P)
noncomputable def tp(s:qT ok P S):V->bu->V:=(J5 F C s).choose
noncomputable def dp(s:qT ok P S):V:=(J5 F C s).choose_spec.choose
noncomputable def nx(s:qT ok P S):n6<|qT ok P S:=(J5 F C s).choose_spec.choose_spec.choose
def RY(s:qT ok P S):TA s (tp F C s) (dp F C s)<|nx F C s:=(J5 F C s).choose_spec.choose_spec.choose_spec
noncomputable def xi(s:qT ok P S):V:=match nx F C s with|K a=>a.w.drawn-dp F C s|B=>0
noncomputable def it(s:qT ok P S):V->n6 (qT ok P S)|0=>K s|i+1=>(it s i).bind (nx F C)
noncomputable def vO(s:qT ok P S):V->V|0=>0|i+1=>vO s i+((it F C s i).map<|xi F C).getD 0
def Yl(s:qT ok P S){i:V}(h:i<=f):vO F C s i<=vO F C s f:=by induction h with|refl=>omega|step _ a=>exact cT a (by simp only[vO];omega)
def U7(s:qT ok P S){i:V}{u:qT ok P S}(h:it F C s i=K u):vO F C s (i+1)=vO F C s i+xi F C u:=by simp[vO,h]
def abR(s:qT ok P S){i:V}(h:i<f){u v:qT ok P S}(b:it F C s i=K u)(d:it F C s f=K v):nx F C u≠B:=by
 intro c;have:∀k,it F C s (i+1+k)=B:=by intro k;induction k with|zero=>show(it F C s i).bind (nx F C)=B;rwa[b]|succ k a=>show(it F C s<|i+1+k).bind (nx F C)=B;rw[a];rfl
 have e:=this<|f-(i+1);grind
def ahS(s:qT ok P S){n:V}(h:it F C s n=B):∃i u,i<n/\it F C s i=K u/\nx F C u=B:=by induction n with|zero=>cases h|succ n b=>cases e:it F C s n with|none=>grind|some u=>exact⟨n,u,A,e,by have a:(it F C s n).bind (nx F C)=B:=h;grind⟩
def At(s:qT ok P S)(n i:V)(u:qT ok P S):U:=it F C s i=K u/\vO F C s i<=n/\(n<vO F C s i+xi F C u\/nx F C u=B)
noncomputable def qK(s:qT ok P S)(n:V):bu->V:=have:Decidable<|∃i u,At F C s n i u:=Classical.propDecidable _;if h:∃i u,At F C s n i u then tp F C h.choose_spec.choose (dp F C h.choose_spec.choose+(n-vO F C s h.choose))elseλ_=>0
def ahM(s:qT ok P S){n i:V}{u v:qT ok P S}(a:At F C s n i u)(b:At F C s n f v):i=f/\u=v:=by
 have key:∀{i f:V}{u v:qT ok P S},At F C s n i u->At F C s n f v->¬i<f:=by intro i f u v a b c;have d:=a.2.2.resolve_right<|abR F C s c a.1 b.1;have e:=Yl F C s<|c;rw[U7 F C s a.1]at e;have:=b.2.1;omega
 have g:=key a b;have d:=key b a;have:i=f:=A
 subst this;refine⟨rfl,?_⟩;have:=a.1;rw[b.1]at this;grind
def WN(s:qT ok P S){i k:V}{u:qT ok P S}(e:it F C s i=K u)(hk:k<xi F C u\/nx F C u=B):qK F C s (vO F C s i+k)=tp F C u (dp F C u+k):=by have b:At F C s (vO F C s i+k) i u:=⟨e,A,hk.imp (λx=>A) id⟩;have a:∃d c,At F C s (vO F C s i+k) d c:=⟨i,u,b⟩;unfold qK;simp[dif_pos a];obtain⟨e1,e2⟩:=ahM F C s a.choose_spec.choose_spec b;grind
def Xr(s:qT ok P S):∀i u,it F C s i=K u->runN P i (Aq s.l<|s.w.re (qK F C s) 0)=bZ (Aq u.l<|u.w.re (qK F C s)<|vO F C s i):=by intro i;induction i with|zero=>intro u n;cases n;rfl|succ i o=>intro c a;cases e:it F C s i with|none=>have d:(it F C s i).bind (nx F C)=K c:=a;rw[e]at d;cases d|some u=>(have f:nx F C u=K c:=by have d:(it F C s i).bind (nx F C)=K c:=a;grind);have b:=RY F C u;rw[f]at b;obtain⟨v,m⟩:=b;obtain⟨t,r,q⟩:=((u.xL).local F C (tp F C u) (dp F C u) #[] _ _ m);(have g:xi F C u=c.w.drawn-dp F C u:=by simp[xi,f]);obtain⟨j,h,-⟩:=q (qK F C s) (vO F C s i) (λk hk=>WN F C s e<|N<|by rw[g];omega) #[];rw[<-g,<-U7 F C s e]at h;rw[runN_add P i 1,o u e];simp[runN];rw[amY (u.xL.re _ _) h]
end
def Wr(F:Fits ok P)(C:sw ok P)(hS:∀l w G d,Self ok P l w->S l w->S l (w.re G d))(hM:∀fr w,S [fr] w->fr.mode=.run\/fr.mode=dP){l:L M}{w:Q}(a:Self ok P l w)(h:PV P S l w):Safe ok P S l w:=by refine iw λj=>?_;let s:qT ok P S:=⟨l,w,a,j⟩;obtain⟨n,R,w',m,hs⟩:=h (qK F C s) 0;cases e:it F C s n with|some u=>have q:=Xr F C s n u e;rw[show Aq s.l (s.w.re (qK F C s) 0)=Aq l (w.re (qK F C s) 0)from rfl,m]at q;simp[fj]at q;obtain⟨e1,e2,e3⟩:=Hw q;obtain⟨fr,X,f⟩:=u.xL.FM;rw[f]at e1 e2;simp[aoR,aoS]at e1 e2;(have J:X=[]:=by have:=C7 List.length e2;simpa using this);subst J e1 e3;refine u.bad<|.stop ?_;rw[f];have:=hS _ _ u.w.tape u.w.drawn (by have:=u.xL.re (qK F C s)<|vO F C s n;grind) hs;exact this|none=>obtain⟨i,u,hi,y,D⟩:=ahS F C s e;rw[show n=i+((n-i-1)+1)by omega,runN_add,show Aq l (w.re (qK F C s) 0)=Aq s.l (s.w.re (qK F C s) 0)from rfl,Xr F C s i u y]at m;obtain⟨fr,X,f⟩:=u.xL.FM;obtain⟨hF,ρ,la,wa,v,h2,h3⟩:=u.xL;have b:=RY F C u;rw[D]at b;cases t:(jV P u.l).runT P (u.w.re (qK F C s)<|vO F C s i) #[]with|mk r es=>cases r with|ok l' o=>obtain⟨_,_,g⟩:=(u.xL.local F C (qK F C s) (vO F C s i) #[] _ _ t);obtain⟨H,E,_⟩:=g (tp F C u) (dp F C u) (λk hk=>(WN F C s y<|W D).symm) #[];exact b _ _ _ E|halt x o=>rw[f]at t v hF;simp[Aq,f,aoR,aoS]at m;obtain⟨c,hc⟩:=anX F C v hF h3 (h2.Cw _ _) t _ _ _ m;grind
end
section
open Go.Conc Go.ConcN
variable{ok:jO}{ρ ρ':jG}{P:T}{S:L M->Q->U}
inductive Fs(ok:jO)(P:T)(ρ:jG):L M->L M->U|nil:Fs ok P ρ [] []|cons{f f':M}(h:qD ok P ρ f f')(hp:Plain f'){l l':L M}(hs:Fs ok P ρ l l'):Fs ok P ρ (f::l)<|f'::l'
def Fs.jh(c:ρ.le ρ'){l:L M}(h:Fs ok P ρ l o):Fs ok P ρ' l o:=by induction h with|nil=>exact .nil|cons h a _ b=>exact .cons (h.jh c) a b
def Fs.tn{l m:L M}(h:Fs ok P ρ l o)(g:Fs ok P ρ m r):Fs ok P ρ (l++m)<|o++r:=by induction h with|nil=>exact g|cons h a _ b=>exact .cons h a b
def Fs.Ie{l m:L M}:∀{x:L M},Fs ok P ρ (l++m) x->∃b a,x=b++a/\Fs ok P ρ l b/\Fs ok P ρ m a:=by induction l with|nil=>intro x h;exact⟨[],x,rfl,.nil,h⟩|cons f l e=>intro x h;cases h with|cons h c hs=>obtain⟨b,a,rfl,g,d⟩:=e hs;exact⟨_::b,a,rfl,.cons h c g,d⟩
def Fs.MZ{l:L M}(h:Fs ok P ρ l o)(ne:l≠[]):ql ok P ρ l o:=by induction h with|nil=>grind|cons h a hs d=>cases hs with|nil=>exact .one h|cons e b c=>exact .cons h a<|d F0
def ql.fs{l:L M}(h:ql ok P ρ l o)(b:∀f∈o,Plain f):Fs ok P ρ l o:=by induction h with|one h=>exact .cons h (b _ F0) .nil|cons h a hs d=>exact .cons h a<|d λf c=>b f (by simp[c])
def Fs.xM{l:L M}(h:Fs ok P ρ l o):∀f∈o,Plain f:=by induction h with|nil=>simp|cons h a _ b=>grind
def Fs.nA{l:L M}(h:Fs ok P ρ l o):∀f∈l,f.defers=[]/\f.kind=cU:=by induction h with|nil=>simp|cons h b _ a=>exact ay.2 ⟨⟨h.qS,h.rm⟩,a⟩
def Fs.ne{l:L M}(h:Fs ok P ρ l o)(ne:l≠[]):∃f x,o=f::x:=by cases h with|nil=>grind|cons=>simp
def TS{l:L M}{w J:Q}{E:Z ao}(R:∀f∈l,Plain f)(d:(jV P l).runT P w #[]=(ar H J,E)):∀f∈H,Plain f:=by cases l with|nil=>cases d|cons fr t=>have u:=R fr F0;have F:∀f∈t,Plain f:=λf h=>R f (by simp[h]);let⟨fn,j,s,e,q,kind,round⟩:=fr;have one:∀{g:M},Plain g->∀f∈g::t,Plain f:=λhg=>ay.2 ⟨hg,F⟩;(have lh:∀{k:L cG}{m:ir},(bH<|⟨fn,j,k,e,m,kind,round⟩::t).runT P w #[]=(ar H J,E)->∀f∈H,Plain f:=by intro k m h;cases h;exact one ⟨u.qS,u.rm⟩);(have fin:∀{v:O}{w2:Q}{C:Z ao},(bH<|eH ⟨fn,j,s,e,q,kind,round⟩ v::t).runT P w2 C=(ar H J,E)->∀f∈H,Plain f:=by intro v w2 C h;cases h;exact one<|u.xT _);unfold jV at d;simp only at d;cases q with|panicking c=>cases d|returning=>(cases t with|nil=>cases d|cons c t=>cases ef:P.funcs[fn]? with|none=>simp_all|some f=>rw[ef]at d;simp only at d;rw[sK]at d;cases er:(cV f j).runT P w #[]with|mk r G=>rw[er]at d;cases r with|halt x w1=>cases d|ok v w1=>cases d;exact ay.2 ⟨(F c F0).xT _,λf h=>F f<|by simp[h]⟩)|run=>cases s with|nil=>exact lh d|cons it k=>cases it with|code c=>(cases c with|skip=>exact lh d|ret=>exact lh d|seq a b=>exact lh d|block id b=>exact lh d|loop b=>exact lh d|cond c x y=>simp only at d;split at d;(.exact lh d);.cases d|exit id=>simp only at d;split at d;(.exact lh d);.cases d|region id ops D=>simp only at d;(cases D with|false=>exact lh d|true=>simp only[fg,aT,DP]at d;rw[sK]at d;simp[choose,ai,eJ,aT,DP]at d;cases d;exact one ⟨u.qS,u.rm⟩)|_=>cases d)|inBlock id=>exact lh d|inLoop b=>exact lh d|inRegion ops l=>(cases l with|nil=>exact lh d|cons i rest=>simp only at d;cases X:ops[i]? with|none=>rw[X]at d;exact fin d|some o=>rw[X]at d;simp only at d;split at d;(.rw[sK]at d;generalize(cF _ o).runT P w #[]=rr at d;let⟨r,G⟩:=rr;cases r with|halt x w1=>cases d|ok n w1=>cases n with|value v=>exact fin d|skip=>exact fin d|enter f aa=>cases d;exact ay.2 ⟨⟨rfl,rfl⟩,one u⟩|_=>cases d);.exact fin d)|_=>cases d
def yc(ok:jO)(P:T)(l:L M)(w:Q):U:=∃(a:jG)(la:L M)(b:Q),Fs ok P a l la/\lF ok a w b/\tL ok a
def yc.xL{l m:L M}{w:Q}(h:yc ok P (l++m) w)(hF:xK ok P l)(ne:l≠[]):Self ok P l w:=let⟨e,_,d,a,f,b⟩:=h;let⟨c,_,_,k1,_⟩:=a.Ie;⟨hF,e,c,d,k1.MZ ne,f,b⟩
structure wF(ok:jO)(P:T)(ρ:jG)(l:L M)(wh:Q)(gs:Z aj)(w:Q)(t:bj)(q:V->V)(Shun:Loc->U):U where
 ne:l≠[]
 g0:∃la,gs[0]?=some (G (la.headD jv) la.tail)/\Fs ok P ρ l la
 lv:Leavers P t gs q
 GM:Past Shun w t
 vy:lF ok ρ wh w
 n9:tL ok ρ
 Kj:∀b b',ρ b b'->(∀a:ah,a.block=b'->¬Shun (aN a))/\¬Shun (aD b')
 kZ:∀x,Shun x->x.low w
 jr:∀b',b'<ok.lS.tY.size->w.heap[b']?=ok.lS.tY[b']?
 yU:∀b b',ρ b b'->b'<ok.lS.tY.size->nI wh b
def wF.xL{l:L M}{wh:Q}{gs:Z aj}{w:Q}{t:bj}{q:V->V}{a:Loc->U}(h:wF ok P ρ l wh gs w t q a):yc ok P l wh:=let⟨la,_,b⟩:=h.g0;⟨ρ,la,w,b,h.vy,h.n9⟩
def abz{c:Loc->U}{n:V}(h:∀x,c x->x.low n){b:V}(d:n<=b):(∀a:ah,a.block=b->¬c (aN a))/\¬c (aD b):=⟨λa e hs=>by have:=h _ hs;simp[dy]at this;omega,λhs=>by have:=h _ hs;simp[dy]at this;omega⟩
def ahX{w wh:Q}{c:Loc->U}(l:lF ok ρ wh w)(hs:∀b k,ρ b k->(∀a:ah,a.block=k->¬c (aN a))/\¬c (aD k)){e:ao}(h:AE ρ wh e):EvL c w e:=by let⟨j,wr,q⟩:=e;cases j with|cell a=>let⟨i,b,g,n⟩:=h;simp at i g;subst i;exact evL_cell a wr ((hs _ _ g).1 a rfl) (l.lt g).2|obj r=>let⟨i,b,g,n⟩:=h;simp at i g;subst i;(have e:aE ⟨aD r,wr,p⟩=.access ⟨aD r,wr,p⟩:=by cases wr<;>rfl);refine⟨λx d o=>?_,F0,F0,?_⟩;(.rw[e]at d;simp[bG,dz]at d;grind);.rw[e];exact(l.lt g).2|mark m=>(cases m with|extern f=>exact⟨λx d=>by simp[aE,bG]at d,F0,F0,n7⟩|noRoom=>exact⟨λx d=>by simp[aE,bG]at d,F0,F0,n7⟩|_=>exact h.elim)|_=>exact h.elim
def agr(F:Fits ok P)(bo:qa ok P)(base:L M){l:L M}{wh:Q}(h:∀τ d,∃l' w' es,(jV P l).runT P (wh.re τ d) #[]=(ar l' w',es))(ne:l≠[])(hd:wH ok P l):∀{ρ:jG}{gs:Z aj}{w:Q}{sl:n6<|V×V}{t:bj}{q:V->V}{m:Loc->U},wF ok P ρ (l++base) wh gs w t q m->∃a0 ρ' an w' D t' q' l' aC τ d es,runNT P a0 (crowd gs w sl) t=(bZ<|crowd an w' D,t')/\(jV P l).runT P (wh.re τ d) #[]=(ar l' aC,es)/\wF ok P ρ' (l'++base) aC an w' t' q' m/\ρ.le ρ'/\l'≠[]/\(∀b f,ρ' b f->ρ b f\/w<=f)/\w<=w'.heap.size/\an=gs.size:=by intro ρ gs w sl t q m c;generalize hM:sumTo gs q=bm;induction bm using iy generalizing gs w sl t q with|_ bm a6=>let⟨bp,bg,aL⟩:=c.g0;obtain⟨la,ba,rfl,E,aW⟩:=aL.Ie;obtain⟨fr,X,rfl⟩:=E.ne ne;have h0:=bg;(have a1:∀g∈gs,awake g:=by intro g hg;obtain⟨i,hi,rfl⟩:=aoT.1 hg;rcases fN i with rfl|C;(. (have:gs[0]=G fr (X++ba):=pC);rw[this];exact eO<|N rfl);.exact eO<|(c.lv.old i _ C<|fP hi).status.elim N λx=>W (W x));let⟨i,g,d,D,hi,hg,aV⟩:=crowd_pick (P:=P) (w:=w) (sl:=sl) a1 ⟨0,_,h0,rfl⟩;rcases fN i with rfl|C;(. (obtain rfl:g=G fr (X++ba):=by grind);obtain⟨l1,w1,es,hr⟩:=h w.tape d;obtain⟨av,b,aB,bb,g1,g2,s⟩:=FE _ (FK F bo c.vy.inj c.n9 (E.MZ ne) hd) (⟨c.vy.inj,c.vy.gs,c.vy.rn,c.vy.nU,c.vy.kD⟩:lF ok ρ (wh.re w.tape d)<|w.at d) hr λi hi=>rfl;have a9:=TS E.xM g1;simp only[aoU]at g1;(have aa:qD ok P ρ (l.headD jv) fr:=by cases E with|cons h hp hs=>exact h);obtain⟨gf,aw,rfl,a7⟩:=Lw ae ba aa.yp aa.zP (λ_=>(E.xM fr F0)) g1;have o:=fl (sl:=D) hi<|a7;have R:=(eP.1 h0).1;(have ac:∀b f,av b f->(∀a:ah,a.block=f->¬m (aN a))/\¬m (aD f):=by intro b f u;rcases s.qw u with u|⟨_,u⟩;(.exact c.Kj b f u);.exact abz c.kZ u);have ad:=g2.fs a9;(have aG:l1≠[]:=by intro e;subst e;cases ad);(have am:wF ok P av (l1++base) w1 (aM (gs.map<|woken P (G fr<|X++ba) (G gf<|aw++ba) aB) 0<|G gf<|aw++ba) aB (t++aU 0 fr.fn fr.place (seen P fr.fn bb)) q m:=by refine⟨by simp[aG],⟨(gf::aw)++ba,by simp[R],ad.tn<|aW.jh s.le⟩,⟨λj x J r=>?_,λj J=>?_⟩,?_,s.kV,c.n9.jh s.le,ac,λx r=>Loc.low_mono s.BK<|c.kZ x r,λf n=>?_,λb f u n=>?_⟩;(. (have be:0≠j:=A);rw[iz be,iA]at r;obtain⟨y,hy,rfl⟩:=dF.1 r;have hq:=c.lv.old j y J hy;rwa[fo hq,bJ t A _ λop v=>by obtain⟨e,_,rfl⟩:=bK v;rfl]);(.rw[bJ t (g':=0) (by simp at J;omega) _ λop v=>by obtain⟨e,_,rfl⟩:=bK v;rfl];exact c.lv.above j<|by simpa using J);(.exact(c.GM.mono s.BK).own λe he=>ahX s.kV ac (s.ev e<|by simpa using fp he));(. (have al:f<(w.at d):=by have:=c.jr f n;rw[fP n]at this;exact(eP.1 this).1);refine au ?_<|c.jr f n;by_cases r:∃b,ρ b f;(.let⟨b,r⟩:=r;exact(s.vp b<|c.yU b f r n).2 f r);.exact s.kD f al λb u=>r ⟨b,u⟩);. (have al:f<(w.at d):=by have:=c.jr f n;rw[fP n]at this;exact(eP.1 this).1);rcases s.qw u with u|⟨_,u⟩;(.exact(c.yU b f u n).jY (s.vp b<|c.yU b f u n).1);.omega);refine⟨1,av,_,aB,D,_,q,l1,w1,w.tape,d,es,?_,hr,am,s.le,aG,λb f u=>(s.qw u).imp id λx=>x.2,s.BK,F0⟩;simp only[runNT,aV,o];rfl);.have hq:=c.lv.old i g C hi;have R:=(eP.1 hi).1;cases aS:q i with|zero=>rw[aS]at hq;rw[hq.1]at hg;cases hg|succ k=>rw[aS]at hq;rcases hq with⟨hf,_⟩|⟨_,g',es,hm,aI,a5⟩;(.rw[hf]at hg;cases hg);have o:=fl (sl:=D) hi (by rw[(by simp;omega:(i==0)=p)];exact aI<|w.at d);(have aR:(aM (gs.map<|woken P g g'<|w.at d) i g')=gs.size:=F0);(have bi:sumTo gs (upd q i k)+(k+1)=sumTo gs q+k:=by have:=fQ q k id R;simp_all);(have am:wF ok P ρ (l++base) wh (aM (gs.map<|woken P g g'<|w.at d) i g') (w.at d) (t++aU i g.frame.fn g.frame.place es) (upd q i k) m:=by refine⟨c.ne,⟨(fr::X)++ba,?_,aL⟩,⟨λj x J r=>?_,λj J=>?_⟩,c.GM.mute A hm,⟨c.vy.inj,c.vy.gs,c.vy.rn,c.vy.nU,c.vy.kD⟩,c.n9,c.Kj,c.kZ,c.jr,c.yU⟩;(.rw[iz A,iA,h0];simp[woken_run<|show(G fr<|X++ba).status=bC from rfl]);(.by_cases H:i=j;(.subst H;rw[aoV<|by simpa using R]at r;obtain rfl:=fS r;rw[aq,fT];exact a5);.rw[iz H,iA]at r;obtain⟨y,hy,rfl⟩:=dF.1 r;have a3:=c.lv.old j y J hy;rwa[fo a3,az q k<|Ne.symm H,bJ t H _ λop v=>by obtain⟨e,_,rfl⟩:=bK v;rfl]);.rw[bJ t (g':=i) (by simp at J;omega) _ λop v=>by obtain⟨e,_,rfl⟩:=bK v;rfl];exact c.lv.above j<|by simpa using J);obtain⟨a0,bf,a4,w2,a2,t2,q2,l2,bc,a8,d2,bd,r1,r2,r3,r4,r5,r6,r7,r8⟩:=a6 (sumTo gs<|upd q i k) A am (by rw[aR]);refine⟨a0+1,bf,a4,w2,a2,t2,q2,l2,bc,a8,d2,bd,?_,r2,r3,r4,r5,r6,r7,au r8 aR⟩;simp only[runNT,aV,o];exact r1
def Y2(F:Fits ok P)(x:qa ok P)(base:L M){l:L M}{wh:Q}(hs:Safe ok P S l wh):∀{ρ:jG}{gs:Z aj}{w:Q}{sl:n6<|V×V}{t:bj}{q:V->V}{a:Loc->U},l≠[]->wF ok P ρ (l++base) wh gs w t q a->∃i ρ' c g o u E m e,runNT P i (crowd gs w sl) t=(bZ<|crowd c g o,u)/\wF ok P ρ' (m++base) e c g u E a/\ρ.le ρ'/\m≠[]/\S m e/\(∀b f,ρ' b f->ρ b f\/w<=f)/\w<=g.heap.size/\c=gs.size:=by induction hs with|stop h=>intro ρ gs w sl t q a ne n;exact⟨0,ρ,gs,w,sl,t,q,_,_,rfl,n,jG.le.nH _,ne,h,λ_ _ h=>N h,bh _,rfl⟩|@step l wh hd h hs y=>intro ρ gs w sl t q a ne n;obtain⟨i,D,C,w1,v,t1,q1,l1,R,τ,d,es,r1,r2,r3,r4,r5,r6,r7,r8⟩:=agr F x base h ne hd n;obtain⟨G,r,k,X,j,t2,q2,l2,s,k1,k2,k3,k4,k6,k7,H,J⟩:=y τ d _ _ _ r2 r5 r3;refine⟨i+G,r,k,X,j,t2,q2,l2,s,?_,k2,r4.jA k3,k4,k6,λb f hb=>?_,cT r7 H,au J r8⟩;(.rwa[runNT_add,r1]);grind
end
section
open Go.Conc Go.ConcN
structure Tl(Sh Old:Loc->U)(lJ:V->U)(Own Rd:V->Loc->U)(t:bj):U where
 De:Quiet Sh t
 jV:∀g,lJ g->∀l,Own g l->Perm t g l
 rd:∀g,lJ g->∀l,Rd g l->PermW t g l
 Dq:∀l,l.isMemory=true->¬Sh l->¬Old l->(∀g,lJ g->¬Own g l/\¬Rd g l)->Perm t 0 l
 qL:∀l,l.isMemory=true->¬Sh l->¬Old l->(∀g,lJ g->¬Own g l)->PermW t 0 l
 lS:∀i a,touchAt t i=some a->a.loc.isMemory=true->Old a.loc->Knows t 0 i\/a.kind=.atomic
 nr:∀said,¬Race said t
structure J6(Sh Old:Loc->U)(lJ:V->U)(Own Rd:V->Loc->U):U where
 jV:∀g g' l,lJ g->lJ g'->Own g l->Own g' l->g=g'
 L6:∀g g' l,lJ g->lJ g'->Own g l->¬Rd g' l
 IW:∀g l,lJ g->Own g l->¬Sh l/\¬Old l/\l.isMemory=true
 Ix:∀g l,lJ g->Rd g l->¬Sh l/\¬Old l/\l.isMemory=true
 aaF:∀l,Old l->¬Sh l
 sf:∀g,lJ g->g≠0
section
variable{Sh Old:Loc->U}{lJ:V->U}{Own Rd:V->Loc->U}{t u:bj}
def EN(Sh Old:Loc->U)(lJ:V->U)(Own Rd:V->Loc->U)(op:fq):U:=op.g=0/\∀x,op.act.touch?=K x->(Sh x.loc/\x.kind≠.plain)\/(¬Sh x.loc/\(Old x.loc->x.kind≠.plain)/\(∀g,lJ g->¬Own g x.loc)/\(x.write=ae->∀g,lJ g->¬Rd g x.loc))
def J1(Sh:Loc->U)(Own Rd:V->Loc->U)(g:V)(op:fq):U:=op.g=g/\∀x,op.act.touch?=K x->(Sh x.loc/\x.kind≠.plain/\x.kind≠.said)\/Own g x.loc\/(Rd g x.loc/\x.write=p)
def Tl.app0(G:J6 Sh Old lJ Own Rd)(h:Tl Sh Old lJ Own Rd t)(j:∀op∈u,EN Sh Old lJ Own Rd op):Tl Sh Old lJ Own Rd<|t++u:=by
 refine⟨h.De.app λop c x y hs=>?_,λg m l d=>(h.jV g m l d).app λop c b r e=>?_,λg m l d=>(h.rd g m l d).app λop c b r e P=>?_,λl k hs o d=>(h.Dq l k hs o d).app λop c _ _ _=>(j op c).1,λl k hs o d=>(h.qL l k hs o d).app λop c _ _ _ _=>(j op c).1,λi a q k o=>?_,λv=>?_⟩;.obtain⟨_,hk⟩|⟨H,_⟩:=(j op c).2 x y;(.exact⟨hk,λ_=>(j op c).1⟩);grind
 .obtain⟨hs,_⟩|⟨_,_,H,_⟩:=(j op c).2 b r;(.exact zW (e▸hs) (G.IW g l m d).1);grind
 .obtain⟨hs,_⟩|⟨_,_,_,H⟩:=(j op c).2 b r;(.exact zW (e▸hs) (G.Ix g l m d).1);grind
 .let⟨x,y,J⟩:=cY q;obtain⟨_,F⟩|⟨_,E⟩:=dK y;(.exact(h.lS i a (by rwa[dL F]) k o).imp (·.app u) id);.have:=knows_own y;rw[(j x E).1]at this;exact N this
 .refine ft (h.nr v) (λop c=>(j op c).1) λi a q op c b r f=>?_;obtain⟨hs,hk⟩|⟨hs,o,s,D⟩:=(j op c).2 b r;(.exact h.De.known hs hk (λ_=>rfl) i a q f);.by_cases n:Old b.loc;(.obtain hk|hk:=h.lS i a q f.2.1<|f.1▸n;(.exact hk);.let⟨_,_,_,C⟩:=f;grind);.have k:=f.1▸f.2.1;cases w:b.write with|true=>exact h.Dq b.loc k hs n (λg m=>⟨s g m,D w g m⟩) i a q f.1|false=>exact h.qL b.loc k hs n s i a q f.1<|f.2.2.1.resolve_right (by simp[w])
def Tl.appW(k:J6 Sh Old lJ Own Rd)(h:Tl Sh Old lJ Own Rd t){g:V}(n:lJ g)(o:∀op∈u,J1 Sh Own Rd g op):Tl Sh Old lJ Own Rd<|t++u:=by
 refine⟨h.De.app λop c x H hs=>?_,λr f l j=>(h.jV r f l j).app λop c b m e=>?_,λr f l j=>(h.rd r f l j).app λop c b m e R=>?_,λl w hs d j=>(h.Dq l w hs d j).app λop c b m e=>?_,λl w hs d j=>(h.qL l w hs d j).app λop c b m e R=>?_,λi a v w d=>?_,λs=>?_⟩;.obtain⟨_,hk,P⟩|d|⟨q,_⟩:=(o op c).2 x H;(.grind);(.exact zW hs (k.IW g _ n d).1);.exact zW hs (k.Ix g _ n q).1
 .obtain⟨hs,_⟩|d|⟨q,_⟩:=(o op c).2 b m;(.exact zW (e▸hs) (k.IW r l f j).1);(.rw[(o op c).1];exact k.jV g r l n f (e▸d) j);.exact zW (e▸q)<|k.L6 r g l f n j
 .obtain⟨hs,_⟩|d|⟨_,q⟩:=(o op c).2 b m;(.exact zW (e▸hs) (k.Ix r l f j).1);(.exact zW j<|k.L6 g r l n f<|e▸d);grind
 .obtain⟨D,_⟩|d|⟨q,_⟩:=(o op c).2 b m;(.grind);(.grind);grind
 .obtain⟨D,_⟩|d|⟨_,q⟩:=(o op c).2 b m;(.grind);(.grind);grind
 .let⟨x,H,J⟩:=cY v;obtain⟨_,G⟩|⟨_,E⟩:=dK H;(.exact(h.lS i a (by rwa[dL G]) w d).imp (·.app u) id);.obtain⟨hs,_⟩|F|⟨F,_⟩:=(o x E).2 a J;(.exact zW hs<|k.aaF _ d);(.exact zW d (k.IW g _ n F).2.1);.exact zW d (k.Ix g _ n F).2.1
 .refine ft (h.nr s) (λop c=>(o op c).1) λi a v op c b m y=>?_;obtain⟨hs,hk,P⟩|d|⟨q,C⟩:=(o op c).2 b m;(.exact h.De.known hs hk (λe=>zW e P) i a v y);(.exact h.jV g n b.loc d i a v y.1);.exact h.rd g n b.loc q i a v y.1<|y.2.2.1.resolve_right<|by simp[C]
def Tl.appMute(h:Tl Sh Old lJ Own Rd t){g:V}(w:∀op∈u,op.g=g)(D:∀op∈u,op.act.touch?=B):Tl Sh Old lJ Own Rd<|t++u:=by
 have no:∀op∈u,∀b,op.act.touch?=K b->False:=λop c b d=>pC
 refine⟨h.De.app λop c x o hs=>(no op c x o).elim,λq f l j=>(h.jV q f l j).app λop c b d e=>(no op c b d).elim,λq f l j=>(h.rd q f l j).app λop c b d e C=>(no op c b d).elim,λl k hs m j=>(h.Dq l k hs m j).app λop c b d _=>(no op c b d).elim,λl k hs m j=>(h.qL l k hs m j).app λop c b d _ _=>(no op c b d).elim,λi a s k m=>?_,λn=>?_⟩;.let⟨x,o,v⟩:=cY s;obtain⟨_,r⟩|⟨_,y⟩:=dK o;(.exact(h.lS i a (by rwa[dL r]) k m).imp (·.app u) id);grind
 .exact ft (h.nr n) w λi a s op c b d E=>(no op c b d).elim
def Tl.grow(h:Tl Sh Old lJ Own Rd t){g0:V}{New:Loc->U}(j:∀i a,touchAt t i=K a->¬New a.loc):Tl Sh Old lJ (λg l=>Own g l\/(g=g0/\New l)) Rd t:=by
 refine⟨h.De,λg c l b=>?_,h.rd,λl d hs f b=>h.Dq l d hs f λg c=>⟨λx=>(b g c).1<|N x,(b g c).2⟩,λl d hs f b=>h.qL l d hs f λg c x=>b g c (N x),h.lS,h.nr⟩;obtain b|⟨_,b⟩:=b;.exact h.jV g c l b
 .exactλi a k e=>zW (e▸b)<|j i a k
def Tl.fork{g0:V}(r:J6 Sh Old (λg=>lJ g\/g=g0) Own Rd)(h:Tl Sh Old lJ Own Rd t)(F:¬lJ g0){x y:fq}(C:x.g=0/\x.act=.go g0)(E:y.g=g0/\y.act=.start)(G:dg t 0=0)(hk:dg t g0=0):Tl Sh Old (λg=>lJ g\/g=g0) Own Rd<|t++#[x,y]:=by
 have f:∀op∈#[x,y],∀b,op.act.touch?=K b->False:=by intro op c b d;simp[iC,aoM,List.not_mem_nil,or_false]at c;obtain rfl|rfl:=c;(.rw[C.2]at d;cases d);.rw[E.2]at d;cases d
 have q:∀{i:V}{a:Touch},touchAt (t++#[x,y]) i=K a->touchAt t i=K a:=by intro i a o;let⟨S,J,R⟩:=cY o;obtain⟨_,D⟩|⟨_,P⟩:=dK J;(.rwa[dL D]);grind
 refine⟨h.De.app λop c b d _=>(f op c b d).elim,λg j l k=>?_,λg j l k=>?_,λl v hs n k=>(h.Dq l v hs n λg j=>k g (N j)).app λop c b d _=>(f op c b d).elim,λl v hs n k=>(h.qL l v hs n λg j=>k g (N j)).app λop c b d _ _=>(f op c b d).elim,λi a o v n=>(h.lS i a (q o) v n).imp (·.app _) id,λs=>?_⟩;.let⟨s1,s2,s3⟩:=r.IW g l j k;obtain j|rfl:=j;(.exact(h.jV g j l k).app λop c b d _=>(f op c b d).elim);.exactλi a o e=>fork_knows C E G hk<|h.Dq l s3 s1 s2 (λw m=>⟨λn=>F<|r.jV w _ l (N m) (W rfl) n k▸m,r.L6 _ w l (W rfl) (N m) k⟩) i a (q o) e
 .let⟨s1,s2,s3⟩:=r.Ix g l j k;obtain j|rfl:=j;(.exact(h.rd g j l k).app λop c b d _ _=>(f op c b d).elim);.exactλi a o e H=>fork_knows C E G hk<|h.qL l s3 s1 s2 (λw m n=>r.L6 w _ l (N m) (W rfl) n k) i a (q o) e H
 .rw[(by grind:t++#[x,y]=(t++#[x])++#[y])];refine ft (g:=g0) (ft (g:=0) (h.nr s) (λop c=>pC) λi a _ op c b d _=>(f op pC b d).elim) (λop c=>pC) λi a _ op c b d _=>(f op pC b d).elim
def Tl.P7{b:Loc->U}(h:Past b f t)(k:∀i a,touchAt t i=K a->¬Sh a.loc):Tl Sh b (λ_=>False) Own Rd t:=by
 refine⟨λi op x hi m hs=>zW hs<|k i x<|by rwa[dL hi],λ_ j=>j.elim,λ_ j=>j.elim,λl c hs g _=>?_,λl c hs g _=>?_,λi a d c g=>(h.known i a d c).imp id (·.2),h.clean⟩;.exactλi a d e=>(h.known i a d<|e▸c).resolve_right λx=>g (e▸x.1)
 .exactλi a d e _=>(h.known i a d<|e▸c).resolve_right λx=>g (e▸x.1)
end
structure Kn(Old:Loc->U)(lJ:V->U)(t:bj):U where
 rV:∀i a g,touchAt t i=some a->a.loc.isMemory=true->t.g? i=some g->lJ g\/Knows t 0 i\/(Old a.loc/\a.kind=.atomic)
 over:∀i g,t.g? i=some g->g≠0->t.counts i->lJ g\/∃j,t.g? j=some 0/\iD t i j
structure ya(Sh:Loc->U)(a:ah)(t:bj)(k r:V):U extends RelBy a t k r where
 ov:∀i x,r<i->t.g? i=some k->touchAt t i=some x->Sh x.loc
section
variable{Sh Old:Loc->U}{lJ:V->U}{t u:bj}
def EK{t:bj}{i:V}{op:fq}(h:t[i]?=K op):t.g? i=K op.g:=by simp[Trace.g?,h]
def Kn.P7{b:Loc->U}(h:Past b f t):Kn b (λ_=>False) t:=⟨λi a g k c _=>W<|h.known i a k c,λi g j d e=>W<|h.over i g j d e⟩
def Kn.jh{b:V->U}(h:Kn Old lJ t)(d:∀g,lJ g->b g):Kn Old b t:=⟨λi a g j f c=>(h.rV i a g j f c).imp (d g) id,λi g c k e=>(h.over i g c k e).imp (d g) id⟩
def Kn.app(h:Kn Old lJ t)(s:∀op∈u,op.g=0\/lJ op.g\/op.act.touch?=B):Kn Old lJ<|t++u:=by
 refine⟨λi a g C q y=>?_,λi g y r w=>?_⟩;.let⟨x,b,v⟩:=cY C;obtain⟨hi,l⟩|⟨_,d⟩:=dK b;(.exact(h.rV i a g (by rwa[dL l]) q<|by rwa[<-fu hi]).imp id (Or.imp (·.app u) id));. (have e:g=x.g:=by have:=EK b;grind);obtain m|m|m:=s x d;(.have:=knows_own b;grind);(.grind);grind
 .let⟨x,b,f⟩:=w;let⟨op,c,F⟩:=cY b;obtain⟨hi,n⟩|⟨_,o⟩:=dK c;(.refine(h.over i g (by rwa[<-fu hi]) r<|(counts_old hi).1 ⟨x,b,f⟩).imp id λ⟨j,E,D⟩=>?_;(have k:j<t:=by unfold Trace.g? at E;grind);exact⟨j,by rwa[fu k],hb_app u D⟩);. (have e:g=op.g:=by have:=EK c;grind);grind
def ya.app{a:ah}{g r:V}(h:ya Sh a t g r)(n:∀op∈u,op.g=g->∀x,op.act.touch?=K x->Sh x.loc)(k:∀i,t.size<=i->(t++u).g? i=K g->¬(t++u).counts i):ya Sh a (t++u) g r:=by
 refine⟨h.toRelBy.app k,λi x hi m j=>?_⟩;let⟨op,c,l⟩:=cY j;obtain⟨d,b⟩|⟨_,f⟩:=dK c;.exact h.ov i x hi (by rwa[<-fu d])<|by rwa[dL b]
 . (have e:g=op.g:=by have:=EK c;grind);grind
def adv{a:ah}{q:V}(hk:Kn Old lJ t)(hp:∀g,lJ g->g≠0)(all:∀g,lJ g->∃r,ya Sh a t g r/\r<q)(P:NoRelease a t)(hq:t.act? q=K (.mark<|.acquire a))(X:t.g? q=K 0)(G:t.heard q)(nr:∀n,¬Race n t)(hd:dg t 0=0)(R:∀op∈t,op.act.low f):Past (λl=>Old l\/Sh l) f t:=by
 have o:∀{g r:V},ya Sh a t g r->r<q->iD t r q:=λd b=>.single<|W ⟨.marked b (W d.act) hq λk _ _=>P k,d.heard,G⟩;have upto:∀{g r i:V},ya Sh a t g r->r<q->t.g? i=K g->i<=r->iD t i q:=by intro g r i d b e m;obtain c|S:=fw i r;(.exact .trans (.single<|N ⟨c,g,e,d.g⟩)<|o d b);grind
 have C:∃s,t[q]?=K s/\s.g=0:=by unfold Trace.g? at X;grind
 refine⟨nr,λi x v D=>?_,λi g e F E=>?_,hd,R⟩;.let⟨op,h,H⟩:=cY v;obtain j|j|j:=hk.rV i x op.g v D<|EK h;(.let⟨r,d,b⟩:=all _ j;by_cases m:i<=r;(.let⟨s,J,y⟩:=C;exact N ⟨q,s,J,y,W<|upto d b (EK h) m⟩);. (have c:r<i:=A);refine W ⟨W<|d.ov i x c (EK h) v,?_⟩;refine iw λw=>d.after i c (EK h) ⟨x,v,D,N w⟩);(.exact N j);grind
 .obtain j|j:=hk.over i g e F E;(.let⟨r,d,b⟩:=all _ j;have m:=aoW λc=>d.after i c e E;grind);.exact j
end
end
section
open Go.Conc Go.ConcN
variable{ok ok2:jO}{ρ ρ1 ρ2:jG}{P:T}
def xw(D:L fU)(k:fV):L M->U|[]=>False|[f]=>f.defers=D/\f.kind=k|_::f::l=>xw D k (f::l)
def xw.top{D:L fU}{k:fV}{f a:M}{l:L M}(h:xw D k<|f::l)(hd:a.defers=f.defers)(hk:a.kind=f.kind):xw D k<|a::l:=by cases l with|nil=>exact⟨au hd h.1,au hk h.2⟩|cons g l=>exact h
def Lf(f:M)(v:O):(f.finish v).defers=f.defers/\(f.finish v).kind=f.kind:=by unfold eH;grind
def akA{D:L fU}{C:fV}{l:L M}{w J:Q}{G:Z ao}(s:xw D C l)(d:(jV P l).runT P w #[]=(ar H J,G)):xw D C H:=by cases l with|nil=>cases d|cons fr E=>let⟨fn,g,q,e,j,kind,round⟩:=fr;(have lh:∀{k:L cG}{m:ir},(bH<|⟨fn,g,k,e,m,kind,round⟩::E).runT P w #[]=(ar H J,G)->xw D C H:=by intro k m h;cases h;exact s.top rfl rfl);(have fin:∀{v:O}{S:Q}{u:Z ao},(bH<|eH ⟨fn,g,q,e,j,kind,round⟩ v::E).runT P S u=(ar H J,G)->xw D C H:=by intro v S u h;cases h;exact s.top (Lf _ _).1 (Lf _ _).2);unfold jV at d;simp only at d;cases j with|panicking c=>cases d|returning=>(cases E with|nil=>cases d|cons c E=>cases ef:P.funcs[fn]? with|none=>simp_all|some f=>rw[ef]at d;simp only at d;rw[sK]at d;cases er:(cV f g).runT P w #[]with|mk r F=>rw[er]at d;cases r with|halt x w1=>cases d|ok v w1=>cases d;exact xw.top s (Lf _ _).1 (Lf _ _).2)|run=>cases q with|nil=>exact lh d|cons it k=>cases it with|code c=>(cases c with|skip=>exact lh d|ret=>exact lh d|seq a b=>exact lh d|block id b=>exact lh d|loop b=>exact lh d|cond c x y=>simp only at d;split at d;(.exact lh d);.cases d|exit id=>simp only at d;split at d;(.exact lh d);.cases d|region id ops t=>simp only at d;(cases t with|false=>exact lh d|true=>simp only[fg,aT,DP]at d;rw[sK]at d;simp[choose,ai,eJ,aT,DP]at d;cases d;exact s.top rfl rfl)|_=>cases d)|inBlock id=>exact lh d|inLoop b=>exact lh d|inRegion ops l=>(cases l with|nil=>exact lh d|cons i rest=>simp only at d;cases X:ops[i]? with|none=>rw[X]at d;exact fin d|some o=>rw[X]at d;simp only at d;split at d;(.rw[sK]at d;generalize(cF _ o).runT P w #[]=rr at d;let⟨r,F⟩:=rr;cases r with|halt x w1=>cases d|ok n w1=>cases n with|value v=>exact fin d|skip=>exact fin d|enter f R=>cases d;exact s|_=>cases d);.exact fin d)|_=>cases d
def abg(F:Fits ok P)(y:qa ok P)(g:I)(base:L M){l la:L M}{wh w:Q}(hL:ql ok P ρ l la)(m:lF ok ρ wh w)(x:tL ok ρ)(hd:wH ok P l)(h:∀v d,∃J H R,(jV P l).runT P (wh.re v d) #[]=(ar J H,R))(d:V):∃ρ1 l1 w1 j fr X n a c e,la=fr::X/\(jV P l).runT P (wh.re w.tape d) #[]=(ar l1 w1,j)/\ak P g (G fr<|X++base) (w.at d)=.go (G n<|a++base) c (seen P fr.fn e)/\ql ok P ρ1 l1 (n::a)/\uL ok ρ ρ1 (wh.re w.tape d) w1 (w.at d) c e/\∀D k,xw D k la->xw D k (n::a):=by
 let⟨l1,w1,j,t⟩:=h w.tape d;let⟨ρ1,b,c,e,o,E,C⟩:=FE _ (esa:=#[]) (FK F y m.inj x hL hd) (⟨m.inj,m.gs,m.rn,m.nU,m.kD⟩:lF ok ρ (wh.re w.tape d)<|w.at d) t λi hi=>rfl;simp only[aoU]at o;obtain⟨fr,X,rfl⟩:∃fr X,la=fr::X:=by cases hL with|one=>simp|cons=>simp
 let⟨f0,s⟩:=(by cases hL with|one h=>exact⟨_,h⟩|cons h=>exact⟨_,h⟩:∃f,qD ok P ρ f fr);have q:fr.mode=dP->Plain fr:=by intro hm;cases hL with|cons _ u _=>exact u|one _=>unfold jV at o;simp_all
 obtain⟨n,a,rfl,r⟩:=Lw g base s.yp s.zP q o;exact⟨ρ1,l1,w1,j,fr,X,n,a,c,e,rfl,t,r,E,C,λD k S=>akA S o⟩
section
variable{wh w1 wh2 w wa1:Q}{es:Z ao}
def Q2(D:uL ok ρ ρ1 wh w1 w wa1 es)(e:f<w)(g:∀b,ρ b f->nI wh b):wa1.heap[f]?=w.heap[f]?:=by
 by_cases d:∃c,ρ c f;.let⟨c,a⟩:=d;exact(D.vp c<|g c a).2 f a
 .exact D.kD f e λc a=>d ⟨c,a⟩
end
def xe:Loc->V->U|aN a,n=>a.block=n|aD r,n=>r=n|_,_=>False
def aka(ρ:jG)(wh:Q)(l:Loc):U:=∃b a,ρ b a/\xe l a/\¬nI wh b
def amE(ρ:jG)(wh:Q)(l:Loc):U:=∃b a,ρ b a/\xe l a/\nI wh b
def Sq{l:Loc}{n:V}(h:xe l n):l.isMemory=ae:=by cases l<;>first|rfl|exact h.elim
def Mm{l:Loc}{n:V}(h:xe l n)(b:xe l f):n=f:=by cases l with|cell a=>exact(h).symm.trans b|obj r=>exact(h).symm.trans b|_=>exact h.elim
def Va{w1:Q}{e:ao}(h:AE ρ w1 e){x:Touch}(d:(aE e).touch?=K x):x.kind=.plain/\(aka ρ w1 x.loc\/(amE ρ w1 x.loc/\x.write=p)):=by let⟨i,wr,k⟩:=e;cases i with|cell a=>let⟨g,b,c,j⟩:=h;simp at g c j;subst g;simp[aE,bG,dz]at d;subst d;refine⟨rfl,?_⟩;by_cases hs:nI w1 b;(.exact W ⟨⟨b,a.block,c,rfl,hs⟩,pC⟩);.exact N ⟨b,a.block,c,rfl,hs⟩|obj r=>let⟨g,b,c,j⟩:=h;simp at g c j;subst g;rw[(by cases wr<;>rfl:aE ⟨.obj r,wr,p⟩=.access ⟨.obj r,wr,p⟩)]at d;simp[bG,dz]at d;subst d;refine⟨rfl,?_⟩;by_cases hs:nI w1 b;(.exact W ⟨⟨b,r,c,rfl,hs⟩,pC⟩);.exact N ⟨b,r,c,rfl,hs⟩|mark m=>(cases m with|extern f=>simp[aE,bG]at d|noRoom=>simp[aE,bG]at d|_=>exact h.elim)|_=>exact h.elim
def XA{f c:Loc->U}{lJ:V->U}{Own d:V->Loc->U}{w1:Q}(k:∀b a,ρ b a->∀l,xe l a->¬f l/\¬c l)(n:∀g,lJ g->∀b a l,ρ b a->xe l a->¬Own g l/\(¬nI w1 b->¬d g l)){e:ao}(h:AE ρ w1 e)(fn:bn)(pos:String):EN f c lJ Own d {g:=0,fn,pos,act:=aE e}:=by
 refine⟨rfl,λx i=>W ?_⟩;let⟨_,m⟩:=Va h i;have key:∃b a,ρ b a/\xe x.loc a/\(x.write=ae->¬nI w1 b):=by obtain⟨b,a,j,q,r⟩|⟨⟨b,a,j,q,_⟩,r⟩:=m;(.grind);grind
 grind
end
section
open Go.Conc Go.ConcN
open Go.ConcR(KK wgBlock WgAt stA smA rd wr mk Payload DC0 Bk g_of_ofEvents)
structure Gh where
 ρ:jG
 l:L M
 wh:Q
 bs:V
structure pP where
 ty:z
 Wg:V
 C:V
 R:V
 U4:z
 Xa:V
 nk:O
 n0:V
 N0:V
 N1:V
 w1:Q
 Ew:V->U
 tG:Loc->U
 ok:jO
 nJ:L M
 qS:L fU
 rm:fV
 S:V->L M->Q->U
 lo:V->V
 hi:V->V
 AF:V->Gh->(V->n6 O)->U
section
variable[cH](J:pP)
def xy(w:Q):U:=∃a:Z O,w.heap[J.R]?=K (bN a J.U4)/\a=J.Xa
def Nd(w:Q):U:=w.heap[J.C]?=K (bN #[J.nk] Payload.ety)
def CH(i:V)(w:Q)(o:V):n6 O:=if J.lo i<=o/\o<J.hi i then aJ w (J.R o B)else B
def Out(i:V)(E:Gh)(w:Q):U:=J.AF i E<|CH J i w
structure RT(i:V)(w w₁:Q):U where
 qq:cJ J.ty J.Wg w->cJ J.ty J.Wg w₁
 xI:w₁.heap[J.C]?=w.heap[J.C]?
 jT:xy J w->xy J w₁
 ou:∀o,J.lo i<=o->o<J.hi i->aJ w₁ (J.R o none)=aJ w (J.R o none)
structure DT(i:V)(w w':Q)(es:Z ao):U where
 jB:w'=w.heap.size
 jg:∀b,b≠J.R->w'.heap[b]?=w.heap[b]?
 jT:xy J w->xy J w'
 ou:∀o,¬(J.lo i<=o/\o<J.hi i)->aJ w' (J.R o none)=aJ w (J.R o none)
 ev:∀e∈es,∃o wr,e=⟨aN<|J.R o none,wr,false⟩/\J.lo i<=o/\o<J.hi i
 os:w'.os=w.os
 wJ:w'.output=w.output
end
section
variable[cH]{J:pP}{i:V}{w w₁ w₂:Q}
def RT.nH(w:Q):RT J i w w:=⟨id,rfl,id,λ_ _ _=>rfl⟩
def RT.jA(h:RT J i w w₁)(c:RT J i w₁ w₂):RT J i w w₂:=⟨c.qq∘h.qq,au c.xI h.xI,c.jT∘h.jT,λo a b=>au (c.ou o a b)<|h.ou o a b⟩
def RT.at(w:Q)(d:V):RT J i w<|w.at d:=⟨id,rfl,id,λ_ _ _=>rfl⟩
def RT.rw(h:RT J i w w₁):RW J.ty J.Wg J.C 1 0 0 w w₁:=⟨λb c=>zW c A,h.qq,λ⟨d,a,b⟩=>⟨d,au h.xI a,b⟩,fX h.xI 0⟩
def Za(h:∀o,J.lo i<=o->o<J.hi i->aJ w₁ (J.R o B)=aJ w (J.R o B)):CH J i w₁=CH J i w:=by funext o;unfold CH;grind
def RT.kD(h:RT J i w w₁){E:Gh}(a:Out J i E w):Out J i E w₁:=by unfold Out at*;rwa[Za h.ou]
end
inductive WS [cH](P:T)(J:pP)(i:V)(E:Gh):V->V->V->V->aj->Q->U|pre{m:V}{g:aj}{w:Q}(hs:Safe J.ok P (J.S i) E.l E.wh)(h:Goes P false (RW J.ty J.Wg J.C 1 0 0) DC0 (λg _=>∃f X,g=G f (X++J.nJ)/\ql J.ok P E.ρ E.l (f::X)/\xw J.qS J.rm (f::X)) m g w):WS P J i E 2 7 m 0 g w|gh{f:M}{X:L M}{w:Q}(hs:Safe J.ok P (J.S i) E.l E.wh)(h:ql J.ok P E.ρ E.l<|f::X)(hb:xw J.qS J.rm<|f::X):WS P J i E 1 7 0 0 (G f<|X++J.nJ) w|tail{m:V}{g:aj}{w:Q}(h:Goes P false (RT J i) (DT J i) (λg w=>AtR0 P J.ty J.Wg J.C 1 0 1 J.nk g w/\Out J i E w) m g w):WS P J i E 0 7 m 0 g w|Co{s m d:V}{g:aj}{w:Q}(hs:s<=6)(h:WSit P J.ty J.Wg J.C 1 (λ_ _=>False) (λ_ _=>False) 0 1 J.nk s m d g w):WS P J i E 0 s m d g w
section
variable[cH]{P:T}{J:pP}{i:V}{E:Gh}{u s m d:V}{g:aj}{w w₁:Q}
def WS.rely(h:WS P J i E u s m d g w)(c:RT J i w w₁):WS P J i E u s m d g w₁:=by cases h with|pre hs h=>exact .pre hs<|aoX (λ_ _ _ a b=>a.trans b) h c.rw|gh hs h e=>exact .gh hs h e|tail h=>exact .tail<|aoX (λ_ _ _ a b=>a.jA b) h c|Co hs h=>exact .Co hs<|h.rely c.rw
def WS.S4(h:WS P J i E u s m d g w):g.status=bC\/g.status=.finished:=by cases h with|pre hs h=>exact N<|aoY (λg w⟨f,X,e,_⟩=>by rw[e];rfl) w (cr w) h|gh hs h a=>exact N rfl|tail h=>exact N<|aoY (λg w x=>x.1.1) w (RT.nH w) h|Co hs h=>exact h.status
def WS.Ql(h:WS P J i E u s m d g w)(a b:aj)(c:Q):woken P a b c g=g:=by
 unfold Go.Conc.woken;split;.exact again_running _ h.S4
 .rfl
end
def Dj(J:pP)(j:V)(E:V->Gh)(g:V)(l:Loc):U:=∃i,i<j/\g=J.n0+i/\((∃b a,(E i).ρ b a/\(E i).bs<=a/\xe l a)\/∃o,l=aN (J.R o B)/\J.lo i<=o/\o<J.hi i)
def DX(J:pP)(j:V)(E:V->Gh)(g:V)(l:Loc):U:=∃i,i<j/\g=J.n0+i/\∃b a,(E i).ρ b a/\a<(E i).bs/\xe l a
def lJ(J:pP)(j g:V):U:=J.n0<=g/\g<J.n0+j
structure Stat(J:pP):U where
 rw:J.R≠J.Wg
 cw:J.C≠J.Wg
 rc:J.R≠J.C
 jI:∀i i' o,J.lo i<=o->o<J.hi i->J.lo i'<=o->o<J.hi i'->i=i'
 NK:∀a:ah,a.block=J.Wg->¬J.tG (aN a)
 U8:∀l,xe l J.R->¬J.tG l
 kZ:∀l,J.tG l->l.low J.N0
 sf:0<J.n0
structure Mem [cH](ok:jO)(J:pP)(j:V)(E:V->Gh)(ρ0:jG)(wh0 w:Q):U where
 oq:lF ok ρ0 wh0 w
 Bb:tL ok ρ0
 kV:∀i,i<j->lF J.ok (E i).ρ (E i).wh w
 n9:∀i,i<j->tL J.ok (E i).ρ
 AX:∀i,i<j->∀b b',(E i).ρ b b'->(E i).bs<=b'->(∀i',i'<j->i'≠i->∀c,¬(E i').ρ c b')/\∀c,¬ρ0 c b'
 BG:∀i,i<j->∀b b',(E i).ρ b b'->b'<(E i).bs->nI (E i).wh b
 xZ:∀i,i<j->∀b c b',ρ0 b b'->(E i).ρ c b'->nI wh0 b
 yU:∀b b',ρ0 b b'->b'<ok.lS.tY.size->nI wh0 b
 uw:∀i,i<j->∀b b',(E i).ρ b b'->b'≠J.Wg/\b'≠J.R/\(b'=J.C->b'<(E i).bs)/\∀l,xe l b'->¬J.tG l
 vV:∀b b',ρ0 b b'->b'≠J.Wg/\b'≠J.R/\(b'=J.C->nI wh0 b)/\∀l,xe l b'->¬J.tG l
 xX:∀i,i<j->(E i).bs<=w/\ok.lS.tY.size<=(E i).bs
 lt:J.Wg<w/\J.C<w/\J.R<w/\J.N0<=w/\ok.lS.tY.size<=J.Wg/\ok.lS.tY.size<=J.R
 xI:Nd J w
 jT:xy J w
 jr:∀b',b'<ok.lS.tY.size->w.heap[b']?=ok.lS.tY[b']?
 Dv:∀b',J.Ew b'->w.heap[b']?=J.w1.heap[b']?/\b'≠J.Wg/\b'≠J.R/\b'<J.N1/\∀b,ρ0 b b'->nI wh0 b
 n1:J.N1<=w/\∀i,i<j->J.N1<=(E i).bs
section
variable[cH]{ok:jO}{J:pP}{j:V}{E:V->Gh}{ρ0:jG}{wh0 w:Q}
def Mem.NW(X:Stat J)(h:Mem ok J j E ρ0 wh0 w):J6 (ShN J.Wg) J.tG (lJ J j) (Dj J j E)<|DX J j E:=by
 have same:∀{i n b:V}{f c:V},i<j->n<j->(E i).ρ b f->(E i).bs<=f->(E n).ρ c f->n=i:=by intro i n b f c hi v G H hc;exact iw λaa=>(h.AX i hi b f G H).1 n v aa c hc
 have ac:∀{i b o:V},i<j->¬(E i).ρ b J.R:=λhi G=>(h.uw _ hi _ _ G).2.1 rfl;refine⟨?_,?_,?_,?_,?_,?_⟩;.rintro g g' l _ _⟨i,hi,rfl,x⟩⟨n,v,rfl,h2⟩;obtain⟨b,C,k,q,r⟩|⟨o,rfl,k,q⟩:=x<;>obtain⟨c,c',p',F,y⟩|⟨o',e,p',F⟩:=h2;(.obtain rfl:=Mm r y;grind);(.subst e;obtain rfl:J.R=C:=r;simp_all);(.obtain rfl:J.R=c':=y;simp_all);.simp[Loc.cell.injEq,Addr.mk.injEq,true_and,and_true]at e;subst e;rw[X.jI i n o k q p' F]
 .rintro g g' l _ _⟨i,hi,rfl,x⟩⟨n,v,rfl,c,c',p',F,y⟩;obtain⟨b,C,k,q,r⟩|⟨o,rfl,k,q⟩:=x;(.obtain rfl:=Mm r y;grind);.obtain rfl:J.R=c':=y;simp_all
 .rintro g l _⟨i,hi,rfl,x⟩;obtain⟨b,C,k,q,r⟩|⟨o,rfl,k,q⟩:=x;(.let⟨D,a2,a3,S⟩:=h.uw i hi _ _ k;refine⟨?_,S l r,Sq r⟩;rintro⟨a,rfl,t⟩;exact D<|(r).symm.trans t);.refine⟨?_,λho=>?_,rfl⟩;(.rintro⟨a,e,t⟩;simp[Loc.cell.injEq]at e;subst e;exact X.rw t);.exact X.U8 (aN<|J.R o B) rfl ho
 .rintro g l _⟨i,hi,rfl,b,C,k,q,r⟩;let⟨D,a2,a3,S⟩:=h.uw i hi _ _ k;refine⟨?_,S l r,Sq r⟩;rintro⟨a,rfl,t⟩;exact D<|(r).symm.trans t
 .rintro l ho⟨a,rfl,t⟩;exact X.NK a t ho
 .rintro g⟨x,_⟩;have:=X.sf;omega
def Tl.jY{y n:Loc->U}{lJ:V->U}{Own r f k:V->Loc->U}{t:bj}(h:Tl y n lJ Own r t)(o:∀g l,lJ g->(f g l↔Own g l))(v:∀g l,lJ g->(k g l↔r g l)):Tl y n lJ f k t:=⟨h.De,λg e l q=>h.jV g e l<|(o g l e).1 q,λg e l q=>h.rd g e l<|(v g l e).1 q,λl a b c d=>h.Dq l a b c λg e=>⟨λx=>(d g e).1<|(o g l e).2 x,λx=>(d g e).2<|(v g l e).2 x⟩,λl a b c d=>h.qL l a b c λg e x=>d g e ((o g l e).2 x),h.lS,h.nr⟩
def WH{op:fq}(h:op.act.low f){x:Touch}(a:op.act.touch?=K x):x.loc.low f:=by let⟨g,fn,pos,b⟩:=op;simp at h a;cases b with|access e=>simp[bG,dz]at a;subst a;exact h|mark m=>cases m<;>simp[bG,dz,reduceCtorEq]at a<;>(subst a;exact h)|_=>simp[bG]at a
structure Dx(J:pP)(i:V)(e E':Gh)(w w':Q):U where
 bs:E'.bs=e.bs
 kV:lF J.ok E'.ρ E'.wh w'
 le:e.ρ.le E'.ρ
 qw:∀b b',E'.ρ b b'->e.ρ b b'\/w<=b'
 vp:∀b b',E'.ρ b b'->b'<e.bs->nI E'.wh b
 jB:w<=w'.heap.size
 jg:∀b',b'<w.heap.size->(∀c,e.ρ c b'->b'<e.bs)->b'≠J.Wg->b'≠J.R->w'.heap[b']?=w.heap[b']?
def E8{ok:jO}{ρ:jG}{wh w w':Q}(h:lF ok ρ wh w)(hs:w<=w'.heap.size)(f:∀b a,ρ b a->w'.heap[a]?=w.heap[a]?)(c:w'.os=w.os/\w'.output=w.output):lF ok ρ wh w':=⟨h.inj,⟨h.gs.1,cT h.gs.2 hs⟩,h.rn,λ{b a}x=>by let⟨o,e,e1,e2,e3⟩:=h.nU x;grind,au c.1 h.kD.1,au c.2 h.kD.2⟩
def PD{ok:jO}{ρ c:jG}{wh b w a:Q}(h:lF ok ρ wh w)(e:lF ok c b a):a.os=w.os/\a.output=w.output:=⟨au e.kD.1 h.kD.1.symm,au e.kD.2 h.kD.2.symm⟩
def Mem.MJ(X:Stat J)(h:Mem ok J j E ρ0 wh0 w){i:V}(hi:i<j){E':Gh}{H:Q}(D:Dx J i (E i) E' w H)(hv:H.heap[J.C]?=w.heap[J.C]?)(hr:xy J w->xy J H):Mem ok J j (upd E i E') ρ0 wh0 H:=by
 have uu:∀{n b k:V},n<j->n≠i->(E n).ρ b k->H.heap[k]?=w.heap[k]?:=by intro n b k f v o;let⟨R,S,_,_⟩:=h.uw n f b k o;exact D.jg k ((h.kV n f).lt o).2 (λc q=>(iE λy=>(h.AX i hi c k q y).1 n f v b o)) R S
 have ac:∀{b k:V},ρ0 b k->H.heap[k]?=w.heap[k]?:=by intro b k o;let⟨R,S,_,_⟩:=h.vV b k o;exact D.jg k (h.oq.lt o).2 (λc q=>(iE λy=>(h.AX i hi c k q y).2 b o)) R S
 have G:∀{b k:V},w<=k->(∀n,n<j->∀c,¬(E n).ρ c k)/\∀c,¬ρ0 c k:=by intro b k o;exact⟨λn f c q=>by have:=((h.kV n f).lt q).2;omega,λc q=>by have:=(h.oq.lt q).2;omega⟩
 have ad:=(h.xX i hi).1;refine⟨E8 h.oq D.jB (λb k o=>ac o)<|PD (h.kV i hi) D.kV,h.Bb,λn f=>?_,λn f=>?_,λn f b k o t=>?_,λn f b k o t=>?_,λn f b c k o q=>?_,h.yU,λn f b k o=>?_,h.vV,λn f=>?_,?_,au hv h.xI,hr h.jT,λk F=>?_,λk F=>?_,?_⟩;.by_cases e:n=i;(.subst e;rw[aq];exact D.kV);.rw[az E _ e];exact E8 (h.kV n f) D.jB (λb k o=>uu f e o)<|PD (h.kV i hi) D.kV
 .by_cases e:n=i;(.subst e;rw[aq];exact(h.n9 n f).jh D.le);.rw[az E _ e];exact h.n9 n f
 .by_cases e:n=i;(.subst e;rw[aq]at o t;rw[D.bs]at t;obtain o|o:=D.qw b k o;(.let⟨p1,p2⟩:=h.AX n f b k o t;exact⟨λi2 aa v c q=>by rw[az E _ v]at q;grind,p2⟩);.let⟨p1,p2⟩:=G (b:=b) o;exact⟨λi2 aa v c q=>by rw[az E _ v]at q;grind,p2⟩);.rw[az E _ e]at o t;let⟨p1,p2⟩:=h.AX n f b k o t;refine⟨λi2 aa v c q=>?_,p2⟩;by_cases e2:i2=i;(.subst e2;rw[aq]at q;obtain q|q:=D.qw c k q;(.grind);simp_all);.rw[az E _ e2]at q;grind
 .by_cases e:n=i;(.subst e;rw[aq]at o t⊢;rw[D.bs]at t;exact D.vp b k o t);.rw[az E _ e]at o t⊢;exact h.BG n f b k o t
 .by_cases e:n=i;(.subst e;rw[aq]at q;obtain q|q:=D.qw c k q;(.exact h.xZ n f b c k o q);simp_all);.rw[az E _ e]at q;exact h.xZ n f b c k o q
 .by_cases e:n=i;(.subst e;rw[aq]at o⊢;obtain o|o:=D.qw b k o;(.let⟨R,S,a3,a4⟩:=h.uw n f b k o;exact⟨R,S,λx=>by rw[D.bs];exact a3 x,a4⟩);.let⟨l1,l2,l3,l4,_⟩:=h.lt;refine⟨A,A,λx=>A,λl hl ho=>?_⟩;have:=X.kZ l ho;cases l with|cell a=>simp[dy]at this;have e:a.block=k:=hl;omega|obj r=>simp[dy]at this;have e:r=k:=hl;omega|_=>exact hl.elim);.rw[az E _ e]at o⊢;exact h.uw n f b k o
 .by_cases e:n=i;(.subst e;rw[aq,D.bs];exact⟨cT (h.xX n f).1 D.jB,(h.xX n f).2⟩);.rw[az E _ e];exact⟨cT (h.xX n f).1 D.jB,(h.xX n f).2⟩
 .let⟨l1,l2,l3,l4,l5,l6⟩:=h.lt;have:=D.jB;omega
 .let⟨l1,l2,l3,l4,l5,l6⟩:=h.lt;refine au (D.jg k A (λc q=>?_) A A)<|h.jr k F;have:=(h.xX i hi).2;omega
 .let⟨s1,s2,s3,s4,s5⟩:=h.Dv k F;have n1:=h.n1.1;have n2:=h.n1.2 i hi;exact⟨au (D.jg k A (λc q=>A) s2 s3) s1,s2,s3,s4,s5⟩
 .refine⟨cT h.n1.1 D.jB,λn f=>?_⟩;by_cases e:n=i;(.subst e;rw[aq,D.bs];exact h.n1.2 n f);.rw[az E _ e];exact h.n1.2 n f
structure wW(ok:jO)(J:pP)(ρ0 ρ0':jG)(wh0 wh0' w w':Q):U where
 kV:lF ok ρ0' wh0' w'
 le:ρ0.le ρ0'
 qw:∀b b',ρ0' b b'->ρ0 b b'\/w<=b'
 vp:∀b,nI wh0 b->nI wh0' b
 jB:w<=w'.heap.size
 jg:∀b',b'<w.heap.size->(∀c,ρ0 c b'->nI wh0 c)->b'≠J.Wg->w'.heap[b']?=w.heap[b']?
def Mem.LI(X:Stat J)(h:Mem ok J j E ρ0 wh0 w){t:jG}{q G:Q}(D:wW ok J ρ0 t wh0 q w G):Mem ok J j E t q G:=by
 let⟨l1,l2,l3,l4,l5,l6⟩:=h.lt;have uu:∀{i b f:V},i<j->(E i).ρ b f->G.heap[f]?=w.heap[f]?:=by intro i b f hi k;let⟨v,S,_,_⟩:=h.uw i hi b f k;exact D.jg f ((h.kV i hi).lt k).2 (λc n=>h.xZ i hi c b f n k) v
 have aa:=D.jB;refine⟨D.kV,h.Bb.jh D.le,λi hi=>E8 (h.kV i hi) D.jB (λb f k=>uu hi k)<|PD h.oq D.kV,h.n9,λi hi b f k F=>?_,h.BG,λi hi b c f k n=>?_,λb f k H=>?_,h.uw,λb f k=>?_,λi hi=>⟨cT (h.xX i hi).1 D.jB,(h.xX i hi).2⟩,⟨A,A,A,A,l5,l6⟩,au (D.jg J.C l2 (λc n=>(h.vV c _ n).2.2.1 rfl) X.cw) h.xI,?_,λf o=>?_,λf o=>?_,cT h.n1.1 D.jB,h.n1.2⟩;.let⟨p1,p2⟩:=h.AX i hi b f k F;refine⟨p1,λc n=>?_⟩;obtain n|n:=D.qw c f n;(.exact p2 c n);.have:=((h.kV i hi).lt k).2;omega
 .obtain k|k:=D.qw b f k;(.exact D.vp b<|h.xZ i hi b c f k n);.have:=((h.kV i hi).lt n).2;omega
 .obtain k|k:=D.qw b f k;(.exact D.vp b<|h.yU b f k H);.omega
 .obtain k|k:=D.qw b f k;(.let⟨v,S,a3,a4⟩:=h.vV b f k;exact⟨v,S,λx=>D.vp b<|a3 x,a4⟩);.refine⟨A,A,λx=>A,λl y ho=>?_⟩;have:=X.kZ l ho;cases l with|cell a=>simp[dy]at this;have e:a.block=f:=y;omega|obj r=>simp[dy]at this;have e:r=f:=y;omega|_=>exact y.elim
 .let⟨cs,e1,e2⟩:=h.jT;exact⟨cs,au (D.jg J.R l3 (λc n=>zW rfl (h.vV c _ n).2.1) X.rw) e1,e2⟩
 .exact au (D.jg f A (λc n=>h.yU c f n o) A)<|h.jr f o
 .let⟨s1,s2,s3,s4,s5⟩:=h.Dv f o;have n1:=h.n1.1;refine⟨au (D.jg f A s5 s2) s1,s2,s3,s4,λb k=>?_⟩;obtain k|k:=D.qw b f k;(.exact D.vp b<|s5 b k);.omega
end
end
section
open Go.Conc Go.ConcN
open Go.ConcR(KK wgBlock WgAt stA smA rd wr mk Payload DC0 Bk g_of_ofEvents)
variable[cH]
structure Cy(ok:jO)(P:T)(J:pP)(j:V)(E:V->Gh)(D:V->WD)(U q:V->V)(ρ0:jG)(wh0:Q)(gs:Z aj)(w:Q)(t:bj)(d0:V):Prop where
 jB:gs=J.n0+j
 Ep:∀k g,0<k->k<J.n0->gs[k]?=some g->QuitsD P (q k) (dg t k) g
 Fg:∀k,J.n0+j<=k->dg t k=0
 wk:∀i,i<j->∃g,gs[J.n0+i]?=some g/\WS P J i (E i) (U i) (D i).stage (D i).fuel (D i).deaf g w
 ly:Mem ok J j E ρ0 wh0 w
 tl:Tl (ShN J.Wg) J.tG (lJ J j) (Dj J j E) (DX J j E) t
 kn:Kn J.tG (lJ J j) t
 Jf:NoRelease (stA J.Wg) t
 Ez:dg t 0=d0
 En:∀i,i<j->dg t (J.n0+i)=(D i).deaf
 kV:∀i,i<j->(D i).stage<=6->∃r,ya (ShN J.Wg) (stA J.Wg) t (J.n0+i) r
 kD:∀i,i<j->(D i).stage<=6->Out J i (E i) w
 kZ:∀op∈t,op.act.low w
section
variable{ok:jO}{P:T}{J:pP}{j:V}{E:V->Gh}{D:V->WD}{U q:V->V}{ρ0:jG}{wh0 w w':Q}{gs:Z aj}{t:bj}{d0:V}
def Mem.at(h:Mem ok J j E ρ0 wh0 w)(d:V):Mem ok J j E ρ0 wh0<|w.at d:=⟨⟨h.oq.inj,h.oq.gs,h.oq.rn,h.oq.nU,h.oq.kD⟩,h.Bb,λi hi=>let r:=h.kV i hi;⟨r.inj,r.gs,r.rn,r.nU,r.kD⟩,h.n9,h.AX,h.BG,h.xZ,h.yU,h.uw,h.vV,h.xX,h.lt,h.xI,h.jT,h.jr,h.Dv,h.n1⟩
def Cy.at(h:Cy ok P J j E D U q ρ0 wh0 gs w t d0)(d:V):Cy ok P J j E D U q ρ0 wh0 gs (w.at d) t d0:={h with wk:=λi hi=>let⟨g,a,hs⟩:=h.wk i hi;⟨g,a,hs.rely<|RT.at w d⟩,ly:=h.ly.at d,kD:=h.kD,kZ:=h.kZ}
def ajl(X:Stat J){g:V}(h:lJ J j g):g≠0:=by have:=X.sf;have:=h.1;omega
def ya.L8{d:Loc->Prop}{a:ah}{t u:bj}{k r g:V}(h:ya d a t k r)(f:∀op∈u,op.g=g)(m:g≠k):ya d a (t++u) k r:=h.app (λop c e=>zW ((f op c).symm.trans e) m) λi hi b=>by let⟨op,n,l⟩:=dF.1 b;grind
def Ni(h:∀op∈t,op.act.low w)(hs:w<=w'.heap.size){g:V}{fn:bn}{pos:String}{b:Z ao}(d:∀e∈b,(aE e).low w'):∀op∈t++aU g fn pos b,op.act.low w':=by
 intro op a;obtain a|a:=iN.1 a;.exact MemAct.low_mono hs<|h op a
 .obtain⟨e,c,rfl⟩:=bK a;exact d e c
def Cy.MJ(X:Stat J)(h:Cy ok P J j E D U q ρ0 wh0 gs w t d0){i:V}(hi:i<j){g g':aj}{es:Z ao}{R:Gh}{m' S:V}{fn:bn}{pos:String}(F:Dx J i (E i) R w w')(hv:w'.heap[J.C]?=w.heap[J.C]?)(am:xy J w->xy J w')(ac:∀d,d<j->d≠i->RT J d w w')(aS:WS P J i R f n m' S g' w')(aG:∀op∈aU (J.n0+i) fn pos es,J1 (ShN J.Wg) (Dj J j<|upd E i R) (DX J j<|upd E i R) (J.n0+i) op)(aB:∀e∈es,e.loc≠cf (.release<|stA J.Wg))(aL:aQ (D i).deaf es=S)(hrel:n<=6->∃r,ya (ShN J.Wg) (stA J.Wg) (t++aU (J.n0+i) fn pos es) (J.n0+i) r)(av:n<=6->Out J i R w')(al:∀e∈es,(aE e).low w'):Cy ok P J j (upd E i R) (upd D i ⟨n,m',S⟩) (upd U i f) q ρ0 wh0 (aM (gs.map<|woken P g g' w') (J.n0+i) g') w' (t++aU (J.n0+i) fn pos es) d0:=by
 have aR:=X.sf;have aa:lJ J j<|J.n0+i:=⟨A,A⟩;have G:=h.ly.MJ X hi F hv am;have aV:=(h.ly.xX i hi).1;refine⟨by simp[h.jB],λk x hk aI u=>?_,λk hk=>?_,λd c=>?_,G,?_,?_,h.Jf.app<|iF aB,?_,λd c=>?_,λd c o=>?_,λd c o=>?_,Ni h.kZ F.jB al⟩;.rw[dM _ _ _ _ A]at u;obtain⟨y,hy,rfl⟩:=dF.1 u;have hq:=h.Ep k y hk aI hy;rwa[fo hq,bJ t A _ bD]
 .rw[bJ t A _ bD];exact h.Fg k hk
 .by_cases e:d=i;(.subst e;exact⟨g',aoZ _ _ _<|by rw[h.jB];omega,by rwa[aq,aq,aq]⟩);.let⟨x,u,an⟩:=h.wk d c;refine⟨x,by rw[dM _ _ _ _ A,u,fH,an.Ql],?_⟩;rw[az D _ e,az E _ e,az U _ e];exact an.rely<|ac d c e
 .refine Tl.appW (G.NW X) ?_ aa aG;have hg:=Tl.grow h.tl (g0:=J.n0+i) (New:=λl=>∃b m,R.ρ b m/\w<=m/\xe l m) (λk a ha⟨b,m,_,hb,hl⟩=>by let⟨op,H,aC⟩:=cY ha;have:=WH (h.kZ op<|eG H) aC;cases hloc:a.loc with|cell ad=>rw[hloc]at this hl;simp[dy]at this;have e:ad.block=m:=hl;omega|obj r=>rw[hloc]at this hl;simp[dy]at this;have e:r=m:=hl;omega|_=>rw[hloc]at hl;exact hl.elim);refine hg.jY (λg l aw=>⟨?_,?_⟩) λg l aw=>⟨?_,?_⟩;(.rintro⟨d,c,rfl,u⟩;by_cases e:d=i;(.subst e;simp[aq]at u;obtain⟨b,m,s,v,r⟩|u:=u;(.obtain s|s:=F.qw b m s;(.rw[F.bs]at v;exact N ⟨d,c,rfl,N ⟨b,m,s,v,r⟩⟩);grind);.exact N ⟨d,c,rfl,W u⟩);.simp[az E _ e]at u;exact N ⟨d,c,rfl,u⟩);(.rintro(⟨d,c,rfl,u⟩|⟨rfl,b,m,s,v,r⟩);(.by_cases e:d=i;(.subst e;refine⟨d,c,rfl,?_⟩;simp[aq];obtain⟨b,m,s,v,r⟩|u:=u;(.exact N ⟨b,m,F.le _ _ s,by rwa[F.bs],r⟩);.exact W u);.exact⟨d,c,rfl,by simp[az E _ e];exact u⟩);.refine⟨i,hi,rfl,N ⟨b,m,?_,?_,r⟩⟩;(.simp[aq];exact s);.simp[aq];rw[F.bs];omega);(.rintro⟨d,c,rfl,b,m,s,v,r⟩;by_cases e:d=i;(.subst e;simp[aq]at s v;rw[F.bs]at v;obtain s|s:=F.qw b m s;(.exact⟨d,c,rfl,b,m,s,v,r⟩);.omega);.simp[az E _ e]at s v;exact⟨d,c,rfl,b,m,s,v,r⟩);.rintro⟨d,c,rfl,b,m,s,v,r⟩;by_cases e:d=i;(.subst e;exact⟨d,c,rfl,b,m,by simp[aq];exact F.le _ _ s,by simp[aq];rwa[F.bs],r⟩);.exact⟨d,c,rfl,b,m,by simp[az E _ e];exact s,by simp[az E _ e];exact v,r⟩
 .exact h.kn.app λop H=>W (N<|by rwa[bD op H])
 .rw[bJ t A _ bD];exact h.Ez
 .by_cases e:d=i;(.subst e;rwa[fT,h.En d c,aq]);.rw[bJ t A _ bD,h.En d c,az D _ e]
 .by_cases e:d=i;(.subst e;rw[aq]at o;exact hrel o);.rw[az D _ e]at o;let⟨r,hr⟩:=h.kV d c o;exact⟨r,hr.L8 bD A⟩
 .by_cases e:d=i;(.subst e;rw[aq]at o⊢;exact av o);.rw[az D _ e]at o;rw[az E _ e];exact(ac d c e).kD<|h.kD d c o
def Cy.LI(X:Stat J)(h:Cy ok P J j E D U q ρ0 wh0 gs w t d0){g g':aj}{n:Z ao}{fn:bn}{pos:String}{d:jG}{f:Q}(F:wW ok J ρ0 d wh0 f w w')(m:cJ J.ty J.Wg w')(S:∀op∈aU 0 fn pos n,EN (ShN J.Wg) J.tG (lJ J j) (Dj J j E) (DX J j E) op)(H:∀e∈n,e.loc≠cf (.release<|stA J.Wg))(v:∀e∈n,(aE e).low w'):Cy ok P J j E D U q d f (aM (gs.map<|woken P g g' w') 0 g') w' (t++aU 0 fn pos n)<|aQ d0 n:=by
 have ad:=X.sf;let⟨l1,l2,l3,l4,l5,l6⟩:=h.ly.lt;have hR:=F.jg J.R l3 (λc hc=>zW rfl (h.ly.vV c _ hc).2.1) X.rw;have s:∀i,RT J i w w':=λi=>⟨λ_=>m,F.jg J.C l2 (λc hc=>(h.ly.vV c _ hc).2.2.1 rfl) X.cw,λ⟨cs,a,b⟩=>⟨cs,au hR a,b⟩,λo _ _=>fX hR o⟩;refine⟨by simp[h.jB],λk x hk aa G=>?_,λk hk=>?_,λi hi=>?_,h.ly.LI X F,h.tl.app0 (h.ly.NW X) S,h.kn.app λop ac=>N (bD op ac),h.Jf.app<|iF H,by rw[fT,h.Ez],λi hi=>?_,λi hi l=>?_,λi hi l=>(s i).kD<|h.kD i hi l,Ni h.kZ F.jB v⟩;.rw[dM _ _ _ _ A]at G;obtain⟨y,hy,rfl⟩:=dF.1 G;have hq:=h.Ep k y hk aa hy;rwa[fo hq,bJ t A _ bD]
 .rw[bJ t A _ bD];exact h.Fg k hk
 .let⟨x,G,u⟩:=h.wk i hi;exact⟨x,by rw[dM _ _ _ _ A,G,fH,u.Ql],u.rely<|s i⟩
 .rw[bJ t A _ bD,h.En i hi]
 .let⟨r,hr⟩:=h.kV i hi l;exact⟨r,hr.L8 bD A⟩
def Cy.slip(X:Stat J)(h:Cy ok P J j E D U q ρ0 wh0 gs w t d0){k:V}(hk:0<k)(R:k<J.n0){g C:aj}{o:Z ao}{fn:bn}{pos:String}{n:V}(u:∀e∈o,e.mute=ae)(hq:QuitsD P n (aQ (dg t k) o) C):Cy ok P J j E D U (upd q k n) ρ0 wh0 (aM (gs.map<|woken P g C w) k C) w (t++aU k fn pos o) d0:=by
 have l:∀op∈aU k fn pos o,op.act.touch?=B:=λop b=>by obtain⟨e,f,rfl⟩:=bK b;exact touch_mute<|u e f
 refine⟨by simp[h.jB],λk2 x a m c=>?_,λk2 a=>?_,λi hi=>?_,h.ly,h.tl.appMute bD l,h.kn.app λop b=>W (W<|l op b),h.Jf.app ?_,?_,λi hi=>?_,λi hi s=>?_,h.kD,Ni h.kZ (bh _) λe f=>low_mute (u e f) _⟩;.by_cases e:k=k2;(.subst e;rw[aoV<|by simpa using pC]at c;obtain rfl:=fS c;rwa[aq,fT]);.rw[dM _ _ _ _ e]at c;obtain⟨y,G,rfl⟩:=dF.1 c;have v:=h.Ep k2 y a m G;rwa[fo v,az q n<|Ne.symm e,bJ t e _ bD]
 .rw[bJ t A _ bD];exact h.Fg k2 a
 .let⟨x,c,d⟩:=h.wk i hi;exact⟨x,by rw[dM _ _ _ _ A,c,fH,d.Ql],d⟩
 .refine iF λe f F=>?_;have:=u e f;let⟨H,wr,sy⟩:=e;simp at F;subst F;simp[Event.mute]at this
 .rw[bJ t A _ bD];exact h.Ez
 .rw[bJ t A _ bD];exact h.En i hi
 .let⟨r,S⟩:=h.kV i hi s;exact⟨r,S.L8 bD A⟩
end
end
section
open Go.Conc Go.ConcN
open Go.ConcR(KK wgBlock WgAt stA smA rd wr mk Payload DC0 Bk g_of_ofEvents bk_of_mute ofEvent_loc_mark ofEvent_cell deafBehind_cons deafBehind_one)
variable[cH]
def E9{a:Type}(r:V->a->a->Prop)(j:V)(y x:V->a):Prop:=∃i,i<j/\r i (y i) (x i)/\∀k,k<j->k≠i->y k=x k
omit[Payload]in theorem akB{c:Type}(r:V->c->c->Prop):∀(j:V)(x:V->c),(∀i,i<j->Acc (r i) (x i))->Acc (E9 r j) x:=by intro j;induction j with|zero=>exactλx _=>⟨_,λy⟨i,hi,_⟩=>zW hi A⟩|succ j v=>intro x l;(have key:∀a,Acc (r j) a->∀x,Acc (E9 r j) x->x j=a->(∀i,i<j->Acc (r i) (x i))->Acc (E9 r<|j+1) x:=by intro a t;induction t with|intro a _ q=>intro x l;induction l with|intro x _ g=>intro e b;refine⟨_,λy⟨i,hi,n,hk⟩=>?_⟩;obtain d|o:=fw i j;(.exact g y ⟨i,d,n,λk s f=>hk k A f⟩ (au (hk j A A) e) λm h=>by by_cases u:m=i;(.subst u;exact(b m h).inv n);grind);grind);grind
def LS(P:T)(S:L M->Q->Prop)(y x:L M×Q):Prop:=¬S x.1 x.2/\∃b d a,(jV P x.1).runT P (x.2.re b d) #[]=(ar y.1 y.2,a)
omit[Payload]in theorem afP{ok:jO}{P:T}{S:L M->Q->Prop}{l:L M}{wh:Q}(h:Safe ok P S l wh):Acc (LS P S) (l,wh):=by induction h with|stop h=>exact⟨_,λy⟨a,_⟩=>zW h a⟩|step hd h hs b=>exact⟨_,λy⟨a,c,d,f,e⟩=>b c d _ _ _ e⟩
def Gs(P:T)(S:L M->Q->Prop):n6 (L M×Q)->n6 (L M×Q)->Prop|K y,K x=>LS P S y x|_,_=>False
omit[Payload]in theorem Xs{P:T}{S:L M->Q->Prop}:Acc (Gs P S) B:=⟨_,λy h=>by cases y<;>exact h.elim⟩
omit[Payload]in theorem ajF{P:T}{S:L M->Q->Prop}{x:L M×Q}(h:Acc (LS P S) x):Acc (Gs P S) x:=by induction h with|intro x _ a=>refine⟨_,λy h=>?_⟩;cases y with|none=>exact Xs|some y=>exact a y h
structure Sn where
 gs:Z aj
 w:Q
 t:bj
 E:V->Gh
 D:V->WD
 U:V->V
 q:V->V
 st:Y
 sm:Y
structure mC(ok:jO)(P:T)(J:pP)(j:V)(ρ0:jG)(wh0:Q)(d0:V)(tag:cx)(s:Sn):Prop where
 cy:Cy ok P J j s.E s.D s.U s.q ρ0 wh0 s.gs s.w s.t d0
 wg:cN J.ty J.Wg s.w s.st s.sm
 rv:dk j s.D tag s.st s.sm
def kk(j:V)(s:Sn):V:=sumTo j λi=>3*(s.D i).stage+s.U i
def vv(s:Sn)(i:V):n6<|L M×Q:=if s.U i=0 then B else K ((s.E i).l,(s.E i).wh)
def ff(J:pP)(j:V)(s:Sn):V:=sumTo j (λi=>(s.D i).fuel)+sumTo J.n0 s.q
def Er(P:T)(J:pP)(j:V)(a s:Sn):Prop:=kk j a<kk j s\/(kk j a=kk j s/\(E9 (λi=>Gs P<|J.S i) j (vv a) (vv s)\/((∀i,i<j->vv a i=vv s i)/\ff J j a<ff J j s)))
def mC.acc{ok:jO}{P:T}{J:pP}{e:jG}{k:Q}{d0:V}{tag:cx}{s:Sn}(h:mC ok P J f e k d0 tag s):Acc (E9 (λi=>Gs P<|J.S i) f)<|vv s:=by
 refine akB _ f _ λi hi=>?_;unfold vv;split;.exact Xs
 .rename_i d;let⟨g,_,hs⟩:=h.cy.wk i hi;refine ajF<|afP (ok:=J.ok) ?_;generalize(s.D i).stage=a at hs;generalize(s.D i).fuel=b at hs;generalize(s.D i).deaf=c at hs;generalize s.U i=u at hs d;cases hs with|pre hs _=>exact hs|gh hs _ _=>exact hs|tail _=>exact zW rfl d|Co _ _=>exact zW rfl d
def Um{P:T}{J:pP}(d:Sn->Prop)(acc:∀s,d s->Acc (E9 (λi=>Gs P<|J.S i) f) (vv s))(a:Sn->Prop)(step:∀s,d s->(∀c,d c->Er P J f c s->a c)->a s):∀s,d s->a s:=by
 have key:∀(n:V)(x:V->n6 (L M×Q)),Acc (E9 (λi=>Gs P<|J.S i) f) x->(∀s,kk f s<n->d s->a s)->∀(m:V)s,kk f s=n->(∀i,i<f->vv s i=x i)->ff J f s=m->d s->a s:=by intro n x t G;induction t with|intro x _ l=>intro m;induction m using iy with|_ m r=>intro s hk u E q;refine step s q λc o b=>?_;obtain h|⟨D,v|⟨C,w⟩⟩:=b;(.grind);(.let⟨i,hi,F,g⟩:=v;exact l (vv c) ⟨i,hi,pC,λk e b=>au (g k e b)<|u k e⟩ (ff J f c) c A (λ_ _=>rfl) rfl o);grind
 intro s q;have all:∀n s,kk f s=n->d s->a s:=by intro n;induction n using iy with|_ n y=>grind
 grind
def PN(P:T)(J:pP):Prop:=∀(i:V)(E:Gh)(f:M)(a:L M)(w:Q),J.S i E.l E.wh->ql J.ok P E.ρ E.l (f::a)->xw J.qS J.rm (f::a)->lF J.ok E.ρ E.wh w->xy J w->Nd J w->cJ J.ty J.Wg w->∃m,Goes P p (RT J i) (DT J i) (λg w=>AtR0 P J.ty J.Wg J.C 1 0 1 J.nk g w/\Out J i E w) m (G f<|a++J.nJ) w
def An(a:aj)(tag:cx):Prop:=(a.status=bC/\tag≠bE)\/∃b:aj,a={b with status:=iG}/\b.status=bC/\b.offers=B/\tag=bE
def FW(a:aj)(tag:cx)(c:aj)(b:cx):Prop:=(c=a/\b=tag)\/(tag=bE/\b=.w3/\a={c with status:=iG}/\c.status=bC/\c.offers=B)
section
variable{ok:jO}{P:T}{J:pP}{j:V}{E:V->Gh}{D:V->WD}{U q:V->V}{ρ0:jG}{wh0 w w':Q}{gs:Z aj}{t:bj}{d0:V}{tag:cx}{a:aj}{st sm:Y}
omit[Payload]in theorem RH(h:An a tag)(g e:aj)(w':Q):∃b,FW a tag (woken P g e w' a) b/\An (woken P g e w' a) b/\(mayWake P g=ae->e.status=bC->b≠bE):=by
 obtain⟨c,d⟩|⟨f,rfl,c,d,rfl⟩:=h;.rw[woken_run c];exact⟨tag,N ⟨rfl,rfl⟩,N ⟨c,d⟩,λ_ _=>d⟩
 .unfold woken;split;(.rw[Go.ConcR.again_blocked c d];exact⟨.w3,W ⟨rfl,rfl,rfl,c,d⟩,N ⟨c,F0⟩,λ_ _=>F0⟩);.rename_i i;refine⟨bE,N ⟨rfl,rfl⟩,W ⟨f,rfl,c,d,rfl⟩,λx y=>?_⟩;grind
omit[Payload]in theorem FW.retag{c:aj}{b:cx}(h:FW a tag c b):b=tag\/(tag=bE/\b=.w3):=h.imp (·.2) λx=>⟨x.1,x.2.1⟩
omit[Payload]in theorem adK{Wg:V}{v:ah}{t:bj}{k r d:V}(h:ya (ShN Wg) v t k r)(o:dg t k=d)(fn:bn)(pos:String){m:Z ao}(l:∀e∈m,Bk Wg e)(hd:∀j e,m[j]?=K e->(aE e).touch?=B\/0<aQ d (m.extract 0 j)):ya (ShN Wg) v (t++aU k fn pos m) k r:=by
 refine⟨h.toRelBy.book o fn pos l hd,λi x hi G y=>?_⟩;let⟨op,n,c⟩:=cY y;obtain⟨s,g⟩|⟨_,f⟩:=dK n;.exact h.ov i x hi (by rwa[<-fu s])<|by rwa[dL g]
 .obtain⟨e,C,rfl⟩:=bK f;obtain u|u|⟨b,wr,rfl,F⟩:=l e C;(.simp[dN u]at c;cases c);(.simp[dN u]at c;cases c);.simp[dS,bG,dz]at c;subst c;exact⟨b,rfl,F⟩
omit[Payload]in theorem D4{Wg:V}(k:Wg<f){d:Z ao}(h:∀e∈d,Bk Wg e):∀e∈d,(aE e).low f:=by
 intro e g;obtain c|c|⟨b,wr,rfl,i⟩:=h e g;.rw[dN c];trivial
 .rw[dN c];trivial
 .rw[dS];simp[iH,dy];omega
omit[Payload]in theorem abM{Wg:V}{Own m:V->Loc->Prop}{k:V}{fn:bn}{pos:String}{g:Z ao}(h:∀e∈g,Bk Wg e):∀op∈aU k fn pos g,J1 (ShN Wg) Own m k op:=by
 intro op d;obtain⟨e,i,rfl⟩:=bK d;refine⟨rfl,λx c=>?_⟩;obtain f|f|⟨b,wr,rfl,l⟩:=h e i;.simp[dN f]at c;cases c
 .simp[dN f]at c;cases c
 .simp[dS,bG,dz]at c;subst c;exact N ⟨⟨b,rfl,l⟩,F0,F0⟩
def Dx.wG{i:V}(d:Mem ok J j E ρ0 wh0 w)(hi:i<j)(e:∀b,b≠J.Wg->w'.heap[b]?=w.heap[b]?)(hs:w'=w.heap.size)(g:w'.os=w.os/\w'.output=w.output:=by exact⟨rfl,rfl⟩):Dx J i (E i) (E i) w w':=⟨rfl,E8 (d.kV i hi) A (λb c k=>e c (d.uw i hi b c k).1) g,jG.le.nH _,λb c h=>N h,d.BG i hi,A,λc _ _ f _=>e c f⟩
def RT.wG(X:Stat J){i:V}(c:∀b,b≠J.Wg->w'.heap[b]?=w.heap[b]?)(e:cJ J.ty J.Wg w'):RT J i w w':=⟨λ_=>e,c J.C X.cw,λ⟨d,a,b⟩=>⟨d,au (c J.R X.rw) a,b⟩,λo _ _=>fX (c J.R X.rw) o⟩
end
end
section
open Go.Conc Go.ConcN
open Go.ConcR(KK wgBlock WgAt stA smA rd wr mk Payload DC0 Bk g_of_ofEvents bk_of_mute ofEvent_loc_mark ofEvent_cell deafBehind_cons deafBehind_one)
variable[cH]
omit[Payload]in theorem afn{c d:Type}(f:V->c)(g:V->d)(x:c)(y:d)(b:c->d->V){i:V}(hi:i<h):sumTo h (λa=>b (upd f i x a)<|upd g i y a)+b (f i) (g i)=sumTo h (λa=>b (f a)<|g a)+b x y:=by
 have:=fQ (λa=>(f a,g a)) (x,y) (λk=>b k.1 k.2) hi;have e:(sumTo h λa=>b (upd f i x a) (upd g i y a))=sumTo h λa=>b (upd (λa=>(f a,g a)) i (x,y) a).1 (upd (λa=>(f a,g a)) i (x,y) a).2:=sumTo_congr λa _=>by by_cases e:a=i;(.subst e;simp[aq]);.simp[az _ _ e]
 rwa[e]
omit[Payload]in theorem Kc{ρ:jG}{w:Q}{e:ao}(h:AE ρ w e):(∀a,e.loc≠cf (.release a))/\e.loc≠cf .disable/\e.loc≠cf .enable:=by let⟨b,wr,c⟩:=e;cases b with|mark m=>refine⟨λa e=>?_,λe=>?_,λe=>?_⟩<;>(simp[Loc.mark.injEq]at e;subst e;exact h)|_=>exact⟨(λa e=>by cases e),(λe=>by cases e),(λe=>by cases e)⟩
omit[Payload]in theorem S5{ok:jO}{ρ:jG}{wh w:Q}(g:lF ok ρ wh w){e:ao}(h:AE ρ wh e):(aE e).low w:=by let⟨d,wr,i⟩:=e;cases d with|cell a=>let⟨f,b,c,_⟩:=h;rw[dS];exact(g.lt c).2|obj r=>let⟨f,b,c,_⟩:=h;simp at f c;subst f;rw[(by cases wr<;>rfl:aE ⟨.obj r,wr,p⟩=.access ⟨.obj r,wr,p⟩)];exact(g.lt c).2|mark m=>(cases m<;>first|exact h.elim|trivial)|_=>exact h.elim
section
variable{ok:jO}{P:T}{J:pP}{j:V}{ρ0:jG}{wh0:Q}{d0:V}{tag:cx}{a:aj}
def worker(X:Stat J)(F:Fits J.ok P)(dx:qa J.ok P)(hT:PN P J)(hn:j<2147483647)(s:Sn)(h:mC ok P J j ρ0 wh0 d0 tag s)(ha:s.gs[0]?=K a)(cB:An a tag){i:V}(hi:i<j){g:aj}(hg:s.gs[J.n0+i]?=K g)(bc:g.status=bC)(sl:n6<|V×V):∃s' ops a' n,runT P (crowd s.gs s.w sl) (J.n0+i)=(bZ<|crowd s'.gs s'.w sl,ops)/\s'.t=s.t++ops/\mC ok P J j ρ0 wh0 d0 n s'/\s'.gs[0]?=K a'/\FW a tag a' n/\An a' n/\Er P J j s' s/\Vc j s'.D<=Vc j s.D:=by
 let⟨gs,w,t,E,D,a5,q,st,sm⟩:=s;let⟨an,av,aw⟩:=h;simp only at an av aw ha hg;have dm:=X.sf;let⟨lW,lC,lR,lN,_,_⟩:=an.ly.lt;have cS:(J.n0+i==0)=p:=Fk
 have cv:dg t (J.n0+i)=(D i).deaf:=an.En i hi;have dv:=(an.ly.xX i hi).1;obtain⟨GG,hG⟩:∃G,G=(∃s' ops a' n,runT P (crowd gs w sl) (J.n0+i)=(bZ<|crowd s'.gs s'.w sl,ops)/\s'.t=t++ops/\mC ok P J j ρ0 wh0 d0 n s'/\s'.gs[0]?=K a'/\FW a tag a' n/\An a' n/\Er P J j s' ⟨gs,w,t,E,D,a5,q,st,sm⟩/\Vc j s'.D<=Vc j D):=⟨_,rfl⟩;suffices hh:GG by rw[hG]at hh;exact hh
 have fin:∀{g':aj}{w':Q}{es:Z ao}{E':Gh}{u' s' m' dd':V}{a0 aW:Y},ak P p g w=.go g' w' es->Dx J i (E i) E' w w'->w'.heap[J.C]?=w.heap[J.C]?->(xy J w->xy J w')->(∀i',i'<j->i'≠i->RT J i' w w')->WS P J i E' u' s' m' dd' g' w'->(∀op∈aU (J.n0+i) g.frame.fn g.frame.place es,J1 (ShN J.Wg) (Dj J j<|upd E i E') (DX J j<|upd E i E') (J.n0+i) op)->(∀e∈es,e.loc≠cf (.release<|stA J.Wg))->aQ (D i).deaf es=dd'->(s'<=6->∃r,ya (ShN J.Wg) (stA J.Wg) (t++aU (J.n0+i) g.frame.fn g.frame.place es) (J.n0+i) r)->(s'<=6->Out J i E' w')->(∀e∈es,(aE e).low w')->cN J.ty J.Wg w' a0 aW->(∀n,(n=tag\/(tag=bE/\n=.w3))->(mayWake P g=ae->g'.status=bC->n≠bE)->dk j (upd D i ⟨s',m',dd'⟩) n a0 aW)->aH ⟨s',m',dd'⟩<=aH (D i)->(3*s'+u'<3*(D i).stage+a5 i\/(s'=(D i).stage/\u'=a5 i/\((a5 i≠0/\LS P (J.S i) (E'.l,E'.wh) ((E i).l,(E i).wh))\/(E'=E i/\m'<(D i).fuel))))->GG:=by intro g' w' es E' u' s' m' dd' a0 aW y hD hv ba c8 a9 db da b8 hrel bi cm a4 aL dj aG;let⟨n,k1,k2,k3⟩:=RH (P:=P) cB g g' w';have ca:=fl (P:=P) (sl:=sl) (i:=J.n0+i) hg (by rw[cS];exact y);rw[hG];have e1:=afn D a5 (⟨s',m',dd'⟩:WD) u' (λd u=>3*d.stage+u) hi;have e2:=fQ D (⟨s',m',dd'⟩:WD) WD.fuel hi;have e3:=Vc_upd D (⟨s',m',dd'⟩:WD) hi;simp only at e1 e2;refine⟨⟨_,w',_,upd E i E',upd D i ⟨s',m',dd'⟩,upd a5 i u',q,a0,aW⟩,_,_,n,ca,rfl,⟨an.MJ X hi hD hv ba c8 a9 db da b8 hrel bi cm,a4,aL n k1.retag k3⟩,?_,k1,k2,?_,?_⟩;(.show(aM (gs.map<|woken P g g' w') (J.n0+i) g')[0]?=_;rw[dM _ _ _ _ A,ha];rfl);(.rcases aG with aG|⟨rfl,rfl,aG⟩;(.refine N ?_;simp only[kk];omega);. (have hk:kk j (⟨aM (gs.map<|woken P g g' w') (J.n0+i) g',w',t++aU (J.n0+i) g.frame.fn g.frame.place es,upd E i E',upd D i ⟨(D i).stage,m',dd'⟩,upd a5 i<|a5 i,q,a0,aW⟩:Sn)=kk j (⟨gs,w,t,E,D,a5,q,st,sm⟩:Sn):=by simp only[kk];omega);refine W ⟨hk,?_⟩;(have cn:∀k,k<j->k≠i->vv (⟨aM (gs.map<|woken P g g' w') (J.n0+i) g',w',t++aU (J.n0+i) g.frame.fn g.frame.place es,upd E i E',upd D i ⟨(D i).stage,m',dd'⟩,upd a5 i<|a5 i,q,a0,aW⟩:Sn) k=vv (⟨gs,w,t,E,D,a5,q,st,sm⟩:Sn) k:=by intro k _ bv;simp only[vv,az _ _ bv]);rcases aG with⟨h0,aG⟩|⟨rfl,aG⟩;(.refine N ⟨i,hi,?_,cn⟩;simp only[vv,aq,h0,DP];exact aG);.refine W ⟨λk hk=>?_,?_⟩;(.by_cases e:k=i;(.subst e;simp only[vv,aq]);.exact cn k hk e);.simp only[ff];omega);.simp only at e3⊢;omega
 have bb:∀{i'},RT J i' w w:=λ{i'}=>RT.nH w;have same:∀{m' dd':V}{n:cx},(n=tag\/(tag=bE/\n=.w3))->dk j (upd D i ⟨(D i).stage,m',dd'⟩) n st sm:=λht=>(aw.same _ _).retag ht;let⟨ck,be,hs⟩:=an.wk i hi;obtain rfl:g=ck:=by rw[hg]at be;exact fS be
 have bt:∀{m:V},(D i).stage=7->(D i).deaf=0->(a5 i≠0\/(D i).fuel=m)->Goes P p (RT J i) (DT J i) (λg w=>AtR0 P J.ty J.Wg J.C 1 0 1 J.nk g w/\Out J i (E i) w) m g w->GG:=by intro m h7 am hx hG;rcases dU hG with al|⟨m',rfl,aa⟩;(.let⟨⟨_,dl,g',y,a2,hk⟩,bi⟩:=al w<|RT.nH w;refine fin y (Dx.wG an.ly hi (λ_ _=>rfl) rfl) rfl id (λ_ _ _=>bb) (.Co (s:=6) A<|.k1 hk) (λop a6=>?_) (by intro e H;simp at H;subst H;simp[mk]) (dd':=0) (by rw[am];rfl) (λ_=>⟨t,?_⟩) (λ_=>bi) (by intro e H;simp at H;subst H;simpa[mk,aE,iH,stA]using lW) av (λ_ ht _=>(aw.counted hi A (N rfl) _ _).retag ht) (by simp[aH,h7])<|N A;(.obtain⟨e,H,rfl⟩:=bK a6;simp only[Array.mem_singleton,iC,dR]at H;subst H;exact⟨rfl,λx hx=>by simp[mk,aE,bG]at hx⟩);.refine⟨RelBy.new (au cv am) _ _,λi' x co aI hx=>?_⟩;let⟨op,a6,_⟩:=cY hx;have:=lt_size_of_getElem? a6;rw[ofEvents_eq]at this;simp at this;omega);.let⟨g',w',es,y,aC,aI⟩:=aa w<|RT.nH w;have dr:∀b,¬(E i).ρ b J.R:=λb hb=>(an.ly.uw i hi b _ hb).2.1 rfl;have bp:w'.heap[J.Wg]?=w.heap[J.Wg]?:=aC.jg _<|Ne.symm X.rw;have hC:w'.heap[J.C]?=w.heap[J.C]?:=aC.jg _<|Ne.symm X.rc;refine fin y ⟨rfl,E8 (an.ly.kV i hi) (by rw[aC.jB];omega) (λb b' hb=>aC.jg b' (an.ly.uw i hi b b' hb).2.1) ⟨aC.os,aC.wJ⟩,jG.le.nH _,λb b' hb=>N hb,an.ly.BG i hi,by rw[aC.jB];omega,λb' _ _ _ hb=>aC.jg b' hb⟩ hC aC.jT (λi' co bv=>⟨λ⟨st,sm,hl⟩=>⟨st,sm,hl.of_block bp⟩,hC,aC.jT,λo p1 p2=>aC.ou o λhx=>bv (X.jI i' i o p1 p2 hx.1 hx.2)⟩) (.tail aI) (λop a6=>?_) (λe H=>?_) (dd':=0) ?_ (λh=>zW h A) (λh=>zW h A) (λe H=>?_) (av.of_block bp) (λn ht _=>by have:=same (m':=m') (dd':=0) ht;rwa[h7]at this) (by simp[aH,h7]) ?_;(.obtain⟨e,H,rfl⟩:=bK a6;obtain⟨o,wr,rfl,p1,p2⟩:=aC.ev e H;refine⟨rfl,λx hx=>W<|N ?_⟩;simp only[dS,bG,dz]at hx;subst hx;exact⟨i,hi,rfl,W ⟨o,rfl,p1,p2⟩⟩);(.obtain⟨o,wr,rfl,p1,p2⟩:=aC.ev e H;simp);(.rw[am];exact apa (λe H=>by obtain⟨o,wr,rfl,p1,p2⟩:=aC.ev e H;simp) 0);(.obtain⟨o,wr,rfl,p1,p2⟩:=aC.ev e H;rw[dS,aC.jB];exact lR);.rcases fN (a5 i)with h0|h0;(.refine W ⟨h7.symm,h0.symm,W ⟨rfl,?_⟩⟩;rcases hx with hx|hx;(.exact zW h0 hx);.omega);.exact N A
 have ct:∀{f:M}{ce:L M},(D i).stage=7->(D i).deaf=0->1<=a5 i->g=G f (ce++J.nJ)->Safe J.ok P (J.S i) (E i).l (E i).wh->ql J.ok P (E i).ρ (E i).l (f::ce)->xw J.qS J.rm (f::ce)->GG:=by intro f ce h7 am hu bz aV hL bw;by_cases hS:J.S i (E i).l (E i).wh;(.let⟨m,hm⟩:=hT i (E i) f ce w hS hL bw (an.ly.kV i hi) an.ly.jT an.ly.xI ⟨_,_,av⟩;exact bt h7 am (N A)<|bz▸hm);.cases aV with|stop h=>exact zW h hS|step hd b9 bT=>let⟨ci,l1,w1,dq,fr,d5,gf,cE,bd,cW,dh,hr,y,df,aB,cM⟩:=abg F dx p J.nJ hL (an.ly.kV i hi) (an.ly.n9 i hi) hd b9 w.drawn;cases dh;(have cl:ak P p g w=.go (G gf<|cE++J.nJ) bd (seen P f.fn cW):=by rw[bz];exact y);have aR:∀b',b'<w.heap.size->(∀c,(E i).ρ c b'->b'<(E i).bs)->bd.heap[b']?=w.heap[b']?:=λb' hb hc=>Q2 aB hb λb cg=>an.ly.BG i hi b b' cg (hc b cg);have bp:bd.heap[J.Wg]?=w.heap[J.Wg]?:=aR _ lW λc hc=>zW rfl (an.ly.uw i hi c _ hc).1;have hR:bd.heap[J.R]?=w.heap[J.R]?:=aR _ lR λc hc=>zW rfl (an.ly.uw i hi c _ hc).2.1;have hC:bd.heap[J.C]?=w.heap[J.C]?:=aR _ lC λc hc=>(an.ly.uw i hi c _ hc).2.2.1 rfl;(have bm:∀b b',ci b b'->b'<(E i).bs->nI w1 b:=by intro b b' hb aG;rcases aB.qw hb with hb|⟨_,hb⟩;(.have:=an.ly.BG i hi b b' hb aG;exact this.jY (aB.vp b this).1);.have:w<=b':=hb;omega);have ba:xy J w->xy J bd:=λ⟨cs,a,b⟩=>⟨cs,au hR a,b⟩;refine fin (E':=⟨ci,l1,w1,(E i).bs⟩) (u':=1) (s':=7) (m':=0) (dd':=0) cl ⟨rfl,aB.kV,aB.le,λb b' hb=>(aB.qw hb).imp id λx=>x.2,bm,aB.BK,λb' hb hc _ _=>aR b' hb hc⟩ hC ba (λi' co bv=>⟨λ⟨st,sm,hl⟩=>⟨st,sm,hl.of_block bp⟩,hC,ba,λo _ _=>fX hR o⟩) (.gh (bT _ _ _ _ _ hr) df<|cM _ _ bw) (λop a6=>?_) (λe H=>(Kc<|aB.ev e<|by simpa using fp H).1 _) ?_ (λh=>zW h A) (λh=>zW h A) (λe H=>S5 aB.kV<|aB.ev e<|by simpa using fp H) (av.of_block bp) (λn ht _=>by have:=same (m':=0) (dd':=0) ht;rwa[h7]at this) (by simp[aH,h7]) ?_;(.obtain⟨e,H,rfl⟩:=bK a6;have cX:=aB.ev e (by simpa using fp H);refine⟨rfl,λx hx=>W ?_⟩;rcases(Va cX hx).2 with⟨b,b',p1,p2,p3⟩|⟨⟨b,b',p1,p2,p3⟩,hw⟩;(.refine N ⟨i,hi,rfl,N ⟨b,b',by rw[aq];exact p1,?_,p2⟩⟩;rw[aq];exact aoW λaG=>p3 (bm b b' p1 aG));.by_cases hb:(E i).bs<=b';(.exact N ⟨i,hi,rfl,N ⟨b,b',by rw[aq];exact p1,by rw[aq];exact hb,p2⟩⟩);.exact W ⟨⟨i,hi,rfl,b,b',by rw[aq];exact p1,by rw[aq];exact iE hb,p2⟩,hw⟩);(.rw[am];exact apa (λe H=>(Kc<|aB.ev e<|by simpa using fp H).2) 0);.rcases fw 1 (a5 i)with h1|h1;(.exact N A);.exact W ⟨h7.symm,A,N ⟨A,hS,_,_,_,hr⟩⟩
 have bf:∀{g':aj}{w':Q}{es:Z ao}{s' m' dd':V}{a0 aW:Y},(D i).stage<=6->a5 i=0->ak P p g w=.go g' w' es->(∀b,b≠J.Wg->w'.heap[b]?=w.heap[b]?)->w'=w.heap.size->(w'.os=w.os/\w'.output=w.output)->cN J.ty J.Wg w' a0 aW->(∀e∈es,Bk J.Wg e)->(∀jx e,es[jx]?=K e->(aE e).touch?=B\/0<aQ (D i).deaf (es.extract 0 jx))->WSit P J.ty J.Wg J.C 1 (λ_ _=>False) (λ_ _=>False) 0 1 J.nk s' m' dd' g' w'->aQ (D i).deaf es=dd'->(∀n,(n=tag\/(tag=bE/\n=.w3))->(mayWake P g=ae->g'.status=bC->n≠bE)->dk j (upd D i ⟨s',m',dd'⟩) n a0 aW)->((s'<(D i).stage/\aH ⟨s',m',dd'⟩<=aH (D i))\/(s'=(D i).stage/\m'+1=(D i).fuel))->GG:=by intro g' w' es s' m' dd' a0 aW h6 h0 y hA bM ho a4 aR hd a9 bA aL aG;(have di:s'<=6:=A);refine fin y (Dx.wG an.ly hi hA bM ho) (hA _ X.cw) (λ⟨cs,a,b⟩=>⟨cs,au (hA _ X.rw) a,b⟩) (λ_ _ _=>RT.wG X hA ⟨_,_,a4⟩) (.Co di a9) (abM aR) (norel_of_Bk aR) bA (λ_=>let⟨r,hr⟩:=an.kV i hi h6;⟨r,adK hr cv _ _ aR hd⟩) (λ_=>(RT.wG X hA ⟨_,_,a4⟩).kD<|an.kD i hi h6) (D4 A aR) a4 aL ?_ ?_;(.rcases aG with h|h;(.exact h.2);.simp only[aH,h.1];omega);.rcases aG with h|h;(.exact N A);.exact W ⟨h.1,h0.symm,W ⟨rfl,A⟩⟩
 have a1:∀{g':aj}{w':Q}{es:Z ao}{s' m' dd':V}{a0 aW:Y},(D i).stage<=6->a5 i=0->ak P p g w=.go g' w' es->(∀b,b≠J.Wg->w'.heap[b]?=w.heap[b]?)->w'=w.heap.size->(w'.os=w.os/\w'.output=w.output)->cN J.ty J.Wg w' a0 aW->(∀e∈es,Bk J.Wg e)->(∀jx e,es[jx]?=K e->(aE e).touch?=B\/0<aQ (D i).deaf (es.extract 0 jx))->WSit P J.ty J.Wg J.C 1 (λ_ _=>False) (λ_ _=>False) 0 1 J.nk s' m' dd' g' w'->aQ (D i).deaf es=dd'->dk j (upd D i ⟨s',m',dd'⟩) tag a0 aW->((s'<(D i).stage/\aH ⟨s',m',dd'⟩<=aH (D i))\/(s'=(D i).stage/\m'+1=(D i).fuel))->GG:=λh6 h0 y hA bM ho a4 aR hd a9 bA aL aG=>bf h6 h0 y hA bM ho a4 aR hd a9 bA (λ_ ht _=>aL.retag ht) aG;have a7:∀{g':aj}{s' m' dd':V},(D i).stage<=6->a5 i=0->ak P p g w=.go g' w #[]->WSit P J.ty J.Wg J.C 1 (λ_ _=>False) (λ_ _=>False) 0 1 J.nk s' m' dd' g' w->s'=(D i).stage->dd'=(D i).deaf->m'+1=(D i).fuel->GG:=by intro g' s' m' dd' h6 h0 y a9 e1 e2 hm;subst e1 e2;exact a1 h6 h0 y (λ_ _=>rfl) rfl ⟨rfl,rfl⟩ av F0 F0 a9 rfl (aw.same _ _)<|W ⟨rfl,hm⟩
 have bq:∀(ad:ah)(v:O),ad.block=J.Wg->∀b,b≠J.Wg->(w ad v).heap[b]?=w.heap[b]?:=λad v e b hb=>(iI w ad v).block b (by rw[e];exact hb);have bo:∀(ad:ah)(v:O),(w ad v)=w.heap.size:=λad v=>(iI w ad v).size;generalize ac:(D i).stage=s7 at hs;generalize a8:(D i).fuel=m at hs;generalize am:(D i).deaf=dd at hs;generalize hu:a5 i=u at hs;cases hs with|pre aV h=>rcases dU h with al|⟨m',rfl,aa⟩;(.let⟨f,ce,e,hL,hb⟩:=al w<|cr w;exact ct ac am A e aV hL hb);.obtain⟨g',w',es,y,⟨rfl,rfl⟩,aI⟩:=aa w<|cr w;exact fin y (Dx.wG an.ly hi (λ_ _=>rfl) rfl) rfl id (λ_ _ _=>bb) (.pre aV aI) (by intro op a6;obtain⟨e,H,rfl⟩:=bK a6;simp at H) F0 (by rw[am];rfl) (λh=>zW h A) (λh=>zW h A) F0 av (λn ht _=>by have:=same (m':=m') (dd':=0) ht;rwa[ac]at this) (by simp[aH,ac])<|W ⟨ac.symm,hu.symm,W ⟨rfl,A⟩⟩|gh aV hL hb=>exact ct ac am A rfl aV hL hb|tail h=>exact bt ac am (W a8) h|Co h6 h=>(have aS:(D i).stage<=6:=A);cases h with|r0 h=>omega|k1 h=>rcases dU h with al|⟨m',rfl,aa⟩;(.let⟨_,g',y,a2,hk⟩:=al w<|cr w;exact a1 aS hu y (λ_ _=>rfl) rfl ⟨rfl,rfl⟩ av (by intro e H;simp at H;subst H;exact N rfl) (by intro jx e H;exact N<|by have:=eG H;simp at this;subst this;rfl) (.d1 hk) (by rw[am];rfl) (aw.counted hi A (W rfl) _ _)<|N ⟨A,by simp[aH,ac]⟩);.obtain⟨g',w',es,y,⟨rfl,rfl⟩,aI⟩:=aa w<|cr w;exact a7 aS hu y (.k1 aI) ac.symm am.symm a8.symm|d1 h=>rcases dU h with al|⟨m',rfl,aa⟩;(.let⟨_,bx⟩:=al w<|cr w;have dC:=Vc_le j D;(have cR:aH (D i)=1:=by simp[aH,ac]);(have ds:1<=Vc j D:=by have:=le_sumTo (f:=λx=>aH<|D x) hi;simp only[Vc];omega);(have bR:∀e∈#[rd<|stA J.Wg,wr<|stA J.Wg],Bk J.Wg e:=by intro e H;simp at H;rcases H with rfl|rfl<;>exact dA _ _ rfl);(have bB:∀jx e,(#[rd<|stA J.Wg,wr<|stA J.Wg]:Z ao)[jx]?=K e->(aE e).touch?=B\/0<aQ (D i).deaf ((#[rd<|stA J.Wg,wr<|stA J.Wg]:Z ao).extract 0 jx):=by intro jx e H;rw[am];match jx,H with|0,_=>exact W (by simp[aQ])|1,_=>exact W (by simp[aQ,rd])|jx+2,H=>simp at H);(have cc:aQ (D i).deaf #[rd<|stA J.Wg,wr<|stA J.Wg]=1:=by rw[am];rfl);have cz:∀q,aH (⟨1,q,1⟩:WD)=0:=λ_=>rfl;(have cu:∀q,dV j D->dV j (upd D i ⟨1,q,1⟩):=λq h a ha=>by by_cases e:a=i;(.subst e;rw[aq];simp);.rw[az D _ e];exact h a ha);cases aw with|opn h1 h2 h3=>(have hp:pend tag<=1:=by cases tag<;>simp only[pend]<;>(try split)<;>omega);obtain⟨v,hv⟩:∃v,Vc j D+pend tag=v+1:=⟨Vc j D+pend tag-1,A⟩;rw[hv]at av;(have bF:cN J.ty J.Wg w (((v:V)+1)*KK+((0:V):Y)) 0:=by simpa using av);let⟨g',y,_,hq⟩:=bx v 0 A A bF;let⟨q,hq⟩:=hq A;(have cb:Vc j (upd D i ⟨1,q,1⟩)+pend tag=v:=by have:=Vc_upd D (⟨1,q,1⟩:WD) hi;have:=cz q;omega);refine a1 aS hu y (bq _ _ rfl) (bo _ _) ⟨rfl,rfl⟩ (av.setSt _) bR bB (.quit hq) cc ?_<|N ⟨A,by simp[aH]⟩;(have e:((v:V):Y)*KK+((0:V):Y)=((Vc j (upd D i ⟨1,q,1⟩)+pend tag:V):Y)*KK:=by rw[cb];simp);rw[e];exact .opn h1 (cu q h2) (λvs ev=>by have:=h3 vs ev;omega)|reg h1 h2 h3=>obtain⟨v,hv⟩:∃v,Vc j D=v+1:=⟨Vc j D-1,A⟩;rw[hv]at av;(have bF:cN J.ty J.Wg w (((v:V)+1)*KK+((1:V):Y)) 0:=by simpa using av);let⟨g',y,hl,hq⟩:=bx v 1 A A bF;by_cases cK:v=0;(.subst cK;let⟨a2,hk⟩:=hl ⟨rfl,rfl⟩;refine a1 aS hu y (bq _ _ rfl) (bo _ _) ⟨rfl,rfl⟩ (av.setSt _) bR bB (.d2 hk) cc ?_<|N ⟨A,by simp[aH]⟩;(have a3:∀a,a<j->a≠i->(D a).stage=1:=λa ha e=>by have c0:=others_uncounted hi hv cR a ha e;have:=h2 a ha;simp only[aH]at c0;split at c0<;>omega);have:=iJ (j:=j) (D:=upd D i ⟨4,a2,1⟩) (tag:=tag) i h1 hi (by rw[aq];simp) (λa ha e=>by rw[az D _ e];exact a3 a ha e);rw[aq]at this;simpa using this);.let⟨q,hq⟩:=hq A;(have cb:Vc j (upd D i ⟨1,q,1⟩)=v:=by have:=Vc_upd D (⟨1,q,1⟩:WD) hi;have:=cz q;omega);refine a1 aS hu y (bq _ _ rfl) (bo _ _) ⟨rfl,rfl⟩ (av.setSt _) bR bB (.quit hq) cc ?_<|N ⟨A,by simp[aH]⟩;(have e:((v:V):Y)*KK+((1:V):Y)=((Vc j<|upd D i ⟨1,q,1⟩:V):Y)*KK+1:=by rw[cb];simp);rw[e];exact .reg h1 (cu q h2)<|by omega|last dT _ h2 h3 h4=>by_cases e:i=dT;(.subst e;omega);.have:=h4 i hi e;omega|sema h2=>have:=h2 i hi;omega|fin _ h2=>have:=h2 i hi;omega);.obtain⟨g',w',es,y,⟨rfl,rfl⟩,aI⟩:=aa w<|cr w;exact a7 aS hu y (.d1 aI) ac.symm am.symm a8.symm|d2 h=>rcases dU h with al|⟨m',rfl,aa⟩;(.let⟨_,hx⟩:=al w<|cr w;obtain⟨bg,a3,rfl,rfl⟩:=aw.isLast hi A;simp only[ac]at av;let⟨g',y,a2,hk⟩:=hx (by simpa using av);refine a1 aS hu y (λ_ _=>rfl) rfl ⟨rfl,rfl⟩ av (by intro e H;simp at H;subst H;exact dA _ _ rfl) (by intro jx e H;rw[am];match jx,H with|0,_=>exact W (by simp[aQ])|jx+1,H=>simp at H) (.d3 hk) (by rw[am];rfl) ?_<|N ⟨A,by simp[aH]⟩;have:=iJ (j:=j) (D:=upd D i ⟨3,a2,1⟩) (tag:=tag) i bg hi (by rw[aq];simp) (λa ha e=>by rw[az D _ e];exact a3 a ha e);rw[aq]at this;simpa using this);.obtain⟨g',w',es,y,⟨rfl,rfl⟩,aI⟩:=aa w<|cr w;exact a7 aS hu y (.d2 aI) ac.symm am.symm a8.symm|d3 h=>rcases dU h with al|⟨m',rfl,aa⟩;(.let⟨_,hx⟩:=al w<|cr w;obtain⟨bg,a3,rfl,rfl⟩:=aw.isLast hi A;simp only[ac]at av;let⟨g',y,a2,hk⟩:=hx (by simpa using av);refine a1 aS hu y (bq _ _ rfl) (bo _ _) ⟨rfl,rfl⟩ (av.setSt 0) (by intro e H;simp at H;subst H;exact dA _ _ rfl) (by intro jx e H;rw[am];match jx,H with|0,_=>exact W (by simp[aQ])|jx+1,H=>simp at H) (.d4 hk) (by rw[am];rfl) ?_<|N ⟨A,by simp[aH]⟩;have:=iJ (j:=j) (D:=upd D i ⟨2,a2,1⟩) (tag:=tag) i bg hi (by rw[aq];simp) (λa ha e=>by rw[az D _ e];exact a3 a ha e);rw[aq]at this;simpa using this);.obtain⟨g',w',es,y,⟨rfl,rfl⟩,aI⟩:=aa w<|cr w;exact a7 aS hu y (.d3 aI) ac.symm am.symm a8.symm|d4 h=>rcases dU h with al|⟨m',rfl,aa⟩;(.let⟨_,cQ,hx⟩:=al w<|cr w;obtain⟨bg,a3,rfl,rfl⟩:=aw.isLast hi A;simp only[ac]at av;let⟨g',y,q,hq⟩:=hx (by simpa using av);(have bX:g'.status=bC:=by cases q with|zero=>exact zW hq.2 E1|succ q=>exact hq.elim (λx=>zW x.2 E1) λx=>x.1);refine bf aS hu y (bq _ _ rfl) (bo _ _) ⟨rfl,rfl⟩ (av.setSm 1) (es:=semEvents<|smA J.Wg) ?_ ?_ (.quit hq) (by rw[am];simp[aQ,semEvents]) ?_<|N ⟨A,by simp[aH]⟩;(.intro e H;simp[semEvents]at H;rcases H with rfl|rfl|rfl|rfl;(.exact N rfl);(.exact dA _ _ rfl);(.exact dA _ _ rfl);.exact W<|N rfl);(.intro jx e H;rw[am];match jx,H with|0,H=>simp[semEvents]at H;subst H;exact N rfl|1,_=>exact W (by simp[aQ,semEvents])|2,_=>exact W (by simp[aQ,semEvents])|3,H=>simp[semEvents]at H;subst H;exact N rfl|jx+4,H=>simp[semEvents]at H);.intro n ht hw;have jX:=hw cQ bX;(have e3:n=.w3:=by rcases ht with rfl|⟨_,rfl⟩;(.cases n<;>first|rfl|exact bg.elim|exact zW rfl jX);.rfl);subst e3;simp only[ac,DE];exact .sema λa ha=>by by_cases e:a=i;(.subst e;rw[aq]);.rw[az D _ e];exact a3 a ha e);.obtain⟨g',w',es,y,⟨rfl,rfl⟩,aI⟩:=aa w<|cr w;exact a7 aS hu y (.d4 aI) ac.symm am.symm a8.symm|quit h=>cases m with|zero=>rw[h.1]at bc;cases bc|succ q=>rcases h with⟨hf,_⟩|⟨_,g',es,br,aa,hq⟩;(.rw[hf]at bc;cases bc);.have aR:∀e∈es,Bk J.Wg e:=λe H=>bk_of_mute<|br e H;have dc:∀jx e,es[jx]?=K e->(aE e).touch?=B\/0<aQ (D i).deaf (es.extract 0 jx):=λjx e H=>N<|touch_mute<|br e<|eG H;refine a1 aS hu (aa w) (λ_ _=>rfl) rfl ⟨rfl,rfl⟩ av aR dc (.quit hq) (by rw[am]) (by have:=aw.same (i:=i) q<|aQ dd es;rwa[ac]at this)<|W ⟨ac.symm,a8.symm⟩
end
end
section
open Go.Conc Go.ConcN
open Go.ConcR(KK wgBlock WgAt stA smA rd wr mk Payload DC0 Bk g_of_ofEvents bk_of_mute ofEvent_loc_mark ofEvent_cell deafBehind_cons deafBehind_one)
variable[cH]
section
variable{ok:jO}{P:T}{J:pP}{j:V}{ρ0 ρ0':jG}{wh0 wh0':Q}{d0:V}{tag tag':cx}{a a':aj}{Stop:aj->Q->U}
structure we(P:T)(J:pP)(j:V):U where
 ue:Stat J
 nW:Fits J.ok P
 mI:qa J.ok P
 tail:PN P J
 Jt:j<2147483647
def mC.at{s:Sn}(h:mC ok P J j ρ0 wh0 d0 tag s)(d:V):mC ok P J j ρ0 wh0 d0 tag {s with w:=s.w.at d}:=⟨h.cy.at d,h.wg,h.rv⟩
def mC.qq{s:Sn}(h:mC ok P J j ρ0 wh0 d0 tag s):cJ J.ty J.Wg s.w:=⟨_,_,h.wg⟩
def mn(c:we P J j)(s:Sn)(h:mC ok P J j ρ0 wh0 d0 tag s)(y:s.gs[0]?=K a)(f:An a tag){i d:V}(G:i≠0){g:aj}(r:s.gs[i]?=K g)(b:g.status=bC)(sl:n6<|V×V):∃e ops a' tag',runT P (crowd s.gs (s.w.at d) sl) i=(bZ<|crowd e.gs e.w sl,ops)/\e.t=s.t++ops/\mC ok P J j ρ0 wh0 d0 tag' e/\e.gs[0]?=K a'/\FW a tag a' tag'/\An a' tag'/\Er P J j e s/\Vc j e.D<=Vc j s.D:=by
 have u:=(eP.1 r).1;have C:=c.ue.sf;rw[h.cy.jB]at u;obtain hk|hk:=fw i J.n0;.have o:=h.cy.Ep i g A hk r;cases l:s.q i with|zero=>rw[l]at o;rw[o.1]at b;cases b|succ n=>rw[l]at o;obtain⟨R,_⟩|⟨_,x,H,F,m,v⟩:=o;(.grind);obtain⟨tag',k1,k2,k3⟩:=RH f g x<|s.w.at d;refine⟨⟨_,s.w.at d,_,s.E,s.D,s.U,upd s.q i n,s.st,s.sm⟩,_,_,tag',fl (sl:=sl) r<|by rw[(by simp;omega:(i==0)=p)];exact m<|s.w.at d,rfl,⟨(h.cy.at d).slip c.ue A hk F v,h.wg,h.rv.retag k1.retag⟩,?_,k1,k2,?_,bh _⟩;(.show(aM (s.gs.map<|woken P g x<|s.w.at d) i x)[0]?=_;rw[dM _ _ _ _ A,y];rfl);.refine W ⟨rfl,W ⟨λ_ _=>rfl,?_⟩⟩;have:sumTo J.n0 (upd s.q i n)+s.q i=sumTo J.n0 s.q+n:=fQ s.q n id hk;simp[ff];omega
 .obtain⟨k,rfl⟩:∃k,i=J.n0+k:=⟨i-J.n0,A⟩;exact worker c.ue c.nW c.mI c.tail c.Jt {s with w:=s.w.at d} (h.at d) y f A r b sl
def mC.Oz{s:Sn}(X:Stat J)(h:mC ok P J j ρ0 wh0 d0 tag s)(m:s.gs[0]?=K a)(e:An a tag):∀g∈s.gs,awake g:=by
 intro g k;obtain⟨i,hi,rfl⟩:=aoT.1 k;have b:=fP hi;have d:=hi;rw[h.cy.jB]at d;obtain rfl|c:=fN i;. (have:s.gs[0]=a:=pC);rw[this];obtain h|⟨l,rfl,_⟩:=e;(.exact eO<|N h.1);.exact eO<|W<|N rfl
 .obtain hk|hk:=fw i J.n0;(.exact eO<|(h.cy.Ep i _ c hk b).status.elim N λx=>W (W x));.let⟨x,f,hs⟩:=h.cy.wk (i-J.n0) A;rw[show J.n0+(i-J.n0)=i by omega,b]at f;obtain rfl:=fS f;exact eO<|hs.S4.elim N λx=>W (W x)
def DY(P:T)(s:Sn)(sl:n6<|V×V)(d:V)(b:n6<|V×V):U:=stepT P (crowd s.gs s.w sl)=runT P (crowd s.gs (s.w.at d) b) 0
def mY(P:T)(s:Sn)(sl:n6<|V×V)(c:Sn)(b:n6<|V×V):U:=∃d,runNT P d (crowd s.gs s.w sl) s.t=(bZ<|crowd c.gs c.w b,c.t)
omit[Payload]in theorem mY.nH(s:Sn)(sl:n6<|V×V):mY P s sl s sl:=⟨0,rfl⟩
omit[Payload]in theorem mY.jA{s s1 s2:Sn}{sl c b:n6<|V×V}(h:mY P s sl s1 c)(f:mY P s1 c s2 b):mY P s sl s2 b:=by let⟨d,e⟩:=h;let⟨g,i⟩:=f;exact⟨d+g,by rwa[runNT_add,e]⟩
omit[Payload]in theorem mY.mq{s s1:Sn}{sl b:n6<|V×V}{i d:V}{ops:bj}(h:stepT P (crowd s.gs s.w sl)=runT P (crowd s.gs (s.w.at d) b) i)(c:runT P (crowd s.gs (s.w.at d) b) i=(bZ<|crowd s1.gs s1.w b,ops))(e:s1.t=s.t++ops):mY P s sl s1 b:=by refine⟨1,?_⟩;simp[runNT,h,c,e]
def lh(v:we P J j)(k:a.status=bC)(t:tag≠bE):∀s,(mC ok P J j ρ0 wh0 d0 tag s/\s.gs[0]?=K a)->∀sl,∃f b d c,mY P s sl f b/\mC ok P J j ρ0 wh0 d0 tag f/\f.gs[0]?=K a/\Vc j f.D<=Vc j s.D/\DY P f b d c:=by
 apply Um (λs=>mC ok P J j ρ0 wh0 d0 tag s/\s.gs[0]?=K a) (λs h=>h.1.acc) (λs=>∀sl,∃f b d c,mY P s sl f b/\mC ok P J j ρ0 wh0 d0 tag f/\f.gs[0]?=K a/\Vc j f.D<=Vc j s.D/\DY P f b d c);intro s⟨h,o⟩w sl;have l:An a tag:=N ⟨k,t⟩;obtain⟨i,g,d,b,hi,x,n⟩:=crowd_pick (h.Oz v.ue o l) ⟨0,a,o,k⟩;by_cases m:i=0;.subst m;exact⟨s,sl,d,b,mY.nH _ _,h,o,bh _,n⟩
 .let⟨s1,ops,y,u,r1,r2,r3,r4,r5,r6,r7,r8⟩:=mn v s h o l (d:=d) m hi x b;obtain⟨rfl,rfl⟩|⟨e,_⟩:=r5;(.let⟨s2,q,d2,r,k1,k2,k3,k4,k5⟩:=w s1 ⟨r3,r4⟩ r7 b;exact⟨s2,q,d2,r,(mY.mq n r1 r2).jA k1,k2,k3,A,k5⟩);grind
def AN(X:Stat J){s:Sn}(h:mC ok P J j ρ0 wh0 d0 tag s)(v:s.gs[0]?=K a){sl i:n6<|V×V}{d:V}(x:DY P s sl d i){k:Q}{l:Z ao}{f c:Y}(r:ak P ae a (s.w.at d)=.go a' k l)(y:wW ok J ρ0 ρ0' wh0 wh0' (s.w.at d) k)(m:cN J.ty J.Wg k f c)(g:dk j s.D tag' f c)(u:∀fn pos,∀op∈aU 0 fn pos l,EN (ShN J.Wg) J.tG (lJ J j) (Dj J j s.E) (DX J j s.E) op)(o:∀e∈l,e.loc≠cf (.release<|stA J.Wg))(n:∀e∈l,(aE e).low k):∃b,mY P s sl b i/\mC ok P J j ρ0' wh0' (aQ d0 l) tag' b/\b.gs[0]?=K a'/\b.D=s.D/\b.E=s.E/\b.w=k/\b.st=f/\b.sm=c/\b.t=s.t++aU 0 a.frame.fn a.frame.place l/\b.U=s.U/\b.q=s.q:=by refine⟨⟨_,k,_,s.E,s.D,s.U,s.q,f,c⟩,mY.mq x (fl (sl:=i) v<|r) rfl,⟨(h.cy.at d).LI X y ⟨_,_,m⟩ (u _ _) o n,m,g⟩,aoZ _ _ _ (eP.1 v).1,rfl,rfl,rfl,rfl,rfl,rfl,rfl,rfl⟩
def wW.wG{E:V->Gh}{w c:Q}(e:Mem ok J j E ρ0 wh0 w)(f:∀b,b≠J.Wg->c.heap[b]?=w.heap[b]?)(hs:c=w.heap.size)(g:c.os=w.os/\c.output=w.output:=by exact⟨rfl,rfl⟩):wW ok J ρ0 ρ0 wh0 wh0 w c:=⟨E8 e.oq A (λb d k=>f d (e.vV b d k).1) g,jG.le.nH _,λ_ _ h=>N h,λ_ h=>h,A,λd _ _ i=>f d i⟩
omit[Payload]in theorem GN{Wg:V}{f:Loc->U}{lJ:V->U}{Own m:V->Loc->U}{fn:bn}{pos:String}{i:Z ao}(h:∀e∈i,Bk Wg e):∀op∈aU 0 fn pos i,EN (ShN Wg) f lJ Own m op:=by
 intro op d;obtain⟨e,k,rfl⟩:=bK d;refine⟨rfl,λx c=>?_⟩;obtain g|g|⟨b,wr,rfl,l⟩:=h e k;.simp[dN g]at c;cases c
 .simp[dN g]at c;cases c
 .simp[dS,bG,dz]at c;subst c;exact N ⟨⟨b,rfl,l⟩,F0⟩
inductive Word(Wg:V):dw->U|disable:Word Wg .disable|enable:Word Wg .enable|read:Word Wg<|.read<|smA Wg|write:Word Wg<|.write<|smA Wg|acquire:Word Wg<|.acquire<|stA Wg
omit[Payload]in theorem agJ{Wg:V}{c:Loc->U}{lJ:V->U}{Own g:V->Loc->U}{fn:bn}{pos:String}{m:dw}(h:Word Wg m):∀op∈aU 0 fn pos #[mk m],EN (ShN Wg) c lJ Own g op:=by
 intro op b;obtain⟨e,f,rfl⟩:=bK b;simp[iC,dR]at f;subst f;refine⟨rfl,λx d=>?_⟩;cases h<;>simp[mk,aE,bG]at d;.subst d;exact N ⟨⟨_,rfl,rfl⟩,F0⟩
 .subst d;exact N ⟨⟨_,rfl,rfl⟩,F0⟩
omit[Payload]in theorem akJ{Wg:V}(b:Wg<f){m:dw}(h:Word Wg m):(aE<|mk m).low f:=by cases h<;>simp[mk,aE,iH,smA,stA,b]
def JE(o:we P J j){m:dw}(g:Word J.Wg m){k:aj->Q->U}{s:Sn}{sl f:n6<|V×V}{d:V}(hS:uR P m k a<|s.w.at d)(h:mC ok P J j ρ0 wh0 d0 tag s)(n:s.gs[0]?=K a)(l:DY P s sl d f):∃b a',mY P s sl b f/\mC ok P J j ρ0 wh0 (aQ d0 #[mk m]) tag b/\b.gs[0]?=K a'/\k a' b.w/\b.t=s.t++aU 0 a.frame.fn a.frame.place #[mk m]/\b.D=s.D/\b.E=s.E/\b.U=s.U/\b.q=s.q:=by let⟨_,x,i,r⟩:=hS;let⟨s2,k1,k2,k3,k4,k5,k6,_,_,u,y,v⟩:=AN o.ue h n l i (wW.wG (h.cy.at d).ly (λ_ _=>rfl) rfl) h.wg h.rv (λ_ _=>agJ g) (by intro e c;simp at c;subst c;cases g<;>simp[mk]) (by intro e c;simp at c;subst c;exact akJ h.cy.ly.lt.1 g);grind
def IM(g:we P J j){m:dw}(l:Word J.Wg m)(c:tag≠bE){i:aj->Q->U}(hS:∀w,cJ J.ty J.Wg w->uR P m i a w){s:Sn}(h:mC ok P J j ρ0 wh0 d0 tag s)(n:s.gs[0]?=K a)(sl:n6<|V×V):∃b e a',mY P s sl b e/\mC ok P J j ρ0 wh0 (aQ d0 #[mk m]) tag b/\b.gs[0]?=K a'/\i a' b.w/\Vc j b.D<=Vc j s.D:=by let⟨s1,k,d,f,r1,r2,r3,r4,r5⟩:=lh g (hS s.w h.qq).1 c s ⟨h,n⟩ sl;let⟨s2,o,k1,k2,k3,k4,k5,k6,_⟩:=JE g l (hS (s1.w.at d) r2.qq) r2 r3 r5;exact⟨s2,f,o,r1.jA k1,k2,k3,k4,by rwa[k6]⟩
def adg(v:we P J j)(q:tag≠bE):∀(m:V){a:aj}{s:Sn}(_:Goes P ae (RA J.ty J.Wg) DC0 Stop m a s.w)(_:mC ok P J j ρ0 wh0 d0 tag s)(_:s.gs[0]?=K a)(sl:n6<|V×V),∃k n a',mY P s sl k n/\mC ok P J j ρ0 wh0 d0 tag k/\k.gs[0]?=K a'/\(∀w,cJ J.ty J.Wg w->Stop a' w)/\Vc j k.D<=Vc j s.D:=by intro m;induction m with|zero=>intro a s o h i sl;exact⟨s,sl,a,mY.nH _ _,h,i,λw r=>o w λ_=>r,bh _⟩|succ m C=>intro a s o h i sl;obtain c|⟨g,b⟩:=o;(.exact⟨s,sl,a,mY.nH _ _,h,i,λw r=>c w λ_=>r,bh _⟩);.let⟨s1,H,d,t,r1,r2,r3,r4,r5⟩:=lh v g q s ⟨h,i⟩ sl;have hs:=b (s1.w.at d) λ_=>r2.qq;cases f:ak P ae a (s1.w.at d)with|go a' S X=>rw[f,goes_go]at hs;obtain⟨⟨rfl,rfl⟩,E⟩:=hs;let⟨s2,k1,k2,k3,k4,k5,k6,_⟩:=AN v.ue r2 r3 r5 f (wW.wG (r2.cy.at d).ly (λ_ _=>rfl) rfl) r2.wg r2.rv (by intro fn pos op l;obtain⟨e,G,rfl⟩:=bK l;simp at G) F0 F0;let⟨s3,u,y,q1,q2,F,x,R⟩:=C pC k2 k3 t;exact⟨s3,u,y,(r1.jA k1).jA q1,q2,F,x,pC⟩|_=>rw[f]at hs;exact hs.elim
def wu(i:we P J j)(c:tag≠bE){a:aj}{s:Sn}(f:oY P J.ty J.Wg Stop a s.w)(h:mC ok P J j ρ0 wh0 d0 tag s)(g:s.gs[0]?=K a)(sl:n6<|V×V):∃b d a',mY P s sl b d/\mC ok P J j ρ0 wh0 d0 tag b/\b.gs[0]?=K a'/\(∀w,cJ J.ty J.Wg w->Stop a' w)/\Vc j b.D<=Vc j s.D:=let⟨m,e⟩:=f;adg i c m e h g sl
end
end
section
open Go.Conc Go.ConcN
open Go.ConcR(KK wgBlock WgAt stA smA rd wr mk Payload DC0 Bk g_of_ofEvents bk_of_mute ofEvent_loc_mark ofEvent_cell deafBehind_cons deafBehind_one)
variable[cH]
section
variable{ok:jO}{P:T}{J:pP}{j:V}{ρ0 ρ0':jG}{wh0 wh0':Q}{d0:V}{tag tag':cx}{a a':aj}{Stop:aj->Q->U}
def Sm{m:dw}{b:aj->Q->U}{g:aj}{w:Q}(h:uR P m b g w):g.status=bC:=h.1
def GU(Wg:V):∀e∈#[rd<|stA Wg,wr<|stA Wg],Bk Wg e:=by intro e b;simp at b;obtain rfl|rfl:=b<;>exact dA _ _ rfl
def AO(Wg:V):∀e∈#[rd<|stA Wg],Bk Wg e:=by intro e b;simp at b;subst b;exact dA _ _ rfl
def MM(Wg:V):∀e∈semEvents (smA Wg),Bk Wg e:=by
 intro e b;simp[semEvents]at b;obtain rfl|rfl|rfl|rfl:=b;.exact N rfl
 .exact dA _ _ rfl
 .exact dA _ _ rfl
 .exact W<|N rfl
abbrev qY:cx:=.sp 0 5
abbrev C9:cx:=.sp 0 3
def Pr{D:V->WD}{st sm:Y}(h:dk j D qY st sm):dV j D/\st=((Vc j D:V):Y)*KK/\sm=0:=by cases h with|opn _ c _=>exact⟨c,by simp[pend],rfl⟩|reg b _ _=>exact b.elim|last d b _ _ _=>exact b.elim|fin b _=>exact b.elim
def Ve{D:V->WD}(h:dV j D):dk j D qY (((Vc j D:V):Y)*KK) 0:=by have:=Go.ConcN.Mode.opn (tag:=qY) n7 h (λvs e=>by cases e);simpa[pend]using this
def ajN{D:V->WD}(h:dV j D):dk j D C9 (((Vc j D+1:V):Y)*KK) 0:=by have:=Go.ConcN.Mode.opn (tag:=C9) n7 h (λvs e=>by cases e);simpa[pend]using this
def ZS{D:V->WD}{st sm:Y}(h:dk j D C9 st sm):dV j D/\st=((Vc j D+1:V):Y)*KK/\sm=0:=by cases h with|opn _ c _=>exact⟨c,by simp[pend],rfl⟩|reg b _ _=>exact b.elim|last d b _ _ _=>exact b.elim|fin b _=>exact b.elim
def aeh{D:V->WD}(h:dV j D)(c:Vc j D=0):AllQuit j D:=by
 intro i hi;have:=le_sumTo (f:=λx=>aH<|D x) hi;simp[Vc]at c;have b:aH (D i)=0:=A
 simp only[aH]at b;split at b;.omega
 .have:=h i hi;omega
def Vm(P:T)(ty:z)(Wg:V)(Stop:aj->Q->U):aj->Q->U:=oY P ty Wg<|uR P .disable<|oY P ty Wg<|Xz P ty Wg<|oY P ty Wg λg w=>uR P (.read<|smA Wg) (oY P ty Wg<|uR P .enable<|oY P ty Wg Stop) g w\/uR P .enable (oY P ty Wg Stop) g w
def Z3(b:we P J j){s:Sn}(h:mC ok P J j ρ0 wh0 0 qY s)(ha:s.gs[0]?=K a)(hW:Vm P J.ty J.Wg Stop a s.w)(sl:n6<|V×V):∃n m a',mY P s sl n m/\mC ok P J j ρ0 wh0 0 C9 n/\n.gs[0]?=K a'/\∀w,cJ J.ty J.Wg w->Stop a' w:=by
 have e:qY≠bE:=F0
 have c:C9≠bE:=F0
 let⟨s1,ad,a1,r1,c1,b1,p1,_⟩:=wu b e hW h ha sl;let⟨s2,X,a2,r2,c2,b2,p2,_⟩:=IM b .disable e p1 c1 b1 ad;let⟨s3,al,a3,r3,c3,b3,p3,_⟩:=wu b e p2 c2 b2 X;let⟨t,an,d,S,r4,c4,b4,_,t4⟩:=lh b (p3 s3.w c3.qq).1 e s3 ⟨c3,b3⟩ al;let⟨o4,e4,z4⟩:=Pr c4.rv;have l:=c4.wg;rw[e4,z4]at l;have hV:=Vc_le j t.D;have am:=b.Jt;let⟨_,u⟩:=p3 (t.w.at d) c4.qq;let⟨g',aa,hN⟩:=u (Vc j t.D) A l;have q:=iI (t.w.at d) (stA J.Wg)<|aX .u64<|(((Vc j t.D))+1)*KK;obtain⟨s5,r5,c5,b5,_,_,k6,_⟩:=AN b.ue c4 b4 t4 aa (wW.wG (c4.cy.at d).ly q.block q.size ⟨q.os,q.output⟩) (l.setSt _) (by have:=ajN o4;simpa using this) (λ_ _=>GN<|GU _) (norel_of_Bk<|GU _)<|D4 (by have:=c4.cy.ly.lt.1;rwa[q.size])<|GU _;obtain⟨s6,G,a6,r6,c6,b6,p6,_⟩:=wu b c (by rwa[k6]) c5 b5 S;have k:=(((r1.jA r2).jA r3).jA r4).jA<|r5.jA r6;have hend:∀{o:Sn}{f:n6<|V×V}{R:aj},mY P s sl o f->mC ok P J j ρ0 wh0 1 C9 o->o.gs[0]?=K R->(∀w,cJ J.ty J.Wg w->uR P .enable (oY P J.ty J.Wg Stop) R w)->∃n m a',mY P s sl n m/\mC ok P J j ρ0 wh0 0 C9 n/\n.gs[0]?=K a'/\∀w,cJ J.ty J.Wg w->Stop a' w:=by intro o f R r7 c7 b7 p7;let⟨s8,ac,a8,r8,r,v,y,_⟩:=IM b .enable c p7 c7 b7 f;let⟨E,g,F,r9,c9,C,x,_⟩:=wu b c y r v ac;exact⟨E,g,F,(r7.jA r8).jA r9,c9,C,x⟩
 let⟨o,f,d7,i,r7,c7,b7,_,t7⟩:=lh b ((p6 s6.w c6.qq).elim Sm Sm) c s6 ⟨c6,b6⟩ G;obtain H|H:=p6 (o.w.at d7) c7.qq;.let⟨s8,a8,r8,r,v,y,_⟩:=JE b .read H c7 b7 t7;let⟨E,g,F,r9,c9,C,x,_⟩:=wu b c y r v i;exact hend (k.jA<|(r7.jA r8).jA r9) c9 C x
 .let⟨s8,a8,r8,r,v,y,_⟩:=JE b .enable H c7 b7 t7;let⟨E,g,F,r9,c9,C,x,_⟩:=wu b c y r v i;exact⟨E,g,F,k.jA<|(r7.jA r8).jA r9,c9,C,x⟩
end
end
end Go.Rel
