/- - -/
import Derived.Lib.QuietBelow
import Derived.Test.YtldeiiffabfmeaaGreatDoorAbm
import Derived.Test.YtldeiiffabfmeaaGreatDoorAcm
import Derived.Test.YtldeiiffabfmeaaGreatDoorAem
set_option linter.all false
set_option maxRecDepth 100000
set_option maxHeartbeats 4000000
open Option renaming some->u,none->N,getD_some->cD,map_some->gx,map_eq_some_iff->gz,bind_some->iD,toList_some->iW
open Bool renaming true->F,false->z,and_eq_true->aX,false_eq_true->eY,not_eq_true'->fy,or_eq_true->fB,eq_iff_iff->gC,not_true->gF,true_and->ig,not_false->iC
open Go renaming World->W,Value->O,undef->ai,Frame->ak,Item->az,Code->aF,Addr->aH,Oper->aK,Calls->aN,TypeId->aT,exitTo->aY,Program->bD,execOp->bE,below_regrown->bG,Goroutine->bK,stepG->bZ,cell_regrown->cA,wp_region_quiet_below->cY,wpQuiet_nil->cZ,Operand->dy,Question->dF,Exit->dP,results->dZ,yielded->eF,maxLen->eK,deafBehind->eP,Deferred->fg,Trace->fw,FuncId->fH,Event->fK,info_parts->ik,wpList_lookup_own_ok_int->aoA,wpList_append_own->aoB
open Go.Proofs.Tryz renaming prog->E,f109->dU,underlying3->ej,underlying119->fp,func130->gU,func136->gV,func131->gW,f131->gX,func109->hJ,func104->ia,ntmps104->ib,underlying26->il,func132->iJ,func127->iP,ntmps127->iQ,func171->iT,ntmps171->iU,func113->iX,ntmps113->iY,func65->ja,ntmps65->aoy,func64->aoD,ntmps64->aoE,func174->aoH,ntmps174->aoI
open Go.Value renaming pointer->ae,slice->ah,int->ar,bool->aZ,agg->bJ,map->cf,nilFunc->cO,iface->de,tuple->dg,func->dK,nilIface->fa,string->fI,oneCell'->fN,float->gR,complex->gS
open Go.World renaming cell?->aj,alloc->ay,block_lt_of_cell?->cJ,ownsRow->dk,frozen?->fi,cell?_of_block->fY,setCell->ij,cell?_setCell_other->aoF,ownsRow_nil->aoG
open Go.Obj renaming cells->ao
open Go.Item renaming code->aq,inRegion->ax,inBlock->dG,inLoop->eG
open Go.IntKind renaming i64->au,u64->dz
open Or renaming inl->aA,inr->aJ
open Go.Ending renaming returned->aD
open Go.Code renaming seq->aE,region->bP,block->cV,skip->dH,cond->dJ,loop->dR,ret->dS,exit->eH,refuse->fF
open Go.Conc renaming stepG_region_end->aM,stepG_seq->aP,Goes->bQ,stepG_ret'->eu,stepG_skip->fj,mem_seen->fu,stepG_markAt->fL,stepG_mark0->fM,seen_none->fP,aside_setCell->gj,goes_call->gT,stepG_value->gY,stepG_load_atomic->gZ,mem_ofEvents->ir,ofEvents_eq->iu,stepG_block->iN,stepG_region->iO
open Go.Calls renaming mono->aO,regrown_of->dI,quiet_of_same->fo
open Go.RowKit.Below renaming cell->aQ,trans->bh,mono->bn,alloc->fV,heap_setCell->aoz
open Go.RowKit renaming intOf->aU,Below->cj
open Go.Operand renaming tmp->bj,const->dM
open Eq renaming trans->bu
open Go.Exit renaming normal->bC,ret->dQ,exit->eZ,inBlock->gQ
open Go.ConcN renaming upd_ne->bH,upd_same->bY,WgLive->cN,norel_of_Bk->ey,AllQuit->eO,Mode->ft,cnt->iq
open Array renaming setIfInBounds->bI,getD_eq_getD_getElem?->bO,replicate->du,getElem?_eq_some_iff->dW,any_eq_true'->eQ,mem_of_getElem?->eX,mem_iff_getElem->fE,all_eq_true_iff_forall_mem->gy,getElem?_eq_getElem->gA,getElem?_replicate->gD,getElem_extract->gE,getElem_replicate->iy,getElem?_setIfInBounds->iA
open Go.ConcN.CTag renaming blk->bN,w3->dt,ke->dN
open Go.Act renaming eval->bU
open Go.ConcN.RW renaming refl->bV
open Go.Region renaming binds->cd,Mode->cr,wanted->cT,departs->dE,schedule->dO,linearise->dY
open Go.ConcN.Gen renaming kn_rely->cx
open List renaming mem_of_getElem?->cF,getElem?_eq_getElem->dw,range->dB,mem_range->dX,forall_mem_cons->eh,all_eq_true->ek,take_add_one->fq,mem_filter->fx,getElem?_eq_some_iff->fS,length_append->fT,getElem?_map->fU,getElem?_modify->fX,filter_append->gB,nil_append->gH,length->gI,mem_singleton->gM,ext_getElem?->ic,take_length->im,filter_congr->iw,length_pos_iff->iz,cons_append->iE,mem_cons_self->iH,getElem?_toArray->iK,getElem?_cons_zero->iM,all_append->iZ,length_filter_le->aoC
open Go.Frame renaming enter->cG,finish_at->gG,eval_at->iF
open Go.Conc.Goes renaming stop->cH,step->dL,running->dV,cases->fc
open Go.CallKind renaming normal->cU,early->eM
open Go.Mark renaming disable->dA,acquire->gw,releaseMerge->iI
open Go.Region.linearise renaming go->dD
open Go.Departure renaming mixedOrders->ee
open Nat renaming le_refl->ez,reduceEqDiff->eN,zero_add->eV,lt_of_lt_of_le->fl,le_succ->fJ,add_assoc->fQ,eq_zero_or_pos->fZ,strongRecOn->gd,le_trans->gJ,mul_comm->iR,add_zero->iV
open Prod renaming snd->eJ,fst->iG
open Option.some renaming injEq->fA,inj->aoJ
variable{v e g h l m r:Nat}{X:Array aK}
namespace Go.Proofs.YtldeiiffabfmeaaGreatDoor
section
open Go.RowKit Go.Maps
def AP(lo hi x:Y):I:=decide (lo<=x)&&decide (x<=hi)
def TR(a:V)(x lo hi:Y)(w:W)(b:aj w a=u (ar au x)):aN E 127 #[bJ #[lo,hi],ae a] w λe c=>e=aD (AP lo hi x)/\cj w w c:=by
 have d:=cJ _ _ b;by_cases g:lo<=x;.go_enter iP,iQ;go_wp2_with fail;go_ret;exact⟨kT<|by simp[AP,g],kI⟩
 .go_enter iP,iQ;go_wp2_with fail;go_ret;exact⟨kT<|by simp[AP,(by simpa using g:decide (lo<=x)=z)],kI⟩
def ajE(v:O)(n:V)(f:V->Y)(l:V)(x:Y)(w:W)(J:kY w v 2 n f)(s:aj w l=u (ar au x)):aN E 115 #[v,dK (.func 127) #[] #[ae l]] w λe q=>∃r:Y,e=aD r/\decide (0<=r)=lQ (λi=>AP (f<|2*i) (f<|2*i+1) x) n/\cj w w q:=by
 have H:l<w:=cJ _ _ s;obtain⟨a,cap,rfl,K,t⟩:=J;go_enter Tryz.func115,Tryz.ntmps115;go_wp2;go_loopw[8](λi wr=>∃k:V,k<=n/\i=k/\lQ (λi=>AP (f<|2*i) (f<|2*i+1) x) k=z/\cj w w wr)(λi _=>n-(aU i).toNat);exact⟨0,j9,rfl,rfl,jQ⟩;obtain⟨k,B,rfl,C,d⟩:=hrel;by_cases p:k<n;.obtain⟨b,off,rfl,y,c⟩:=t A;(have c0:aj wr (b (off+k*2) N)=u (ar au<|f<|2*k):=by rw[aQ d y,c _ A,iR]);(have c1:aj wr (b (off+k*2+1) N)=u (ar au<|f<|2*k+1):=by rw[aQ d y,fQ,c _ A,iR]);(have m:aj wr l=u (ar au x):=by rw[aQ d H];exact s);clear t c;have g:AP (f<|2*k) (f<|2*k+1) x=F->lQ (λi=>AP (f<|2*i) (f<|2*i+1) x) n=F:=λe=>pM p e;have h:=λe=>Az C e;cases o:AP (f<|2*k) (f<|2*k+1) x with|true=>have D:Hid<|_=_:=g o;clear g h;go_wp2_with(go_at_call 127;apply aO (TR l x _ _ _ m);rintro e q⟨rfl,j⟩);go_ret;refine⟨k,rfl,?_,bh d<|bn j d.size⟩;rw[D.out];simp|false=>have G:Hid<|_=_:=h o;clear g h;go_wp2_with(go_at_call 127;apply aO (TR l x _ _ _ m);rintro e q⟨rfl,j⟩);go_roundw;exact⟨k+1,A,pR,G.out,bh d<|bn j d.size⟩;simp[aU];omega
 .go_wp2;go_ret;(have:k=n:=A);simp_all
def agn(v:O)(n:V)(f:V->Y)(b:V)(x:Y)(w:W)(j:kY w v 2 n f)(h:aj w b=u (ar au x)):aN E 74 #[v,dK (.func 127) #[] #[ae b]] w λe c=>e=aD (lQ (λi=>AP (f<|2*i) (f<|2*i+1) x) n)/\cj w w c:=by go_enter Tryz.func74,Tryz.ntmps74;go_wp2_with(go_at_call 115;apply aO (ajE _ n f b x _ j h);rintro e c⟨r,rfl,d,a⟩;have g:Hid<|_=_:=d;clear d);go_ret;exact⟨kT g.out,a⟩
def ajH(t:jE)(x:Y):lA t x=(mS t.nr t.r x||mS t.nw t.wr x||lQ (λi=>AP (t.g<|2*i) (t.g<|2*i+1) x) t.ng):=by unfold lA;rw[show(lQ (vE t x) t.ng)=lQ (λi=>AP (t.g<|2*i) (t.g<|2*i+1) x) t.ng from rfl];grind
def Qi(e:V)(D:jM)(vB vL:O)(i:V)(x:Y)(hi:i<D.nl)(w:W)(h:pD w e D vB vL):aN E 104 #[ae e,i,x] w λe C=>e=aD (lA (D i) x)/\cj w w C:=by
 have B:=h.lt;have X:=h.c0;have Q:=h.c4;obtain⟨a,cap,rfl,M,t⟩:=id h.l;obtain⟨b,off,rfl,R,vs,j,v⟩:=t A;have c0:aj w (b (off+i*4) N)=u (vs<|i*4):=pC
 have c1:aj w (b (off+i*4+1) N)=u (vs<|i*4+1):=pC
 have c2:aj w (b (off+i*4+2) N)=u (vs<|i*4+2):=pC
 have c3:aj w (b (off+i*4+3) N)=u (vs<|i*4+3):=pC
 have k:=v i hi;generalize vs (i*4)=x0 at*;generalize vs (i*4+1)=J at*;generalize vs (i*4+2)=x2 at*;generalize vs (i*4+3)=K at*;clear t j v;obtain⟨o,p0,rfl,S,-⟩:=id k.r;obtain⟨q,p1,rfl,m1,-⟩:=id k.wr;obtain⟨H,G,rfl,m2,-⟩:=id k.g;obtain⟨y,p3,rfl,T,-⟩:=id k.c;have f:cj w w<|ay (ay w<|ao #[x] 3)<|ao #[ah o (D i).nr p0,ah q (D i).nw p1,ah H (D i).ng G,ah y (D i).nc p3] 91:=yB;have d:=k.below f;have s:Hid<|_=_:=ajH (D i) x;cases q1:mS (D i).nr (D i).r x with|true=>go_enter ia,ib;go_wp2_with(go_at_call 128;apply aO (Eo _ (D i).nr (D i).r x _ d.r);rintro m n⟨rfl,rfl⟩);go_ret;exact⟨kT<|by rw[s.out,q1];simp,f⟩|false=>cases q2:mS (D i).nw (D i).wr x with|true=>go_enter ia,ib;go_wp2_with(first|(go_at_call_of 128(ah o (D i).nr p0);apply aO (Eo _ (D i).nr (D i).r x _ d.r);rintro m n⟨rfl,rfl⟩)|(go_at_call_of 128(ah q (D i).nw p1);apply aO (Eo _ (D i).nw (D i).wr x _ d.wr);rintro m n⟨rfl,rfl⟩));go_ret;exact⟨kT<|by rw[s.out,q2];simp,f⟩|false=>go_enter ia,ib;go_wp2_with(first|(go_at_call_of 128(ah o (D i).nr p0);apply aO (Eo _ (D i).nr (D i).r x _ d.r);rintro m n⟨rfl,rfl⟩)|(go_at_call_of 128(ah q (D i).nw p1);apply aO (Eo _ (D i).nw (D i).wr x _ d.wr);rintro m n⟨rfl,rfl⟩)|(go_at_call 74;apply aO (agn _ (D i).ng (D i).g w x _ d.g<|by go_simp);rintro m P⟨rfl,p⟩));go_ret;exact⟨kT<|by rw[s.out,q1,q2];simp,bh f<|bn p Fk⟩
def AD(D:jM)(b:V)(p:V)(x:Y):I:=(mo D.nb D.fb x==p)&&lA (D b) x
def Xk(bk b d e:V)(D:jM)(vB vL:O)(p o:V)(x:Y)(i:o<D.nl)(w:W)(h:pD w e D vB vL)(hk:aj w bk=u (ae e))(k:aj w b=u (ar au p))(l:aj w d=u (ar au o)):aN E 171 #[x,ae bk,ae b,ae d] w λe c=>e=aD (AD D o p x)/\cj w w c:=by
 by_cases g:mo D.nb D.fb x=p;. (have j:((mo D.nb D.fb x:Y)==(p:Y))=F:=by rw[g];simp);(have hB:Hid<|AD D o p x=lA (D o) x:=by show _=_;simp[AD,g]);have f:=Qi e D vB vL o x i w.drew<|h.below lD;clear g;go_enter iT,iU;go_wp2_with fail;go_region_with(first|(go_at_call 71;apply(Fh _ D vB vL _ _<|h.below lD).to)|(go_at_call 104;apply aO f;rintro e c⟨rfl,a⟩));all_goals go_wp2_with fail;go_ret;exact⟨by rw[hB.out];rfl,bh lD a⟩
 . (have j:((mo D.nb D.fb x:Y)==(p:Y))=z:=by rw[beq_eq_false_iff_ne];omega);(have hB:Hid<|AD D o p x=z:=by show _=_;simp[AD,g]);clear g;go_enter iT,iU;go_wp2_with fail;go_quiet((go_at_call 71;exact fo<|Fh _ D vB vL _ _<|h.below<|below_drewN jQ _));go_wp2_with fail;go_ret;exact⟨by rw[hB.out];rfl,below_drewN jQ _⟩
def aaL(v:O)(n:V)(f:V->Y)(bk m l e:V)(D:jM)(vB vL:O)(p o:V)(G:o<D.nl)(w:W)(h:pD w e D vB vL)(R:kY w v 1 n f)(hk:aj w bk=u (ae e))(K:aj w m=u (ar au p))(M:aj w l=u (ar au o)):aN E 114 #[v,dK (.func 171) #[] #[ae bk,ae m,ae l]] w λe B=>∃r:Y,e=aD r/\decide (0<=r)=lQ (λi=>AD D o p<|f i) n/\cj w w B:=by
 have lk:bk<w:=cJ _ _ hk;have lp:m<w:=cJ _ _ K;have lo:l<w:=cJ _ _ M;obtain⟨a,cap,rfl,X,H⟩:=R;go_enter Tryz.func114,Tryz.ntmps114;go_wp2;go_loopw[8](λi wr=>∃k:V,k<=n/\i=k/\lQ (λi=>AD D o p<|f i) k=z/\cj w w wr)(λi _=>n-(aU i).toNat);exact⟨0,j9,rfl,rfl,jQ⟩;obtain⟨k,Q,rfl,J,c⟩:=hrel;by_cases C:k<n;.obtain⟨b,off,rfl,T,d⟩:=H A;(have c0:aj wr (b (off+k) N)=u (ar au<|f k):=by rw[aQ c T,d _ A]);(have t:aj wr bk=u (ae e):=by rw[aQ c lk];exact hk);(have s:aj wr m=u (ar au p):=by rw[aQ c lp];exact K);(have x:aj wr l=u (ar au o):=by rw[aQ c lo];exact M);clear H d;have g:AD D o p (f k)=F->lQ (λi=>AD D o p<|f i) n=F:=λe=>pM C e;have y:=λe=>Az J e;cases q:AD D o p (f k)with|true=>have S:Hid<|_=_:=g q;go_wp2_with(go_at_call 171;apply aO (Xk bk m l e D vB vL p o _ G _ (h.below c) t s x);rintro e B⟨rfl,j⟩);go_ret;refine⟨k,rfl,?_,bh c<|bn j c.size⟩;rw[S.out];simp|false=>have P:Hid<|_=_:=y q;clear g y;go_wp2_with(go_at_call 171;apply aO (Xk bk m l e D vB vL p o _ G _ (h.below c) t s x);rintro e B⟨rfl,j⟩);go_roundw;exact⟨k+1,A,pR,P.out,bh c<|bn j c.size⟩;simp[aU];omega
 .go_wp2;go_ret;(have:k=n:=A);subst this;refine⟨-1,rfl,?_,c⟩;rw[J];rfl
def aix(v:O)(n:V)(f:V->Y)(bk a c e:V)(D:jM)(vB vL:O)(p o:V)(l:o<D.nl)(w:W)(h:pD w e D vB vL)(m:kY w v 1 n f)(hk:aj w bk=u (ae e))(j:aj w a=u (ar au p))(k:aj w c=u (ar au o)):aN E 73 #[v,dK (.func 171) #[] #[ae bk,ae a,ae c]] w λe g=>e=aD (lQ (λi=>AD D o p<|f i) n)/\cj w w g:=by go_enter Tryz.func73,Tryz.ntmps73;go_wp2_with(go_at_call 114;apply aO (aaL _ n f bk a c e D vB vL p o l _ h m hk j k);rintro e g⟨r,rfl,d,b⟩;have q:Hid<|_=_:=d;clear d);go_ret;exact⟨kT q.out,b⟩
def PQ(e:V)(D:jM)(vB vL:O)(i o p:V)(hi:i<D.nl)(q:o<D.nl)(w:W)(h:pD w e D vB vL):aN E 142 #[ae e,i,o,p] w λe x=>e=aD (EH D i o p)/\cj w w x:=by
 have s:=h.lt;have t:=h.c0;have v:=h.c4;obtain⟨a,cap,rfl,C,m⟩:=id h.l;obtain⟨b,off,rfl,r,vs,c,n⟩:=m A;have c1:aj w (b (off+i*4+1) N)=u (vs<|i*4+1):=by rw[fQ,c _ A]
 have k:=(n i hi).wr;generalize vs (i*4+1)=H at*;clear m c n;obtain⟨B,p1,rfl,m1,-⟩:=id k;have d:cj w w<|ay (ay (ay w<|ao #[ae e] 122)<|ao #[o] 3)<|ao #[p] 3:=yB.alloc Fk _;have f:=k.below d;have g:=h.below d;have y:=aix _ (D i).nw (D i).wr w (w.heap.size+2) (w.heap.size+1) e D vB _ p o q _ g f (by go_simp) (by go_simp) (by go_simp);go_enter Tryz.func142,Tryz.ntmps142;have k4:=g.c4;have k1:aj (ay (ay (ay w<|ao #[ae e] 122)<|ao #[o] 3)<|ao #[p] 3) (b (off+i*4+1) N)=_:=bu (aQ d (p:=(b (off+i*4+1) N)) r) c1;clear g f c1 v t k h;go_wp2_with fail;apply aO y;rintro J G⟨rfl,j⟩;go_wp2_with fail;go_ret;exact⟨rfl,bh d<|bn j Fk⟩
def SK(e:V)(D:jM)(vB vL:O)(i o p:V)(hi:i<D.nl)(c:o<D.nl)(w:W)(h:pD w e D vB vL):aN E 113 #[ae e,i,o,p] w λe f=>e=aD (ri D i o p)/\cj w w f:=by cases q:EH D i o p with|true=>go_enter iX,iY;go_wp2_with(go_at_call 142;apply aO (PQ e D vB vL i o p hi c _ h);rintro d w1⟨rfl,a⟩);go_ret;exact⟨by rw[(by show _=_;simp[ri,q]:Hid<|ri D i o p=F).out];rfl,a⟩|false=>go_enter iX,iY;go_wp2_with fail;apply aO (PQ e D vB vL i o p hi c _ h);rintro d w1⟨rfl,a⟩;go_wp2_with fail;apply aO (PQ e D vB vL o i p c hi _<|h.below a);rintro d g⟨rfl,b⟩;go_wp2_with fail;go_ret;exact⟨by rw[(by show _=_;simp[ri,q]:Hid<|ri D i o p=EH D o i p).out];rfl,bh a<|bn b a.size⟩
def YL(K off b:V)(hs:V->I)(vl:V->Y)(k:V)(x:Y)(w:W)(hk:k<100)(h:(Lit.int au x).wf=F)(n:V)(m:n<=100000)(l:aj w (K off N)=u (cf b))(i:oA n w b hs vl):aN E 85 #[ae<|K off N,k,x] w λe f=>e=aD (dg #[])/\oA (n+1) f b (jd hs k F) (jd vl k x)/\w.grownBy f b:=by let⟨j,c,g⟩:=i;go_enter Tryz.func85,Tryz.ntmps85;go_wp2_with(at_mapUpdate;refine wpList_mapUpdate_own _ rfl _ _ _ 119 rfl 3 3 Bi fp _ b n _ rfl c (by unfold eK;omega) _ _ _ rfl rfl (keyOf_int_mk ej<|B9 hk) _ [] (plainElem_int ej h) ?_;intro w1 d a);go_end0;exact⟨rfl,P9 c g d,a⟩
def alI(K off b:V)(hs:V->I)(vl:V->Y)(k:V)(w:W)(hk:k<100)(n:V)(j:aj w (K off N)=u (cf b))(g:oA n w b hs vl):aN E 137 #[ae<|K off N,k] w λe f=>e=aD (dg #[])/\oA n f b (jd hs k z) vl/\w.grownBy f b:=by let⟨h,c,i⟩:=g;go_enter Tryz.func137,Tryz.ntmps137;go_wp2_with(at_delete;refine wpList_delete_own _ rfl _ _ 119 3 rfl 3 Bi fp _ b n h rfl c _ _ rfl (keyOf_int_mk ej<|B9 hk) ?_;intro w1 d a);go_end0;exact⟨rfl,Vj c i d,Ti a⟩
def j6.MO{i:V->V}{w:W}{e:V}{c:jH}{vB vL:O}{K R:V}{f:V->O}{g:jL}(h:j6 v i w e c vB vL K R f g){p:V}(m:p<=c.D.nb)(jX:c.D.nb<=3){M:V}(y:f (p*10)=cf M)(s:i M=v+p*10){k:W}(hk:jq (λb=>b≠M) w k){n:V}{hs:V->I}{vl:V->Y}(a:M<w)(r:oA n k M hs vl):j6 v i k e c vB vL K R f {g with jo:=jd g.jo p {g p with hs:=hs,vl:=vl,n:=n}}/\Ag v i w k:=by
 have key:=h.put (P:={g p with hs:=hs,vl:=vl,n:=n}) m jX A hk.jB (λ_ _=>rfl) (λb a t o=>hk.jg b (λd=>t<|by rwa[d]) a) ((h.jT.jg<|hk.jg K (λd=>by have:=h.oK;grind) h.jT.lt).jY λj C=>by by_cases d:j=p*10+0;(.rw[rW d,d,iV,y]);.rw[BW d]) (by unfold nP;simp only[DE];exact⟨M,rfl,s,fl a hk.jB,r⟩) λB q l=>⟨λh=>zW h l,λ_=>rfl,λ_=>rfl,λ_=>rfl,λ_ _=>rfl⟩;refine⟨?_,key.2⟩;have x:(λj=>if j=p*10+0 then cf M else f j)=f:=pC
 grind
def j6.Ig{d:V->V}{w:W}{e:V}{c:jH}{vB vL:O}{K R:V}{f:V->O}{a:jL}(h:j6 v d w e c vB vL K R f a){p:V}(b:p<=c.D.nb):∃M,f (p*10)=cf (u M)/\d M=v+p*10/\M<w.heap.size/\oA (a p).n w M (a p).hs (a p).vl/\aj w (K (p*10) N)=u (cf M):=by have:=h.jo p 0 b A;unfold nP at this;simp[DE,iV]at this;let⟨M,j,k,i,g⟩:=this;exact⟨M,j,k,i,g,by have:=h.jP b 0 A;grind⟩
def T9{w c:W}{M:V}(h:w.grownBy c M):jq (λb=>b≠M) w c:=⟨h.size,λb e a=>h.block b a λd=>e<|by injection d⟩
def acI(g:V)(d:V->V)(w:W)(e:V)(c:jH)(vB vL:O)(K R:V)(f:V->O)(a:jL)(h:j6 g d w e c vB vL K R f a)(jX:c.D.nb<=3)(p:V)(b:p<=c.D.nb)(o:(a p).n<=100000)(k:V)(x:Y)(hk:k<100)(t:mH x):aN E 85 #[ae<|K (p*10) N,k,x] w λr i=>r=aD (dg #[])/\mA g d w e c vB vL K R {a with jo:=jd a.jo p {a p with hs:=jd (a p).hs k F,vl:=jd (a p).vl k x,n:=(a p).n+1}} i:=by let⟨M,s,y,v,q,m⟩:=h.Ig b;apply aO (YL K (p*10) M (a p).hs (a p).vl k x w hk t (a p).n o m q);rintro r i⟨rfl,t1,t2⟩;let⟨j,l⟩:=h.MO b jX s y (T9 t2) v t1;exact⟨rfl,_,_,j,l,λ_ _=>rfl⟩
def adZ(g:V)(i:V->V)(w:W)(e:V)(c:jH)(vB vL:O)(K R:V)(f:V->O)(a:jL)(h:j6 g i w e c vB vL K R f a)(jX:c.D.nb<=3)(p:V)(b:p<=c.D.nb)(k:V)(hk:k<100):aN E 137 #[ae<|K (p*10) N,k] w λr d=>r=aD (dg #[])/\mA g i w e c vB vL K R {a with jo:=jd a.jo p {a p with hs:=jd (a p).hs k z,n:=(a p).n+1}} d:=by let⟨M,o,q,m,l,t⟩:=h.Ig b;apply aO (alI K (p*10) M (a p).hs (a p).vl k w hk (a p).n t l);rintro r d⟨rfl,t1,t2⟩;let⟨j,s⟩:=h.MO b jX o q (T9 t2) m t1.mq;exact⟨rfl,_,_,j,s,λ_ _=>rfl⟩
def RdC(w:W)(v:O)(l:L qU):U:=∃a cap,v=ah a l cap/\(a=N->l.length=0)/\∀b,a=u b->(l.length≠0->b.spot=N/\b.block<w)/\∀j c,(sJ l)[j]?=u c->aj w (b.add j)=u c
def DF(e:V)(d:V->V)(w:W)(v:O)(l:L qU):U:=(∃a c,v=ah a l c)/\∀b,Ag e d w b->RdC b v l
def aan{l:L qU}{k:V}{x:qU}(h:l[k]?=u x):(sJ l)[k*3]?=u (ar au x.lX)/\(sJ l)[k*3+1]?=u (ar au x.nk)/\(sJ l)[k*3+2]?=u (aZ x.vP):=by induction l generalizing k with|nil=>simp at h|cons q l a=>cases k with|zero=>simp at h;subst h;simp[sJ]|succ k=>have:=a (by simpa using h);rw[show(k+1)*3=k*3+1+1+1 by omega];simpa[sJ]using this
def DF.at'{m:V->V}{w:W}{a:n6 aH}{n cap:V}{l:L qU}(h:DF v m w (ah a n cap) l){k:V}{x:qU}(p:l[k]?=u x){d:W}(s:Ag v m w d):∃b off,a=u ⟨b,off,N⟩/\aj d ⟨b,off+k*3,N⟩=u (ar au x.lX)/\aj d ⟨b,off+k*3+1,N⟩=u (ar au x.nk)/\aj d ⟨b,off+k*3+2,N⟩=u (aZ x.vP):=by have hk:=(fS.1 p).1;let⟨C,q,e,g,c⟩:=h.2 d s;injection e with e1 e2 e3;subst e1;cases a with|none=>grind|some o=>let⟨t,i⟩:=c o rfl;let⟨f,j⟩:=t A;let⟨b,off,B⟩:=o;simp at f;subst f;let⟨g0,r,y⟩:=aan p;have q0:=i _ _ g0;have q1:=i _ _ r;have q2:=i _ _ y;rw[qn]at q0 q1 q2;grind
def qo(D:jM)(p:V)(P:Part)(l:L qU):Part:={P with hs:=(qW D p (P.hs,P.vl) l).1,vl:=(qW D p (P.hs,P.vl) l).2,n:=P.n+l}
def aev{D:jM}{p:V}{P:Part}{l:L qU}{k:V}{x:qU}(b:l[k]?=u x):qo D p P (l.take<|k+1)=(if nh D x.lX=p then(if x.vP then{qo D p P (l.take k)with hs:=jd (qo D p P<|l.take k).hs x.lX z,n:=(qo D p P<|l.take k).n+1}else{qo D p P (l.take k)with hs:=jd (qo D p P<|l.take k).hs x.lX F,vl:=jd (qo D p P<|l.take k).vl x.lX x.nk,n:=(qo D p P<|l.take k).n+1})else{qo D p P (l.take k)with n:=(qo D p P<|l.take k).n+1}):=by
 have c:=(fS.1 b).1;have a:(l.take<|k+1)=(l.take k).length+1:=pC
 unfold qo;rw[fq,b];simp[qW,List.foldl_append,iW,List.foldl,fT,List.length_cons,List.length_nil];unfold Fj;grind
def j6.mF{d:V->V}{w:W}{e:V}{c:jH}{vB vL:O}{K R:V}{f:V->O}{a:jL}(h:j6 v d w e c vB vL K R f a)(jX:c.D.nb<=3){p:V}(b:p<=c.D.nb):j6 v d w e c vB vL K R f {a with jo:=jd a.jo p {a p with n:=(a p).n+1}}:=by let⟨M,j,k,i,g,l⟩:=h.Ig b;exact(h.MO b jX j k mQ i g.mq).1
def Yu(q:V)(m:V->V)(w:W)(e:V)(c:jH)(vB vL:O)(K R:V)(f:V->O)(g:jL)(h:j6 q m w e c vB vL K R f g)(H:mu c)(p:V)(hp:p<=c.D.nb)(v:O)(l:L qU)(hl:DF q m w v l)(hn:(g p).n+l<=100000)(hk:∀x∈l,x.lX<100/\mH x.nk):aN E 110 #[ae<|K (p*10) N,v] w λr w'=>r=aD (dg #[])/\mA q m w e c vB vL K R {g with jo:=jd g.jo p<|qo c p (g p) l} w':=by
 have jX:=H.G.nb;obtain⟨⟨a,cap,rfl⟩,_⟩:=id hl;have av:Hid<|DF q m w (ah a l cap) l:=hl;have aB:Hid<|mA q m w e c vB vL K R {g with jo:=jd g.jo p<|qo c p (g p)<|l.take 0} w:=by(have:qo c p (g p) (l.take 0)=g p:=by simp[qo,qW]);show mA _ _ _ _ _ _ _ _ _ _ _;rw[this,akm];exact h.tq jQ
 clear hl h;go_enter Tryz.func110,Tryz.ntmps110;go_wp2_with fail;go_loopw[8](λi wr=>∃k:V,k<=l/\i=k/\Hid (mA q m w e c vB vL K R {g with jo:=jd g.jo p<|qo c p (g p)<|l.take k} wr))(λi _=>l-(aU i).toNat);grind;clear aB;obtain⟨k,aL,rfl,hG⟩:=hrel;by_cases an:k<l;.obtain⟨x,hx⟩:∃x,l[k]?=u x:=⟨_,dw an⟩;let⟨ac,aC⟩:=hk x<|cF hx;let⟨T,f1,h1,y,ad⟩:=hG.out;obtain⟨b,off,rfl,y0,y1,y2⟩:=av.out.at' hx y;(have aG:(k:Y)<(l:Y):=A);(have aR:(0:Y)<=(k:Y):=A);have aa:cj wr wr<|ay wr<|ao #[x.lX,x.nk,x.vP] 229:=kI;have M:=h1.below aa;have j:Hid<|Ag q m w (ay wr<|ao #[x.lX,x.nk,x.vP] 229)/\∀b,b<w.heap.size->T b=m b:=⟨y.jA<|jq.km aa,ad⟩;(have i0:aj (ay wr<|ao #[x.lX,x.nk,x.vP] 229) wr=u (ar au x.lX):=F0);(have i1:aj (ay wr<|ao #[x.lX,x.nk,x.vP] 229) ⟨wr,1,N⟩=u (ar au x.nk):=F0);(have i2:aj (ay wr<|ao #[x.lX,x.nk,x.vP] 229) ⟨wr,2,N⟩=u (aZ x.vP):=F0);have o:Hid<|_=_:=aev (D:=c) (p:=p) (P:=g p) hx;(have hf:Hid<|∀S f2 w2 P,j6 q S w2 e c vB vL K R f2 {g with jo:=jd (jd g.jo p<|qo c p (g p)<|l.take k) p P}->Ag q m w w2->(∀b,b<w.heap.size->S b=m b)->P=qo c p (g p) (l.take<|k+1)->mA q m w e c vB vL K R {g with jo:=jd g.jo p<|qo c p (g p)<|l.take<|k+1} w2:=λS f2 w2 P hI hA hO hP=>by rw[DR,hP]at hI;exact⟨_,_,hI,hA,hO⟩);clear hG h1 y ad hx aa;go_wp2_with fail;clear y0 y1 y2;generalize wr.heap.size=al at*;generalize(ay wr<|ao #[x.lX,x.nk,x.vP] 229)=B at*;have d1:=M.c1 hp;have d2:=M.c2 hp;have J:=M.rV;have hH:=λnq=>Fh e c vB vL x.lX (B.drewN nq)<|J.below<|below_drewN jQ nq;by_cases hh:mo c.D.nb c.D.fb x.lX=p;(. (have s:((mo c.D.nb c.D.fb x.lX:Y)!=(p:Y))=z:=by rw[hh];simp);have t:nh c x.lX=p:=hh;rw[rW t]at o;go_quiet((go_at_call 71;exact fo<|hH _));cases hd:x.vP with|true=>rw[hd]at i2;rw[rW hd]at o;have Q:=(M.below<|below_drewN jQ nq).below lD;have j0:aj (B.drewN nq) al=_:=i0;have j2:aj (B.drewN nq) (al 2 N)=_:=i2;have d:Hid<|Ag q m w (B.drewN nq).drew/\∀b,b<w.heap.size->T b=m b:=⟨(j.out.1.jA<|jq.km<|below_drewN jQ nq).jA<|jq.km lD,j.out.2⟩;clear hH J d1 d2 M i0 i1 i2 j s hh t;generalize(B.drewN nq)=w6 at*;have hC:=adZ q T w6.drew e c vB vL K R f1 _ Q jX p hp x.lX ac;simp only[ki]at hC;go_wp2_with fail;go_region_with(go_at_call 137;apply aO hC;rintro r w7⟨rfl,S,f2,h7,C,X⟩);all_goals go_wp2_with fail;go_roundw;exact⟨k+1,A,pR,hf.out S f2 _ _ h7 (d.out.1.mq C d.out.2) (λb hb=>by rw[X b<|fl hb d.out.1.jB];exact d.out.2 b hb) o.out.symm⟩;simp[aU];omega|false=>rw[hd]at i2;(have am:¬x.vP=F:=by rw[hd];simp);rw[BW am]at o;have Q:=(M.below<|below_drewN jQ nq).below lD;have j0:aj (B.drewN nq) al=_:=i0;have j1:aj (B.drewN nq) (al 1 N)=_:=i1;have j2:aj (B.drewN nq) (al 2 N)=_:=i2;have d:Hid<|Ag q m w (B.drewN nq).drew/\∀b,b<w.heap.size->T b=m b:=⟨(j.out.1.jA<|jq.km<|below_drewN jQ nq).jA<|jq.km lD,j.out.2⟩;clear hH J d1 d2 M i0 i1 i2 j s hh t am;generalize(B.drewN nq)=w6 at*;have hC:=acI q T w6.drew e c vB vL K R f1 _ Q jX p hp (by simp only[ki];exact(by show(g p).n+(l.take k)<=_;grind)) x.lX x.nk ac aC;simp only[ki]at hC;go_wp2_with fail;go_region_with(go_at_call 85;apply aO hC;rintro r w7⟨rfl,S,f2,h7,C,X⟩);all_goals go_wp2_with fail;go_roundw;exact⟨k+1,A,pR,hf.out S f2 _ _ h7 (d.out.1.mq C d.out.2) (λb hb=>by rw[X b<|fl hb d.out.1.jB];exact d.out.2 b hb) o.out.symm⟩;simp[aU];omega);. (have s:((mo c.D.nb c.D.fb x.lX:Y)!=(p:Y))=F:=Fk);have t:¬nh c x.lX=p:=hh;rw[BW t]at o;have Q:=M.mF jX hp;simp only[ki]at Q;go_quiet((go_at_call 71;exact fo<|hH _));have h7:=Q.below<|below_drewN jQ nq;have d:Hid<|Ag q m w (B.drewN nq)/\∀b,b<w.heap.size->T b=m b:=⟨j.out.1.jA<|jq.km<|below_drewN jQ nq,j.out.2⟩;have hF:=hf.out T f1 _ _ h7 d.out.1 d.out.2 o.out.symm;clear hH J d1 d2 M i0 i1 i2 j d Q h7 o hf s hh t;go_wp2_with fail;go_roundw;exact⟨k+1,A,pR,hF⟩;simp[aU];omega
 . (have aw:k=l:=A);(have hF:Hid<|mA q m w e c vB vL K R {g with jo:=jd g.jo p<|qo c p (g p) l} wr:=pC);(have aI:¬(k:Y)<(l:Y):=A);clear hG aw;go_wp2_with fail;go_end0;exact⟨rfl,hF.out⟩
end
section
open Go.RowKit Go.Maps Go.Sort
structure Cx(w:W)(b k:V)(x:jy)(kv:O):U where
 c0:aj w (b (k*7) none)=some (ar au x.jb)
 c1:aj w (b (k*7+1) none)=some (aZ x.kh)
 c2:aj w (b (k*7+2) none)=some kv
 c3:aj w (b (k*7+3) none)=some (aZ<|x.jv 0)
 c4:aj w (b (k*7+4) none)=some (aZ<|x.jv 1)
 c5:aj w (b (k*7+5) none)=some (aZ<|x.jv 2)
 c6:aj w (b (k*7+6) none)=some (aZ<|x.jv 3)
def Cx.kZ{w d:W}{b k:V}{x:jy}{e:O}(h:Cx w b k x e){n:V}(a:Below n w d)(c:b<n):Cx d b k x e:=by
 let⟨l,j,i,o,g,f,m⟩:=h;refine⟨?_,?_,?_,?_,?_,?_,?_⟩;.rwa[aQ a c]
 .rwa[aQ a c]
 .rwa[aQ a c]
 .rwa[aQ a c]
 .rwa[aQ a c]
 .rwa[aQ a c]
 .rwa[aQ a c]
def DC(w:W)(a:n6 aH)(l:L jy):U:=∀k x,l[k]?=u x->∃b c ka kc,a=u ⟨b,0,N⟩/\b<w.heap.size/\c=ah ka x.jR kc/\Cx w b k x c/\uk w c x.jR
def DC.below{w w':W}{a:n6 aH}{l:L jy}(h:DC w a l)(c:Below w w w'):DC w' a l:=λk x g=>by let⟨b,f,ka,kc,m,d,i,j,e⟩:=h k x g;exact⟨b,f,ka,kc,m,fl d c.size,i,j.kZ c d,e.below c⟩
def mK.rde{B:V->V}{w:W}{c:V}{a:n6 aH}{n cap:V}{l:L jy}(h:mK v B w c (ah a n cap) l):DC w a l:=by
 let⟨q,G,t,D,P⟩:=h;intro k x R;obtain⟨e,K⟩|⟨g,s,J,e,Q,C,p⟩:=t.2;.grind
 .injection e with e1 e2 e3;(have b:(q.map eJ)[k]?=u x:=by rwa[G]);rw[fU]at b;cases d:q[k]? with|none=>grind|some y=>rw[d]at b;simp at b;let⟨m,f⟩:=y;simp at b;subst b;have i:=D (m,f)<|cF d;let⟨⟨⟨ka,kc,r⟩,_⟩,_⟩:=id i;(have jZ:∀j,j<7->∀o,(lV (m,f))[j]?=u o->aj w (g (k*7+j) N)=u o:=by intro j H o M;have:=(t.cells<|by rw[e1];rfl) (k*7+j) o (by rwa[El lV 7 B5 q k j (m,f) d H]);rw[qn,eV]at this;exact this);exact⟨g,m,ka,kc,e1,(dW.1 C).1,r,⟨jZ 0 A _ rfl,jZ 1 A _ rfl,jZ 2 A _ rfl,jZ 3 A _ rfl,jZ 4 A _ rfl,jZ 5 A _ rfl,jZ 6 A _ rfl⟩,i.1.rd⟩
structure xR(w:W)(K off e:V)(D:jM)(vB vL:O)(p up:V)(a:n6 aH)(cap:V)(l:L jy):U where
 c0:aj w (K off none)=some (ae e)
 c1:aj w (K (off+1) none)=some (ar au (p:V))
 c2:aj w (K (off+2) none)=some (ar au (up:V))
 c3:aj w (K (off+3) none)=some (ah a l cap)
 kn:pD w e D vB vL
 tx:∀x∈l,x.jb<D.nl
 le:l.length<=8
 cp:l<=cap
 jT:DC w a l
def xR.below{w w':W}{K off e:V}{D:jM}{vB vL:O}{p up:V}{a:n6 aH}{cap:V}{l:L jy}(h:xR w K off e D vB vL p up a cap l)(b:Below w w w'):xR w' K off e D vB vL p up a cap l:=by have c:K<w:=cJ _ _ h.c0;exact⟨by rw[aQ b c];exact h.c0,by rw[aQ b c];exact h.c1,by rw[aQ b c];exact h.c2,by rw[aQ b c];exact h.c3,h.kn.below b,h.tx,h.le,h.cp,h.jT.below b⟩
def mK.cap{i:V->V}{w:W}{c:V}{a:n6 aH}{n cap:V}{l:L jy}(h:mK v i w c (ah a n cap) l):l<=cap:=by
 let⟨r,q,j,o,m⟩:=h;obtain⟨e,k⟩|⟨g,b,d,e,s,p,f,_⟩:=j.2;.omega
 grind
def j6.I4{i:V->V}{w:W}{e:V}{c:jH}{vB vL:O}{K R:V}{f:V->O}{b:jL}(h:j6 v i w e c vB vL K R f b){p:V}(d:p<=c.D.nb)(k:∀x∈(b p).jf,x.jb<c.D.nl)(j:(b p).jf.length<=8):∃a cap,xR w K (p*10+1) e c vB vL p (b p).up a cap (b p).jf:=by let⟨a,cap,l,g⟩:=h.c4 d;exact⟨a,cap,h.c1 d,h.c2 d,h.c3 d,l,h.rV,k,j,g.cap,g.rde⟩
def alW{D:jM}{p t:V}{l:L jy}{k:V}{x:jy}(a:l[k]?=u x):ym D p (l.take<|k+1) t=(ym D p (l.take k) t&&!ri D x.jb t p):=by rw[fq,a];simp[ym,iZ]
def Y1{D:jM}{p t:V}{l:L jy}{k n:V}{x:jy}(b:l[k]?=u x)(hk:k<n)(a:ri D x.jb t p=F):ym D p (l.take n) t=z:=by cases e:ym D p (l.take n) t with|false=>rfl|true=>have:=VY.1 e x<|cF (by rwa[List.getElem?_take,rW hk]);grind
def Wq(K off e:V)(D:jM)(vB vL:O)(p up:V)(a:n6 aH)(cap:V)(l:L jy)(at':V)(X:at'<l)(w:W)(h:xR w K off e D vB vL p up a cap l):aN E 69 #[ae<|K off N,at'] w λr w'=>r=aD (tM D p l at')/\Below w w w':=by
 obtain⟨y,P⟩:∃y,l[at']?=u y:=⟨_,dw X⟩;have hG:Hid<|tM D p l at'=ym D p (l.take at') y.jb:=by show _=_;simp only[tM,P]
 have H:=h.tx y<|cF P;have c0:=h.c0;have c3:=h.c3;have aw:=h.cp;have aG:=h.le;have q1:(0:Y)<=(at':Y):=A
 have q2:(at':Y)<=(cap:Y):=A
 have q3:¬(cap:Y)<(at':Y):=A
 obtain⟨b,_,_,_,rfl,hb,-⟩:=h.jT at' y P;go_enter Tryz.func69,Tryz.ntmps69;go_wp2_with fail;go_loopw[14](λi wr=>∃k:V,k<=at'/\i=k/\ym D p (l.take k) y.jb=F/\Below w w wr)(λi _=>at'-(aU i).toNat);exact⟨0,j9,rfl,rfl,jQ⟩;clear c0 c3;obtain⟨k,hk,rfl,S,n⟩:=hrel;by_cases aa:k<at';.obtain⟨x,J⟩:∃x,l[k]?=u x:=⟨_,dw A⟩;have T:=h.below n;obtain⟨b',kv,ka,kc,e1,av,e3,hE,-⟩:=T.jT k x J;obtain⟨b2,an,aB,am,G,_,e5,Q,-⟩:=T.jT at' y P;injection e1 with e1;injection e1 with e1;injection G with G;injection G with G;subst e1 G e3;have C:=h.tx x<|cF J;let⟨y0,y1,y2,y3,y4,y5,y6⟩:=hE;have s0:=Q.c0;(have ad:(k:Y)<(at':Y):=A);(have aC:(0:Y)<=(k:Y):=A);have j:=fV n n.size<|ao #[x.jb,x.kh,ah ka x.jR kc,(x.jv 0),(x.jv 1),(x.jv 2),(x.jv 3)] 173;have m:=T.below<|fV jQ jK<|ao #[x.jb,x.kh,ah ka x.jR kc,(x.jv 0),(x.jv 1),(x.jv 2),(x.jv 3)] 173;(have i0:aj (ay wr<|ao #[x.jb,x.kh,ah ka x.jR kc,(x.jv 0),(x.jv 1),(x.jv 2),(x.jv 3)] 173) wr=u (ar au x.jb):=F0);have s5:=vU wr (ao #[x.jb,x.kh,ah ka x.jR kc,(x.jv 0),(x.jv 1),(x.jv 2),(x.jv 3)] 173) s0;have o:Hid<|∀c,ri D x.jb y.jb p=c->(c=F->ym D p (l.take at') y.jb=z)/\(c=z->ym D p (l.take<|k+1) y.jb=F):=λc hc=>⟨λh=>Y1 J aa<|bu hc h,λh=>by rw[alW J,S,hc,h];rfl⟩;clear S;go_wp2_with fail;generalize wr.heap.size=aI at*;generalize(ay wr<|ao #[x.jb,x.kh,ah ka x.jR kc,(x.jv 0),(x.jv 1),(x.jv 2),(x.jv 3)] 173)=M at*;have d0:=m.c0;have d1:=m.c1;have d3:=m.c3;have B:=m.kn;(have q4:(at':Y)<(l:Y):=A);have f0:=cA d0;have f1:=cA d1;have f3:=cA d3;have f4:=cA i0;have f5:=cA s5;cases g:ri D x.jb y.jb p with|true=>have v:Hid<|_=z:=(o.out F g).1 rfl;(have hC:=λac hW=>by have:=SK e D vB vL x.jb y.jb p C H ac<|B.below hW;rw[g]at this;exact this);clear o g;apply cY vI vI;(repeat(quiet_step((go_at_call 113;exact dI<|hC _<|bG _ _ _))));apply cZ;intro _ s;let⟨⟨t,f⟩,d⟩:=s;subst d;have q:=bG M t f;generalize grow (redrawn M t) f=w6 at*;go_wp2_with fail;go_ret;exact⟨by rw[hG.out,v.out];rfl,bh j<|bn q j.size⟩|false=>have v:Hid<|_=F:=(o.out z g).2 rfl;(have hC:=λac hW=>by have:=SK e D vB vL x.jb y.jb p C H ac<|B.below hW;rw[g]at this;exact this);apply cY vI vI;(repeat(quiet_step((go_at_call 113;exact dI<|hC _<|bG _ _ _))));apply cZ;intro _ s;let⟨⟨t,f⟩,d⟩:=s;subst d;have q:=bG M t f;generalize grow (redrawn M t) f=w6 at*;go_wp2_with fail;go_roundw;exact⟨k+1,A,pR,v.out,bh j<|bn q j.size⟩;simp[aU];omega
 . (have R:k=at':=A);have v:Hid<|_=F:=S;(have al:¬(k:Y)<(at':Y):=A);go_wp2_with fail;go_ret;exact⟨by rw[hG.out,<-R,v.out];rfl,n⟩
def Cx.jv{w:W}{b k:V}{x:jy}{a:O}(h:Cx w b k x a){q:V}(c:q<4):aj w (b (k*7+3+q) N)=u (aZ<|x.jv q):=by match q,c with|0,_=>exact h.c3|1,_=>exact h.c4|2,_=>exact h.c5|3,_=>exact h.c6
def Dh(a:n6 aH)(ix n:V)(r:Ending):U:=(∃b,a=u ⟨b,0,N⟩/\ix<n/\r=aD (ae<|u ⟨b,ix*7,N⟩))\/(n<=ix/\r=aD (ae N))
def Tk{p:V->I}{n k:V}(hk:k<n)(h:∀j,j<k->p j=z)(a:p k=F):uq p n 0=k:=Ih n 0 k j9 A (λj _ b=>h j b) a
def UI{p:V->I}{n:V}(h:∀j,j<n->p j=z):uq p n 0=n:=by have:=G8 (p:=p) n 0 λj _ a=>h j A;omega
def VZ(K off e:V)(D:jM)(vB vL:O)(p up q:V)(hq:q<4)(a:n6 aH)(cap:V)(l:L jy)(w:W)(h:xR w K off e D vB vL p up a cap l):aN E 105 #[ae<|K off N,q] w λr w'=>Dh a (oD D q l) l r/\Below w w w':=by
 have c0:=h.c0;have c3:=h.c3;have al:=h.cp;have an:=h.le;have am:(q:Y)<4:=A
 have ad:(0:Y)<=(q:Y):=A
 go_enter Tryz.func105,Tryz.ntmps105;go_wp2_with fail;go_loopw[12](λi wr=>∃k:V,k<=l/\i=k/\Hid (∀j,j<k->pN (ui D q) l j=z)/\Below w w wr)(λi _=>l-(aU i).toNat);exact⟨0,j9,rfl,λj hj=>A,jQ⟩;clear c0 c3;obtain⟨k,hk,rfl,J,c⟩:=hrel;by_cases R:k<l;.obtain⟨x,B⟩:∃x,l[k]?=u x:=⟨_,dw R⟩;have P:=h.below c;obtain⟨b,kv,ka,kc,ea,hb,e3,hE,-⟩:=P.jT k x B;have M:=h.tx x<|cF B;have y0:=hE.c0;have C:=hE.c1;have T:=hE.jv hq;have d0:=P.c0;have d3:=P.c3;have Q:=P.kn;subst ea;(have aa:(k:Y)<(l:Y):=A);(have av:(0:Y)<=(k:Y):=A);(have S:Hid<|ui D q x=F->Dh b (oD D q l) l (aD<|ae<|b (k*7) N):=λhv=>by have:oD D q l=k:=Tk R J (by simp only[pN,B];exact hv);exact aA ⟨b,rfl,A,by rw[this]⟩);(have G:Hid<|ui D q x=z->∀j,j<k+1->pN (ui D q) l j=z:=λhv j hj=>by by_cases e:j=k;(.subst e;simp only[pN,B];exact hv);.exact J j A);clear J P hE e3 h;go_wp2_with fail;have f0:=cA d0;have f1:=cA y0;have f4:=cA T;cases g:x.kh with|false=>rw[g]at C;have f3:=cA C;have X:=G.out (by simp[ui,g]);have y:Hid<|∀j,j<k+1->pN (ui D q) l j=z:=X;clear G X S y0 C T d0 d3 g B;apply cY vI vI;(repeat(go_big_quiet_step(fail)));apply cZ;intro _ o;let⟨⟨v,d⟩,f⟩:=o;subst f;have m:=bG wr v d;generalize grow (redrawn wr v) d=w6 at*;go_wp2_with fail;go_roundw;exact⟨k+1,A,pR,y,bh c<|bn m c.size⟩;simp[aU];omega|true=>rw[g]at C;have f3:=cA C;cases n:x.jv q with|true=>rw[n]at f4;have y:Hid<|∀j,j<k+1->pN (ui D q) l j=z:=G.out (by simp[ui,n]);clear G S y0 C T d0 d3 g B n;apply cY vI vI;(repeat(go_big_quiet_step(fail)));apply cZ;intro _ o;let⟨⟨v,d⟩,f⟩:=o;subst f;have m:=bG wr v d;generalize grow (redrawn wr v) d=w6 at*;go_wp2_with fail;go_roundw;exact⟨k+1,A,pR,y,bh c<|bn m c.size⟩;simp[aU];omega|false=>rw[n]at f4;cases s:lY D x.jb q with|false=>have y:Hid<|∀j,j<k+1->pN (ui D q) l j=z:=G.out (by simp[ui,s]);(have hC:∀t,Below wr wr t->aN E 43 #[ae e,x.jb,q] t λr W'=>r=aD z/\Below t t W':=λt hW=>by have:=Dy e D vB vL x.jb q M t<|Q.below hW;rw[s]at this;exact this);clear G S y0 C T d0 d3 g B n s;apply cY vI vI;(repeat(go_big_quiet_step((go_at_call 43;exact dI<|hC _<|bG _ _ _))));apply cZ;intro _ o;let⟨⟨v,d⟩,f⟩:=o;subst f;have m:=bG wr v d;generalize grow (redrawn wr v) d=w6 at*;go_wp2_with fail;go_roundw;exact⟨k+1,A,pR,y,bh c<|bn m c.size⟩;simp[aU];omega|true=>have H:Hid<|Dh _ _ _ _:=S.out (by simp[ui,g,n,s]);(have hC:∀t,Below wr wr t->aN E 43 #[ae e,x.jb,q] t λr W'=>r=aD F/\Below t t W':=λt hW=>by have:=Dy e D vB vL x.jb q M t<|Q.below hW;rw[s]at this;exact this);clear G S y0 C T d0 d3 g B n s;apply cY vI vI;(repeat(go_big_quiet_step((go_at_call 43;exact dI<|hC _<|bG _ _ _))));apply cZ;intro _ o;let⟨⟨v,d⟩,f⟩:=o;subst f;have m:=bG wr v d;generalize grow (redrawn wr v) d=w6 at*;go_wp2_with fail;go_ret;exact⟨H.out,bh c<|bn m c.size⟩
 .have H:Hid<|Dh a (oD D q l) l<|aD<|ae N:=aJ ⟨by have:oD D q l=l:=UI λj hj=>J j A;omega,rfl⟩;clear J;have d0:=(h.below c).c0;have d3:=(h.below c).c3;(have ac:¬(k:Y)<(l:Y):=A);go_wp2_with fail;go_ret;exact⟨H.out,c⟩
def Ug(K off e:V)(D:jM)(vB vL:O)(p up:V)(a:n6 aH)(cap:V)(l:L jy)(w:W)(h:xR w K off e D vB vL p up a cap l):aN E 103 #[ae<|K off N] w λr B=>Dh a (ry D p l) l r/\Below w w B:=by
 have c0:=h.c0;have c3:=h.c3;have aa:=h.cp;have ad:=h.le;go_enter Tryz.func103,Tryz.ntmps103;go_wp2_with fail;go_loopw[9](λi wr=>∃k:V,k<=l/\i=k/\Hid (∀j,j<k->pA D p l j=z)/\Below w w wr)(λi _=>l-(aU i).toNat);exact⟨0,j9,rfl,λj Q=>A,jQ⟩;clear c0 c3;obtain⟨k,hk,rfl,t,d⟩:=hrel;by_cases o:k<l;.obtain⟨x,v⟩:∃x,l[k]?=u x:=⟨_,dw o⟩;have q:=h.below d;obtain⟨b,kv,ka,kc,ea,hb,e3,hE,-⟩:=q.jT k x v;have R:=hE.c1;have d0:=q.c0;have d3:=q.c3;have C:=Wq K off e D vB vL p up a cap l k o wr q;subst ea;(have T:(k:Y)<(l:Y):=A);(have ac:(0:Y)<=(k:Y):=A);(have H:Hid<|pA D p l k=F->Dh b (ry D p l) l (aD<|ae<|b (k*7) N):=λM=>by have:ry D p l=k:=Tk o t M;exact aA ⟨b,rfl,A,by rw[this]⟩);(have G:Hid<|pA D p l k=z->∀j,j<k+1->pA D p l j=z:=λM j Q=>by by_cases e:j=k;(.subst e;exact M);.exact t j A);(have f:pA D p l k=(!x.kh&&tM D p l k):=by simp only[pA,pN,v]);have P:Hid<|∀B,Below wr wr B->xR B K off e D vB vL p up b cap l:=λB J=>q.below J;clear t q hE e3 h;cases c:x.kh with|true=>rw[c]at R;have m:Hid<|∀j,j<k+1->pA D p l j=z:=G.out (by rw[f,c];rfl);clear G H c v f C;go_wp2_with fail;go_roundw;exact⟨k+1,A,pR,m,d⟩;simp[aU];omega|false=>rw[c]at R;cases s:tM D p l k with|false=>rw[s]at C;have m:Hid<|∀j,j<k+1->pA D p l j=z:=G.out (by rw[f,s];simp);clear G H c v f s;go_wp2_with(go_at_call 69;apply aO C;rintro r S⟨rfl,g⟩);go_roundw;exact⟨k+1,A,pR,m,bh d<|bn g d.size⟩;simp[aU];omega|true=>rw[s]at C;have n:Hid<|Dh _ _ _ _:=H.out (by rw[f,c,s];rfl);clear G H c v f s;go_wp2_with fail;apply aO C;rintro r S⟨rfl,g⟩;have y:=P.out S g;have g0:=y.c0;have g3:=y.c3;go_wp2_with fail;go_ret;exact⟨n.out,bh d<|bn g d.size⟩
 .have n:Hid<|Dh a (ry D p l) l<|aD<|ae N:=aJ ⟨by have:ry D p l=l:=UI λj Q=>t j A;omega,rfl⟩;clear t;(have X:¬(k:Y)<(l:Y):=A);go_wp2_with fail;go_ret;exact⟨n.out,d⟩
def mK.R5{D M:V->V}{w H:W}{c:V}{b n cap:V}{l:L jy}(h:mK v D w c (ah b n cap) l){ix:V}{x:jy}(hx:l[ix]?=u x){r:V}(hr:r<7)(aa:O)(f:jy->jy)(Q:Ag v D w H)(he:∀k,k<w.heap.size->M k=D k)(p:∀G,je w b 173 (cap*7) G->je H b 173 (cap*7) (λj=>if j=ix*7+r then aa else G j))(hy:∀B,aj w (b (ix*7+2) N)=u B->zt v D w (B,x)->∃y:O×jy,y.2=f x/\zt v M H y/\∀s,s<7->(lV y)[s]?=if s=r then u aa else(lV (B,x))[s]?):mK v M H c (ah b n cap)<|l.modify ix f:=by
 let⟨m,h1,J,X,h4⟩:=h;have hn:n=l:=by obtain⟨e,_⟩|⟨g',T,aw,e,_⟩:=J.2;(.cases e);.injection e
 rw[(by grind:l=m.length)]at J;let⟨G,i,ad,R,o⟩:=KO lV 7 B5 J;have d:(m.map eJ)[ix]?=u x:=by rwa[h1]
 rw[fU]at d;cases a:m[ix]? with|none=>grind|some x0=>rw[a]at d;simp at d;let⟨B,an⟩:=x0;simp at d;subst d;have S:=(fS.1 a).1;(have am:ix*7+7<=cap*7:=A);let⟨y,ac,al,K⟩:=hy B (by rw[i.el _];exact(o ix _ a 2 A).symm)<|X _<|cF a;refine⟨m.modify ix λ_=>y,?_,?_,?_,λk hk=>by rw[he k (J.lt k hk).2];exact h4 k hk⟩;(.apply ic;grind);(. (have av:(l.modify ix f)=(m.modify ix λ_=>y).length:=pC);have:=Qr lV 7 B5 A (p G i) (l:=m.modify ix λ_=>y) pC R (λk e hk s hs=>by rw[fX]at hk;by_cases g:ix=k;(.subst g;rw[a]at hk;simp at hk;subst hk;rw[K s hs];by_cases t:s=r;(.subst t;simp);.rw[BW t,o ix _ a s hs];grind);.cases q:m[k]? with|none=>grind|some e'=>rw[q]at hk;simp[g]at hk;subst hk;rw[o k _ q s hs];grind);grind);.intro e P;let⟨j,q⟩:=List.getElem?_of_mem P;rw[fX]at q;cases C:m[j]? with|none=>grind|some e'=>rw[C]at q;by_cases g:ix=j;(.grind);.simp[g]at q;subst q;exact(X _<|cF C).mn Q he
def mK.Ws{d:V->V}{w:W}{c:V}{b n cap:V}{l:L jy}(h:mK v d w c (ah b n cap) l)(H:v<=c/\c<v+50){ix:V}{x:jy}(q:l[ix]?=u x){r:V}(B:r<7)(a:O)(f:jy->jy)(p:∀e,aj w (b (ix*7+2) N)=u e->zt v d w (e,x)->∃y:O×jy,y.2=f x/\zt v d w y/\∀s,s<7->(lV y)[s]?=if s=r then u a else(lV (e,x))[s]?):mK v d (w (b (ix*7+r) N) a) c (ah b n cap)<|l.modify ix f:=by
 have t:d b=c:=by let⟨_,_,_,_,k⟩:=h;exact k b rfl
 have g:Ag v d w<|w (b (ix*7+r) N) a:=mQ.jl (λo=>o ⟨pC,pC⟩) a;refine h.R5 q B a f g (λ_ _=>rfl) (λJ i=>i.jl (ix*7+r) a) λe m D=>?_;let⟨y,G,j,C⟩:=p e m D;exact⟨y,G,j.mn g λ_ _=>rfl,C⟩
def Us(b off q n:V)(a:n6 aH)(cap:V)(h:q<4)(w:W)(g:aj w (b (off+q) N)=u (ah a n cap)):aN E 41 #[ae<|b off N,q] w λe c=>e=aD n/\c=w:=by
 have f:(q)<4:=A
 have d:(0)<=(q):=A
 go_enter Tryz.func41,Tryz.ntmps41;go_wp2_with fail;go_ret;simp
def ZU(K off e:V)(D:jM)(vB vL:O)(p up q:V)(f:q<4)(b cap:V)(l:L jy)(d:oD D q l<l)(w:W)(h:xR w K off e D vB vL p up b cap l):aN E 105 #[ae<|K off N,q] w λr a=>r=aD (ae<|b (oD D q l*7) N)/\Below w w a:=(VZ K off e D vB vL p up q f _ cap l w h).mono λr a g=>by obtain⟨c|c,i⟩:=g;(.grind);.omega
def aaD(K off e:V)(D:jM)(vB vL:O)(p up q:V)(f:q<4)(a:n6 aH)(cap:V)(l:L jy)(d:¬oD D q l<l)(w:W)(h:xR w K off e D vB vL p up a cap l):aN E 105 #[ae<|K off N,q] w λr b=>r=aD (ae N)/\Below w w b:=(VZ K off e D vB vL p up q f _ cap l w h).mono λr b g=>by obtain⟨c|c,i⟩:=g;(.omega);grind
def alc(a:O)(x:jy){q:V}(b:q<4):∀s,s<7->(lV (a,vG q x))[s]?=if s=3+q then u (aZ F)else(lV (a,x))[s]?:=by intro s hs;match q,b with|0,_=>(match s,hs with|0,_|1,_|2,_|3,_|4,_|5,_|6,_=>simp[lV,vG,jd])|1,_=>(match s,hs with|0,_|1,_|2,_|3,_|4,_|5,_|6,_=>simp[lV,vG,jd])|2,_=>(match s,hs with|0,_|1,_|2,_|3,_|4,_|5,_|6,_=>simp[lV,vG,jd])|3,_=>match s,hs with|0,_|1,_|2,_|3,_|4,_|5,_|6,_=>simp[lV,vG,jd]
def j6.WG{i:V->V}{w:W}{e:V}{c:jH}{vB vL:O}{K R:V}{f:V->O}{k:jL}(h:j6 g i w e c vB vL K R f k){p:V}(r:p<=c.D.nb)(jX:c.D.nb<=3){v:O}(q:f (p*10+4)=v){w2:W}(d:∀b,v.ownBlock=u b->i b=g+p*10+4)(hk:jq (λb=>u b≠v.ownBlock) w w2){l:L jy}(B:mK g i w2 (g+p*10+4) v l):j6 g i w2 e c vB vL K R f {k with jo:=jd k.jo p {k p with jf:=l}}/\Ag g i w w2:=by
 have key:=h.put (w':=w2) (O':=i) (s:=4) (v:=v) (P:={k p with jf:=l}) r jX A hk.jB (λ_ _=>rfl) (λb n y t=>hk.jg b (λa=>y<|d b a.symm) n) ((h.jT.jg<|hk.jg K (λa=>by have:=d K a.symm;have:=h.oK;omega) h.jT.lt).jY λj G=>by by_cases a:j=p*10+4;(.rw[rW a,a,q]);.rw[BW a]) (by unfold nP;simp[DE,DP,eN];exact B) λC x o=>⟨λ_=>⟨rfl,rfl,rfl⟩,λ_=>rfl,λh=>zW h o,λ_=>rfl,λ_ _=>rfl⟩;refine⟨?_,key.2⟩;have m:(λj=>if j=p*10+4 then v else f j)=f:=by funext j;by_cases a:j=p*10+4;(.rw[rW a,a,q]);.rw[BW a]
 rw[m]at key;exact key.1
def mK.at'{s:V->V}{w:W}{c:V}{a:n6 aH}{n cap:V}{l:L jy}(h:mK v s w c (ah a n cap) l){ix:V}{x:jy}(r:l[ix]?=u x):∃g ka kc,a=u ⟨g,0,N⟩/\Cx w g ix x (ah ka x.jR kc)/\qV v s w (ah ka x.jR kc) x.jR:=by
 let⟨p,G,t,C,K⟩:=h;obtain⟨e,H⟩|⟨g,q,J,e,P,M,o⟩:=t.2;.have:l=[]:=List.eq_nil_of_length_eq_zero H;rw[this]at r;simp at r
 .injection e with e1 e2 e3;(have b:(p.map eJ)[ix]?=u x:=by rwa[G]);rw[fU]at b;cases d:p[ix]? with|none=>rw[d]at b;simp at b|some y=>rw[d]at b;simp at b;let⟨B,f⟩:=y;simp at b;subst b;have i:=C (B,f)<|cF d;let⟨⟨⟨ka,kc,k⟩,_⟩,_⟩:=id i;simp at k;subst k;(have jZ:∀j,j<7->∀m,(lV (ah ka f.jR kc,f))[j]?=u m->aj w (g (ix*7+j) N)=u m:=by intro j D m Q;have:=(t.cells (g:=g)<|by rw[e1];rfl) (ix*7+j) m (by rwa[El lV 7 B5 p ix j _ d D]);rw[qn,eV]at this;exact this);exact⟨g,ka,kc,e1,⟨jZ 0 A _ rfl,jZ 1 A _ rfl,jZ 2 A _ rfl,jZ 3 A _ rfl,jZ 4 A _ rfl,jZ 5 A _ rfl,jZ 6 A _ rfl⟩,i.1⟩
def mK.fz{i:V->V}{w:W}{c b n cap:V}{l:L jy}(h:mK v i w c (ah b n cap) l)(j:V):fi w (b j N)=z:=by
 let⟨s,p,m,r,q⟩:=h;obtain⟨e,o⟩|⟨g,d,f,e,t,k,a⟩:=m.2;.cases e
 .injection e with e1 e2 e3;injection e1 with e1;injection e1 with e1;subst e1;simp[fi,k]
def Y9(i:V)(j:V->V)(w:W)(e:V)(c:jH)(vB vL:O)(K R:V)(f:V->O)(a:jL)(h:j6 i j w e c vB vL K R f a)(H:mu c)(p q:V)(T:p<=c.D.nb)(hq:q<=c.D.nb)(aR:p≠q)(hl:(a p).jf.length<=8)(ht:∀x∈(a p).jf,x.jb<c.D.nl)(hm:((a q).jS p).length<=8):aN E 65 #[ae<|K (p*10) N,ae<|K (q*10) N] w λr w'=>r=aD (se c p q a).isSome/\mA i j w e c vB vL K R ((se c p q a).getD a) w':=by
 have jX:=H.G.nb;have P:q<4:=A
 have av:p<4:=A
 let⟨oa,oc,hV⟩:=h.I4 T ht hl;have n2:=h.c2 hq;have f2:=cA n2;by_cases l:oD c q (a p).jf<(a p).jf.length;case neg=>have M:Hid<|se c p q a=N:=BW λx=>l x.1;have hC:∀d,Below w w d->aN E 105 #[ae<|K (p*10+1) N,q] d λr W'=>r=aD (ae N)/\Below d d W':=λd J=>aaD K (p*10+1) e c vB vL p (a p).up q P oa oc (a p).jf l d<|hV.below J;have hE:Hid<|∀d,Below w w d->mA i j w e c vB vL K R a d:=λd J=>h.tq J;clear l hV h n2;go_enter ja,aoy;go_wp2_with fail;apply cY vI vI;(repeat(go_big_quiet_step((go_at_call 105;exact dI<|hC _<|bG _ _ _))));apply cZ;intro _ am;let⟨⟨dq,s⟩,t⟩:=am;subst t;have o:=bG w dq s;generalize grow (redrawn w dq) s=w6 at*;go_wp2_with fail;go_quiet(fail);go_wp2_with fail;go_ret;exact⟨by rw[M.out];rfl,by rw[M.out];exact hE.out _<|below_drewN o _⟩
 obtain⟨x,hx⟩:∃x,(a p).jf[oD c q (a p).jf]?=u x:=⟨_,dw l⟩;obtain⟨b,kv,ka,kc,rfl,hb,a5,a3,-⟩:=hV.jT _ x hx;have hC:∀d,Below w w d->aN E 105 #[ae<|K (p*10+1) N,q] d λr W'=>r=aD (ae<|b (oD c q (a p).jf*7) N)/\Below d d W':=λd J=>ZU K (p*10+1) e c vB vL p (a p).up q P b oc (a p).jf l d<|hV.below J;have B:Hid<|se c p q a=if oD c q (a p).jf<(a p).jf.length/\((a q).jS p)≠c.C then u ⟨jd (jd a.jo p<|tH q (oD c q (a p).jf)<|a p) q<|xu p (wK p (a p).jf<|oD c q (a p).jf)<|a q,a.kO⟩else N:=rfl;have aB:Hid<|wK p (a p).jf (oD c q (a p).jf)=⟨p,x.jb,x.jR⟩:=by show _=_;simp only[wK,hx]
 generalize oD c q (a p).jf=ix at*;have y:f (p*10+4)=ah b (a p).jf.length oc:=by have h1:=h.jP T 4 A;have h2:=hV.c3;rw[show p*10+1+3=p*10+4 from rfl,h1]at h2;injection h2
 go_enter ja,aoy;go_wp2_with fail;apply cY vI vI;repeat(go_big_quiet_step((go_at_call 105;exact dI<|hC _<|bG _ _ _)))
 apply cZ;intro _ am;let⟨⟨dq,s⟩,t⟩:=am;subst t;have o:=bG w dq s;generalize grow (redrawn w dq) s=w6 at*;have X:=h.below o;have ac:Hid<|Ag i j w w6:=jq.km o;clear hC f2 n2 hV a3 hb h;have d1:=X.c1 T;have d2:=X.c2 T;have aL:=X.c2 hq;let⟨ma,mc,d5,a0⟩:=X.c5 hq av;obtain⟨-,-,dC,-⟩:=X.k w6 mQ;have hU:=λnq=>Us K (q*10+5) p ((a q).jS p) ma mc av (w6.drewN nq) d5;clear a0;by_cases g:((a q).jS p)=c.C;. (have M:Hid<|se c p q a=N:=by show _=_;rw[B.out];exact BW λx=>x.2 g);(have aC:((((a q).jS p):V):Y)==((c.C:V):Y):=by rw[g];simp);clear g B;go_wp2_with fail;go_quiet((go_at_call 41;exact fo<|hU _));go_wp2_with fail;go_ret;exact⟨by rw[M.out];rfl,by rw[M.out];exact mA.mq ac.out (λ_ _=>rfl)<|X.tq<|below_drewN jQ _⟩
 . (have aC:(((((a q).jS p):V):Y)==((c.C:V):Y))=z:=by rw[beq_eq_false_iff_ne];omega);(have M:Hid<|se c p q a=u ⟨jd (jd a.jo p<|tH q ix<|a p) q<|xu p ⟨p,x.jb,x.jR⟩<|a q,a.kO⟩:=by show _=_;rw[B.out,rW ⟨l,g⟩,aB.out]);clear B aB g;go_wp2_with fail;go_quiet((go_at_call 41;exact fo<|hU _));go_wp2_with fail;have h7:=X.below<|below_drewN jQ nq;have ad:Hid<|Ag i j w<|w6.drewN nq:=ac.out.jA<|jq.km<|below_drewN jQ nq;have aV:aj (w6.drewN nq) (K (q*10+1+1) N)=_:=aL;clear hU d1 d2 aL d5 dC X ac o aC;generalize(w6.drewN nq)=w7 at*;(have m:mK i j w7 (i+p*10+4) (ah b (a p).jf.length oc) (a.jo p).jf:=by have:=h7.jo p 4 T A;unfold nP at this;simp only[DE,DP,eN,y]at this;exact this);(have aW:j b=i+p*10+4:=by let⟨_,_,_,_,o4⟩:=m;exact o4 b rfl);let⟨b',a9,a8,v,al,aa⟩:=m.at' hx;injection v with v;injection v with v;subst v;have ys:=al.jv P;have bf:fi w7 ⟨b,ix*7+3+q,N⟩=z:=m.fz _;(have a6:(q:Y)<4:=A);(have ba:(0:Y)<=(q:Y):=A);go_cut[]from 6(λwc=>j6 i j wc e c vB vL K R f {a with jo:=jd a.jo p<|tH q ix<|a.jo p}/\Ag i j w7 wc);(case first=>(have h8:Hid<|∀d,(∀k,d.heap[k]?=(ij w7 ⟨b,ix*7+3+q,N⟩<|aZ F).heap[k]?)->d.heap.size=w7.heap.size->j6 i j d e c vB vL K R f {a with jo:=jd a.jo p<|tH q ix<|a.jo p}/\Ag i j w7 d:=λd J a7=>by have n:=m.Ws ⟨A,A⟩ hx (r:=3+q) A (aZ F) (vG q) λaw _ aI=>⟨(aw,vG q x),rfl,aI,alc aw x P⟩;rw[<-fQ]at n;have a1:jq (λb'=>u b'≠(ah (u ⟨b,0,N⟩) (a.jo p).jf.length oc).ownBlock) w7 d:=⟨A,λk hk _=>by rw[J k];exact aoz _ _ _ _ λe'=>hk<|by simp only at e';rw[e'];rfl⟩;(have a2:mK i j d (i+p*10+4) (ah (u ⟨b,0,N⟩) (a.jo p).jf.length oc)<|(a.jo p).jf.modify ix<|vG q:=by refine n.mn ⟨by simp[ij];omega,λk _ _=>J k⟩ (λ_ _=>rfl) λk _ _=>J k);exact h7.WG T jX y (λk hk=>by injection hk with hk;rw[<-hk];exact aW) a1 a2);clear h7 m aa al ad M;go_region;all_goals go_wp2_with fail;go_meet;exact h8.out _ (λ_=>rfl) (by simp[ij]));case rest=>clear ys bf al aa m aV h7;let⟨h8,S⟩:=hcut;(have n:mK i j wc (i+p*10+4) (ah (u ⟨b,0,N⟩) (a.jo p).jf.length oc)<|(a.jo p).jf.modify ix<|vG q:=by have:=h8.jo p 4 T A;unfold nP at this;simp only[DE,DP,eN,y,ki]at this;exact this);let⟨b2,ka,kc,v,an,Q⟩:=n.at' (x:=vG q x) (ix:=ix) (by rw[fX,hx];simp);injection v with v;injection v with v;subst v;have y0:aj wc ⟨b,ix*7,N⟩=u (ar au x.jb):=an.c0;have y2:aj wc ⟨b,ix*7+2,N⟩=u (ah ka x.jR.length kc):=an.c2;have n2:=h8.c2 T;have aS:qV i j wc (ah ka x.jR.length kc) x.jR:=Q;have aG:=aeQ i j wc.drew e c vB vL K R f _ (h8.below lD) H q p hq av (by simp only[j8 _ _<|Ne.symm aR];exact hm) ⟨p,x.jb,x.jR⟩ rfl ka kc<|aS.mn (jq.km lD) λ_ _=>rfl;simp only[j8 _ _<|Ne.symm aR]at aG;have a4:Hid<|Ag i j w wc.drew:=(ad.out.jA S).jA<|jq.km lD;clear an Q n h8 S aS ad y;go_wp2_with fail;go_region_with(go_at_call 106;apply aO aG;rintro r w9⟨rfl,h9⟩);all_goals go_wp2_with fail;go_ret;refine⟨by rw[M.out];rfl,?_⟩;rw[M.out];exact mA.mq a4.out (λ_ _=>rfl) h9
end
end Go.Proofs.YtldeiiffabfmeaaGreatDoor
namespace Go.Rel
section
def uD(b:cr)(ops:Z aK)(a:Z I):L V:=(dB ops).filter λi=>!a.getD i F&&((ops[i]?).map (·.after.all λe=>!cd b e||a.getD e.on z)).getD z
def Ia(c:cr)(ops:Z aK)(b t:V)(a:Z I)(acc:L V):dD c ops (b+1) t a acc=match(uD c ops a)[t%(uD c ops a)]? with|u i=>dD c ops b (t/(uD c ops a)) (bI a i F) (i::acc)|N=>acc.reverse:=rfl
def Lo{b:cr}{ops:Z aK}{a:Z I}{i:V}:i∈uD b ops a↔i<ops/\a.getD i F=z/\∃o,ops[i]?=u o/\∀e∈o.after,cd b e=F->a.getD e.on z=F:=by unfold uD;simp only[fx,dX,aX,fy];refine and_congr_right λhi=>and_congr_right λ_=>?_;cases h:ops[i]? with|none=>simp|some o=>simp only[gx,cD,fA,exists_eq_left'];rw[gy];grind
def Jj(a:cr)(ops:Z aK):V->V->V->I|0,_,_=>z|n+1,k,j=>((ops[k]?).map λo=>o.after.any (λe=>cd a e&&e.on==j)||o.after.any (λe=>cd a e&&Jj a ops n e.on j)).getD z
def Mz(b:cr)(ops:Z aK)(a:Z I):U:=∀(i:V)o,ops[i]?=u o->a.getD i z=F->∀e∈o.after,cd b e=F->a.getD e.on z=F
def ang{b:cr}{ops:Z aK}{a:Z I}(l:Mz b ops a):∀(n k:V),Jj b ops n k v=F->(∀o,ops[k]?=u o->∀e∈o.after,cd b e=F->a.getD e.on z=F)->a.getD v z=F:=by intro n;induction n with|zero=>intro k h;cases h|succ n i=>intro k h hk;unfold Jj at h;cases f:ops[k]? with|none=>grind|some o=>rw[f]at h;simp only[gx,cD,fB,eQ,aX,DB]at h;obtain⟨e,d,g,rfl⟩|⟨e,d,g,h⟩:=h;(.grind);.exact i e.on h λm c=>l e.on m c (hk o f e d g)
def G9(c:cr)(ops:Z aK):V->Z I->n6 (L V)|0,_=>u []|b+1,a=>match uD c ops a with|[]=>u []|[i]=>(G9 c ops b<|bI a i F).map (i::·)|_=>N
def akW{c:cr}{ops:Z aK}:∀(b:V)(a:Z I)(tail:L V),G9 c ops b a=u tail->∀t acc,dD c ops b t a acc=acc.reverse++tail:=by intro b;induction b with|zero=>intro a tail h t acc;cases h;simp[dD]|succ b e=>intro a tail h t acc;rw[Ia];unfold G9 at h;cases d:uD c ops a with|nil=>grind|cons i r=>rw[d]at h;cases r with|nil=>simp[gz]at h;grind|cons _ _=>cases h
structure Cut(md:cr)(ops:Z aK)(n:V)(tail:L V):U where
 le:n<=ops
 pre:∀(i:V)o,i<n->ops[i]?=some o->∀e∈o.after,cd md e=true->e.on<n
 Av:∀k,n<=k->k<ops->∀j,j<n->Jj md ops n k j=true
 rest:G9 md ops (ops-n) (du n true++du (ops-n) false)=some tail
 acQ:∃r:V->V,∀(i:V)o,i<n->ops[i]?=some o->∀e∈o.after,cd md e=true->r e.on<r i
def Cut.full{c:cr}{ops:Z aK}{n:V}{tail:L V}(C:Cut c ops n tail){a:Z I}(p:a=n)(h:uD c (ops.extract 0 n) a=[]):∀j,j<n->a.getD j z=F:=by
 let⟨r,l⟩:=C.acQ;have k:(ops.extract 0 n)=n:=by have:=C.le;simp;omega
 have key:∀m j,r j=m->j<n->a.getD j z=F:=by intro m;induction m using gd with|_ m i=>intro j o g;cases q:a.getD j z with|true=>rfl|false=>(have b:j<ops:=pC);(have:j∈uD c (ops.extract 0 n) a:=by refine Lo.2 ⟨A,pC,ops[j],?_,λe f d=>?_⟩;(.grind);.exact i _ (o▸l j _ g (gA b) e f d) e.on rfl<|C.pre j _ g (gA b) e f d);grind
 grind
def Da(a:Z I)(n:V):V:=((dB n).filter λi=>!a.getD i z)
def amp{b:Z I}{n i:V}(hi:i<n)(f:b.getD i z=z)(hs:i<b):Da b n=Da (bI b i F) n+1:=by
 unfold Da;have key:∀(l:L V),l.Nodup->i∈l->(l.filter λj=>!b.getD j z)=(l.filter λj=>!(bI b i F).getD j z).length+1:=by(have same:∀j,j≠i->(bI b i F).getD j z=b.getD j z:=by intro j c;rw[bO,bO,Array.getElem?_setIfInBounds_ne<|Ne.symm c]);intro l;induction l with|nil=>simp|cons a l h=>intro d g;rw[List.nodup_cons]at d;by_cases e:a=i;(.subst e;(have e2:(bI b a F).getD a z=F:=by simp_all);rw[List.filter_cons_of_pos<|by rw[f];rfl,List.filter_cons_of_neg<|by rw[e2];simp];(have:(l.filter λj=>!b.getD j z)=l.filter λj=>!(bI b a F).getD j z:=by refine iw λj c=>?_;grind);grind);grind
 grind
def anS{a:Z I}{n:V}(h:Da a n=0):∀j,j<n->a.getD j z=F:=by intro j b;unfold Da at h;simp_all
def alj{b:cr}{ops:Z aK}{n:V}{tail:L V}(C:Cut b ops n tail){a l:Z I}(hL:a=ops.size)(G:l=n)(hs:∀i,i<n->a.getD i z=l.getD i z)(B:Mz b ops a)(x:v<n)(K:a.getD v z=z):uD b ops a=uD b (ops.extract 0 n) l:=by
 have c:(ops.extract 0 n)=n:=by have:=C.le;simp;omega
 have f:∀i,i<n->(ops.extract 0 n)[i]?=ops[i]?:=pC
 unfold uD;rw[c];obtain⟨m,r⟩:∃m,ops=n+m:=⟨ops-n,pC⟩;rw[r,List.range_add,gB];have g:(List.filter (λi=>!a.getD i F&&((ops[i]?).map (·.after.all λe=>!cd b e||a.getD e.on z)).getD z) ((dB m).map (n+·)))=[]:=by rw[List.filter_eq_nil_iff];intro k hk M;simp[List.mem_map,dX]at hk;obtain⟨d,h,rfl⟩:=hk;(have y:n+d∈uD b ops a:=by unfold uD;grind);let⟨t,g,o,H,D⟩:=Lo.1 y;have:=ang B n (n+d) (C.Av (n+d) A t v x) (λJ s=>pC);grind
 rw[g,List.append_nil];refine iw λi hi=>?_;rw[dX]at hi;rw[(by grind:a.getD i F=l.getD i F),f i hi];congr 1;cases p:ops[i]? with|none=>rfl|some o=>simp only[gx,cD];rw[gC,gy,gy];refine forall_congr' λe=>forall_congr' λw=>?_;cases q:cd b e with|false=>simp|true=>rw[hs _<|C.pre i o hi p e w q]
def ann{b:cr}{ops:Z aK}{n:V}{tail:L V}(C:Cut b ops n tail):∀(f t:V)(a l:Z I)(acc:L V),a=ops.size->l=n->(∀i,i<n->a.getD i z=l.getD i z)->(∀i,n<=i->a.getD i z=z)->Mz b ops a->Da l n=f->(∀i∈acc,i<n)->dD b ops (f+(ops-n)) t a acc=dD b (ops.extract 0 n) f t l acc++tail/\∀i∈dD b (ops.extract 0 n) f t l acc,i<n:=by intro f;induction f with|zero=>intro t a l acc hL d hs r q y x;have v:=anS y;(have e:a=du n F++du (ops-n) z:=by have B:=C.le;refine Array.ext Fk λi R T=>?_;by_cases hi:i<n;(.rw[Array.getElem_append_left<|by simpa using hi,iy];have:=hs i hi;simp_all);.rw[Array.getElem_append_right Fk,iy];have:=r i A;simp_all);rw[eV,e,akW _ _ _ C.rest];refine⟨rfl,?_⟩;simp[dD,List.mem_reverse];exact x|succ f J=>intro t a l acc hL d hs r q y x;(obtain⟨j,s,D⟩:∃j,j<n/\l.getD j z=z:=by refine Classical.byContradiction λh=>?_;(have:Da l n=0:=by unfold Da;simp_all);omega);have w:=alj C hL d hs q s pC;rw[show f+1+(ops-n)=(f+(ops-n))+1 by omega,Ia,Ia,w];(have g:uD b (ops.extract 0 n) l≠[]:=λe=>by have:=C.full d e j s;grind);obtain⟨i,hi⟩:∃i,(uD b (ops.extract 0 n) l)[t%(uD b (ops.extract 0 n) l)]?=u i:=⟨_,dw<|Nat.mod_lt t<|iz.2 g⟩;rw[hi];simp[];have c:=cF hi;let⟨i1,i2,o,i3,S⟩:=Lo.1<|w▸c;(have p:i<n:=by have:=(Lo.1 c).1;grind);(have P:∀k,(bI a i F).getD k z=if i=k then F else a.getD k z:=by intro k;rw[bO,iA,bO];grind);(have Q:∀k,(bI l i F).getD k z=if i=k then F else l.getD k z:=by intro k;rw[bO,iA,bO];grind);refine J _ _ _ _ (by simpa using hL) (by simpa using d) (λk hk=>?_) (λk hk=>?_) (λk K m hk e M G=>?_) ?_ ?_;(.grind);(.grind);(.rw[P]at hk⊢;split;(.rfl);.by_cases H:i=k;(.grind);.rw[BW H]at hk;exact q k K m hk e M G);(.have:=amp p (by grind:l.getD i z=z) A;omega);grind
def GS{a:cr}{ops:Z aK}{n:V}{tail:L V}(C:Cut a ops n tail)(t:V):dY a ops t=dY a (ops.extract 0 n) t++tail/\∀i∈dY a (ops.extract 0 n) t,i<n:=by
 have b:(ops.extract 0 n)=n:=by have:=C.le;simp;omega
 unfold dY;rw[b];have h:=ann C n t (du ops z) (du n z) [] F0 F0 (λi hi=>?_) (λi hi=>?_) (λi o c hi=>?_) ?_ F0;.grind
 .simp[gD,hi];split<;>rfl
 .simp[gD];split<;>rfl
 .exfalso;simp[gD]at hi;grind
 .unfold Da;rw[List.filter_eq_self.2];(.simp);simp_all
structure Eb(mixed:I)(ops:Z aK)(n:V)(tail:L V):U where
 any:mixed=true\/dE ops=false->Cut .any ops n tail
 text:mixed=false->dE ops=true->Cut .text ops n tail/\Cut .gc ops n tail
def Tm{ops:Z aK}(h:dE ops=z)(b:cr)(t:V):dY b ops t=dY .any ops t:=by
 have c:∀(i:V)o,ops[i]?=u o->∀e∈o.after,cd b e=cd .any e:=by intro i o j e k;(have d:cd .any e=F:=by cases c:cd .any e with|true=>rfl|false=>have:dE ops=F:=eQ.2 ⟨o,eX j,eQ.2 ⟨e,k,by rw[c];rfl⟩⟩;grind);rw[d];revert d;unfold cd;grind
 have g:∀a,uD b ops a=uD .any ops a:=by intro a;unfold uD;grind
 unfold dY;have:∀f t a acc,dD b ops f t a acc=dD .any ops f t a acc:=by intro f;induction f with|zero=>intro t a acc;rfl|succ f l=>intro t a acc;rw[Ia,Ia,g];grind
 grind
def Vt{a:I}{ops:Z aK}{n:V}{tail:L V}(C:Eb a ops n tail)(t:V):∃c,dO a ops t=dO a (ops.extract 0 n) c++tail/\∀i∈dO a (ops.extract 0 n) c,i<n:=by
 have sub:dE ops=z->dE (ops.extract 0 n)=z:=by intro h;cases b:dE (ops.extract 0 n)with|false=>rfl|true=>let⟨o,f,d⟩:=eQ.1 b;obtain⟨k,hk,rfl⟩:=fE.1 f;rw[gE]at d;have:dE ops=F:=eQ.2 ⟨_,Array.getElem_mem _,d⟩;grind
 unfold dO;cases e:a with|true=>simp[Bool.true_or,DE];exact⟨t,GS (C.any<|aA e) t⟩|false=>simp[Bool.false_or];cases hd:dE ops with|false=>simp[sub hd,iC,DE];exact⟨t,GS (C.any<|aJ hd) t⟩|true=>let⟨c1,c2⟩:=C.text e hd;simp[gF,eY,DP];cases b:dE (ops.extract 0 n)with|true=>simp[gF,eY,DP];refine⟨t,?_⟩;split;(.exact GS c1 _);.exact GS c2 _|false=>simp[iC,DE];refine⟨t/2,?_⟩;split;(.rw[<-Tm b .text];exact GS c1 _);.rw[<-Tm b .gc];exact GS c2 _
end
section
variable{ok:jO}{P:bD}
mutual def xC:O->I|aZ _|ar _ _|fI _|ae N|ah N _ _|cf N|cO|fa=>F|bJ ⟨x⟩|dg ⟨x⟩=>Ki x|_=>z def Ki:L O->I|[]=>F|v::vs=>xC v&&Ki vs end
mutual theorem Kr:∀{v:O},xC v=F->Flat v|aZ _,_=>trivial|ar _ _,_=>trivial|fI _,_=>trivial|ae N,_=>trivial|ah N _ _,_=>trivial|cf N,_=>trivial|cO,_=>trivial|fa,_=>trivial|bJ ⟨x⟩,h=>by rw[Flat];exact M5 (by rw[xC]at h;exact h)|dg ⟨x⟩,h=>by rw[Flat];exact M5 (by rw[xC]at h;exact h)|ae (u _),h=>by simp[xC]at h|ah (u _) _ _,h=>by simp[xC]at h|cf (u _),h=>by simp[xC]at h|.chan _,h=>by simp[xC]at h|dK _ _ _,h=>by simp[xC]at h|de _ _,h=>by simp[xC]at h|gR _ _,h=>by simp[xC]at h|gS _ _ _,h=>by simp[xC]at h theorem M5:∀{v:L O},Ki v=F->xG v|[],_=>by rw[xG];trivial|v::vs,h=>by rw[Ki,aX]at h;rw[xG];exact⟨Kr h.1,M5 h.2⟩end
structure D7 where
 fn:V->I
 n9:I
 gs:V
 mG:aT
structure D7.Fits(B:D7)(ok:jO):U where
 fn:∀f,B.fn f=true->ok.fn f
 n9:B.n9=true->ok.n9
 gs:B.gs=ok.gs
 mG:B.mG=ok.mG
section
variable(B:D7)(P)
def qs:dy->I|bj _=>F|dM v=>xC v|.global g=>B.n9&&decide (g<B.gs)|.func f=>B.fn f
def FV(t:aT):I:=match(P.info? t).bind (·.zero)with|u v=>xC v|N=>F
def F9(t:aT):I:=match P.underlying t with|u (.slice e)=>FV P e|_=>F
def Lm(t:aT):I:=match P.underlying t with|u (.int _)=>F|_=>z
def KP:V->aT->I|0,_=>z|d+1,t=>match P.underlying t with|u (.int _)=>F|u .bool=>F|u (.array _ e)=>KP d e|_=>z
def Py(t:aT):I:=match P.underlying t with|u (.pointer _)|u (.slice _)|u (.map _ _)|N=>F|_=>z
def JZ:dy->I|dM (ae N)|dM (ah N _ _)|dM (cf N)|dM cO|dM fa=>F|_=>z
def Hm(t:aT):I:=match P.underlying t with|u (.map k e)=>Lm P k&&FV P e|_=>F
def Q0(t:aT):I:=match P.underlying t with|u (.array _ _)|u (.slice _)|N=>F|_=>z
def Oy(s:aT)(i:V):I:=match P.underlying s with|u (.struct fs)=>(match fs[i]? with|u f=>(match P.info? f.type with|u d=>d.size !=0|N=>F)|N=>F)|_=>F
def VF:TypeDesc->I|.interface _=>F|_=>z
def OG(t:aT):I:=(P.eqGuardType P.depth t==z)&&(match P.underlying t with|u d=>!VF d|N=>F)
def Ov(b:Builtin)(ts:Z aT):I:=match b with|.append=>(match ts[0]? with|u s=>F9 P s|N=>F)&&(match ts[1]? with|u x=>(match P.underlying x with|u (.slice _)|u (.int _)|N=>F|_=>z)|N=>F)|.cap|.len|.copy=>F|.clear=>(match ts[0]? with|u s=>F9 P s|N=>F)|.delete=>(match ts[0]? with|u s=>Hm P s|N=>F)|_=>z
def KV:n6 dy->I|u x=>qs B x|N=>F
def TH(op:BinOp)(t:aT)(x y:dy):I:=match op with|.add|.sub|.mul|.quo|.rem|.lss|.leq|.gtr|.geq=>Lm P t|.eql|.neq=>OG P t&&(KP P 5 t||(Py P t&&(JZ x||JZ y)))|_=>z
def Gp(o:aK):I:=match o.op with|.move x|.assign x|.box _ x|.load _ x|.nilCheck x|.extract x _=>qs B x|.panic _=>F|.makeInterface t (dM v)=>(t !=B.mG)&&xC v|.pick c a b=>qs B c&&qs B a&&qs B b|.alloc t=>FV P t|.build t ps=>FV P t&&ps.toList.all λp=>qs B p.2|.buildSlice t _ ps=>F9 P t&&ps.toList.all λp=>qs B p.2|.store _ a x|.indexAddr _ a x=>qs B a&&qs B x|.binOp op t x y _=>qs B x&&qs B y&&TH P op t x y|.unOp .not _ x|.unOp .neg _ x=>qs B x|.makeFunc (.func f) first d=>B.fn f&&first.toList.all (qs B)&&d.toList.all (qs B)|.makeMap _ N=>F|.makeSlice t l c=>F9 P t&&qs B l&&qs B c|.slice t x lo g e=>Q0 P t&&qs B x&&KV B lo&&KV B g&&KV B e|.fieldAddr s x i=>Oy P s i&&qs B x|.lookup t x k _=>Hm P t&&qs B x&&qs B k|.mapUpdate t m k v|.insert t m k v=>Hm P t&&qs B m&&qs B k&&qs B v|.call c=>c.args.toList.all (qs B)&&(match c.callee with|.value f=>qs B f|.builtin b=>Ov P b c.argTypes|.invoke _ _=>z)|_=>z
def pY:aF->I|dH|eH _|dS|fF _=>F|bP _ ops _=>ops.toList.all (Gp P B)|aE a b=>pY a&&pY b|dJ c a b=>qs B c&&pY a&&pY b|cV _ c|dR c=>pY c|_=>z
end
section
variable{B:D7}(H:B.Fits ok)
include H
def pk{x:dy}(h:qs B x=F):mV ok x:=by cases x with|tmp t=>trivial|const v=>exact Kr h|global g=>simp[qs,aX,DA]at h;exact⟨H.n9 h.1,by rw[<-H.gs];exact h.2⟩|func f=>exact H.fn f h
def ME{l:Z dy}(h:l.toList.all (qs B)=F):∀x∈l,mV ok x:=λx a=>pk H<|ek.1 h x<|by simpa using a
def RE{l:Z<|V×dy}(h:l.toList.all (λp=>qs B p.2)=F):∀p∈l,mV ok p.2:=λx a=>pk H pC
def P6{o:n6 dy}(h:KV B o=F):∀y,o=u y->mV ok y:=by rintro y rfl;exact pk H h
omit H
def JU{t:aT}(h:FV P t=F):ZF P t:=by intro d v a b;simp[FV,a,iD,b]at h;exact Kr h
def JN{t:aT}(h:F9 P t=F):ZE P t:=by intro e d v b a c;simp[F9,b]at h;exact JU h d v a c
def Ra{t:aT}(h:Lm P t=F):yb P t:=by
 unfold Lm at h;split at h;.rename_i k e;exact⟨k,e⟩
 .cases h
def Rz:∀{d:V}{t:aT},KP P d t=F->EE P d t|0,t,h=>by cases h|d+1,t,h=>by unfold KP at h;unfold EE;split at h;(.rename_i k e;exact aA ⟨k,e⟩);(.grind);(.rename_i n e a;exact aJ<|aJ ⟨n,e,a,Rz h⟩);.cases h
def aeY{t:aT}(h:Py P t=F):I3 P t:=by intro d hd;simp[Py,hd]at h;grind
def SG{x:dy}(h:JZ x=F):Lk x:=by unfold JZ at h;split at h<;>first|trivial|cases h
def Lh{t:aT}(h:Hm P t=F):ED P t:=by
 unfold Hm at h;refine⟨λk e a=>?_,λk e d v a=>?_⟩<;>(simp[a,aX]at h);.exact Ra h.1
 .exact JU h.2 d v
def anD{t:aT}(h:Q0 P t=F):MN P t:=by intro d hd;simp[Q0,hd]at h;grind
def anQ{s:aT}{i:V}(h:Oy P s i=F):TD P s i:=by intro fs f d a c b;simp[Oy,a,c,b]at h;simpa using h
def adW{op:BinOp}{t:aT}(h:OG P t=F):P8 P op t:=by intro _;simp[OG,aX,DB]at h;refine⟨h.1,λd hd a e=>?_⟩;rw[hd,e]at h;simp[VF]at h
def aeT{b:Builtin}{ts:Z aT}(h:Ov P b ts=F):K8 P b ts:=by
 unfold Ov at h;unfold K8;split at h;.simp[aX]at h;refine⟨λs hs=>?_,λx d a hd=>?_⟩;(.have:=h.1;rw[hs]at this;exact JN this);grind
 .trivial
 .trivial
 .trivial
 .intro s hs;rw[hs]at h;exact JN h
 .intro s hs;rw[hs]at h;exact Lh h
 .cases h
include H
def PI{o:aK}(h:Gp P B o=F):qh ok P o:=by unfold Gp at h;unfold qh;generalize o.op=op at h⊢;cases op with|move x=>exact pk H h|assign x=>exact pk H h|box t x=>exact pk H h|load t x=>exact pk H h|nilCheck x=>exact pk H h|extract x i=>exact pk H h|panic x=>trivial|makeInterface t x=>(cases x with|const v=>simp[aX,bne_iff_ne]at h;exact⟨by rw[<-H.mG];exact h.1,_,rfl,Kr h.2⟩|_=>cases h)|pick c a b=>simp[aX]at h;exact⟨pk H h.1.1,pk H h.1.2,pk H h.2⟩|alloc t=>exact JU h|build t ps=>simp only[aX]at h;exact⟨JU h.1,RE H h.2⟩|buildSlice t n ps=>simp only[aX]at h;exact⟨JN h.1,RE H h.2⟩|store t a x=>simp[aX]at h;exact⟨pk H h.1,pk H h.2⟩|indexAddr t a x=>simp[aX]at h;exact⟨pk H h.1,pk H h.2⟩|binOp op t x y C=>simp[aX]at h;let⟨⟨q,g⟩,d⟩:=h;refine⟨pk H q,pk H g,?_⟩;unfold TH at d;unfold Mp;(cases op<;>first|(cases d;done)|exact⟨λe=>(by simp at e),z,Ra d,λe=>by cases e⟩|skip);all_goals simp[aX,fB]at d;refine⟨adW d.1,?_⟩;obtain p|⟨p,w⟩:=d.2;(.exact⟨z,aA ⟨5,A,Rz p⟩,λe=>by cases e⟩);.exact⟨F,aJ ⟨aeY p,rfl⟩,λ_=>w.imp SG SG⟩|unOp op t x=>(cases op<;>first|(cases h;done)|exact⟨aA rfl,pk H h⟩|exact⟨aJ rfl,pk H h⟩)|makeFunc fn first j=>(cases fn with|func f=>simp only[aX]at h;exact⟨⟨f,rfl,H.fn f h.1.1⟩,ME H h.1.2,ME H h.2⟩|_=>cases h)|makeMap t r=>grind|makeSlice t l c=>simp[aX]at h;exact⟨JN h.1.1,pk H h.1.2,pk H h.2⟩|slice t x lo D G=>simp[aX]at h;exact⟨anD h.1.1.1.1,pk H h.1.1.1.2,P6 H h.1.1.2,P6 H h.1.2,P6 H h.2⟩|fieldAddr t x i=>simp[aX]at h;exact⟨anQ h.1,pk H h.2⟩|lookup t x k c=>simp[aX]at h;exact⟨Lh h.1.1,pk H h.1.2,pk H h.2⟩|mapUpdate t m k v=>simp[aX]at h;exact⟨Lh h.1.1.1,pk H h.1.1.2,pk H h.1.2,pk H h.2⟩|insert t m k v=>simp[aX]at h;exact⟨Lh h.1.1.1,pk H h.1.1.2,pk H h.1.2,pk H h.2⟩|call c=>simp only[aX]at h;refine⟨ME H h.1,?_⟩;let⟨q,g⟩:=h;(cases s:c.callee with|value f=>rw[s]at g;exact pk H g|builtin b=>rw[s]at g;exact aeT g|invoke _ _=>grind)|_=>cases h
def uz:∀{c:aF},pY P B c=F->te ok P c|dH,_=>trivial|eH _,_=>trivial|dS,_=>trivial|fF _,_=>trivial|bP _ ops _,h=>λo d=>PI H (ek.1 (by rw[pY]at h;exact h) o<|by simpa using d)|aE a b,h=>by rw[pY,aX]at h;exact⟨uz h.1,uz h.2⟩|dJ c a b,h=>by rw[pY,aX,aX]at h;exact⟨pk H h.1.1,uz h.1.2,uz h.2⟩|cV _ c,h=>by rw[pY]at h;exact uz (c:=c) h|dR c,h=>by rw[pY]at h;exact uz (c:=c) h
end
end
section
open Go.Conc(G)
variable{ok:jO}{ρ ρ':jG}{P:bD}
def Safe.re{S:L ak->W->U}(hS:∀l w a d,S l w->S l (w.re a d)){l:L ak}{w:W}(h:Safe ok P S l w)(a:V->dF->V)(d:V):Safe ok P S l<|w.re a d:=by cases h with|stop h=>exact .stop<|hS _ _ _ _ h|step hd h hs=>exact .step hd (h)<|hs
def Safe.jh{S S':L ak->W->U}(hS:∀l w,S l w->S' l w){l:L ak}{w:W}(h:Safe ok P S l w):Safe ok P S' l w:=by induction h with|stop h=>exact .stop<|hS _ _ h|step hd h hs a=>exact .step hd h a
def FB{fr:ak}(e:fr.mode=.run)(g:L ak):jV P (fr::g)=jV P [fr]>>=λl=>pure (l++g):=by let⟨fn,h,a,d,f,kind,round⟩:=fr;simp at e;subst e;unfold jV;simp[];cases a with|nil=>rfl|cons it k=>cases it with|code c=>(cases c with|cond c x y=>simp[];split<;>rfl|exit id=>simp[];split<;>rfl|region id ops b=>simp[];cases b<;>rfl|_=>rfl)|inRegion ops l=>(cases l with|nil=>rfl|cons i rest=>simp[];cases ops[i]? with|none=>rfl|some o=>simp[];split;(.simp[bind_assoc];congr 1;funext n;cases n<;>rfl);.rfl)|_=>rfl
def Gw(a:L az):U:=∃ops i rest r,a=ax ops (i::rest)::r
structure F3(ok:jO)(P:bD)(b:ak)(T:L az->L az->U)(S S':L ak->W->U):U where
 op:∀{ops i rest r td'},T (ax ops (i::rest)::r) td'->∃ops' rest' r',td'=ax ops' (i::rest')::r'/\ops'[i]?=ops[i]?/\(∀o tm,ops[i]?=some o->cT o (yielded ops' tm)=cT o (yielded ops tm))/\T (ax ops rest::r) (ax ops' rest'::r')
 code:∀{td td'},T td td'->¬Gw td->∀a,(∃g g',(wH ok P [b.at a td]->wH ok P [b.at a td'])/\jV P [b.at a td]=pure [g]/\jV P [b.at a td']=pure [g']/\((∃td1 td1',g=b.at a td1/\g'=b.at a td1'/\T td1 td1')\/∀w,Safe ok P S [g] w->S' [g'] w))\/(∃(q:dF)(f f':V->L az),(wH ok P [b.at a td]->wH ok P [b.at a td'])/\(jV P [b.at a td]=choose q>>=λt=>pure [b.at a<|f t])/\(jV P [b.at a td']=choose q>>=λt=>pure [b.at a<|f' t])/\q.forced=false/\(∀t,q.cut t=t)/\∀t,∃t',T (f t') (f' t))\/(∃h,jV P [b.at a td]=.halt h)\/(∀w,Safe ok P S [b.at a td] w->S' [b.at a td'] w)
 vn:∀{l w},S l w->∃f,l=[f]/\∀a td td',T td td'->f≠b.at a td
 B8:∀l w τ d,S' l w->S' l (w.re τ d)
section
variable{b:ak}{T:L az->L az->U}{S S':L ak->W->U}
def QE(P:bD)(b:ak)(T:L az->L az->U)(l h:L ak):U:=∀g l1 w1 f,(jV P l).runT P g #[]=(.ok l1 w1,f)->∃d e c a,l1=d++[b.at e c]/\T c a/\(d≠[]->Gw c)/\(jV P h).runT P g #[]=(.ok (d++[b.at e a]) w1,f)
def MK(b:ak)(a:Act)(ops:Z aK)(i:V)(rest:L V)(r:L az):jV P [b.at a<|ax ops (i::rest)::r]=match ops[i]? with|N=>pure [b.at a<|ax ops rest::r]|u o=>if cT o (eF ops a.tmps)then bE a.eval o>>=λn=>match n with|.value v=>pure [b.at (a.put o.dst v)<|ax ops rest::r]|.skip=>pure [b.at (a.put o.dst ai)<|ax ops rest::r]|.enter f d=>pure [cG P f d cU,b.at a<|ax ops (i::rest)::r]|_=>stuck ""else pure [b.at (a.put o.dst ai)<|ax ops rest::r]:=by have c:=(gG b a ops i rest r);unfold jV;rw[<-Frame.eval_at' b a<|ax ops (i::rest)::r];show(match ops[i]? with|N=>pure [(b.at a<|ax ops (i::rest)::r).finish ai]|u o=>_)=_;cases e:ops[i]? with|none=>simp[c,e,Option.bind_none];rfl|some o=>simp[c,e,iD];rfl
def aaX(B:F3 ok P b T S S'){j e:L az}(m:T j e)(s:Gw j)(a:Act):QE P b T [b.at a j] [b.at a e]:=by obtain⟨ops,i,rest,r,rfl⟩:=s;obtain⟨p,h,D,rfl,e1,e2,d⟩:=B.op m;intro w l1 w1 C c;rw[MK]at c⊢;rw[e1];cases k:ops[i]? with|none=>rw[k]at c;simp only at c⊢;cases c;exact⟨[],a,_,_,rfl,d,F0,rfl⟩|some o=>rw[k]at c;simp only at c⊢;rw[e2 o a.tmps k];split at c;(.rename_i g;rw[rW g];rw[sK]at c⊢;generalize(bE a.eval o).runT P w #[]=t at c⊢;let⟨x,q⟩:=t;cases x with|halt x y=>cases c|ok n y=>cases n with|value v=>cases c;exact⟨[],_,_,_,rfl,d,F0,rfl⟩|skip=>cases c;exact⟨[],_,_,_,rfl,d,F0,rfl⟩|enter f l=>cases c;exact⟨[_],_,_,_,rfl,m,λ_=>⟨_,_,_,_,rfl⟩,rfl⟩|_=>cases c);.rename_i g;rw[BW g];cases c;exact⟨[],_,_,_,rfl,d,F0,rfl⟩
def afu(w:F3 ok P b T S S'){k e:L az}(o:T k e)(s:Gw k)(a:Act)(fr:ak)(X:L ak):QE P b T (fr::(X++[b.at a k]))<|fr::(X++[b.at a e]):=by intro n l1 w1 B d;cases t:fr.mode with|run=>rw[FB t]at d⊢;rw[sK]at d⊢;generalize(jV P [fr]).runT P n #[]=h at d⊢;let⟨x,g⟩:=h;(cases x with|halt x j=>cases d|ok y j=>cases d;exact⟨y++X,a,k,e,F0,o,λ_=>s,by simp<;>rfl⟩)|panicking c=>unfold jV at d;simp_all|returning=>unfold jV at d⊢;simp only[t]at d⊢;obtain⟨ops,i,rest,r,rfl⟩:=s;obtain⟨q,m,C,rfl,e1,e2,p⟩:=w.op o;cases X with|nil=>simp only[gH]at d⊢;(cases l:P.funcs[fr.fn]? with|none=>simp_all|some f=>rw[l]at d;simp only at d⊢;rw[sK]at d⊢;generalize(dZ f fr.tmps).runT P n #[]=h at d⊢;let⟨x,g⟩:=h;cases x with|halt x j=>cases d|ok v j=>simp only[gG,e1]at d⊢;cases d;exact⟨[],_,_,_,rfl,p,F0,rfl⟩)|cons c X=>simp only[iE]at d⊢;cases l:P.funcs[fr.fn]? with|none=>simp_all|some f=>rw[l]at d;simp only at d⊢;rw[sK]at d⊢;generalize(dZ f fr.tmps).runT P n #[]=h at d⊢;let⟨x,g⟩:=h;cases x with|halt x j=>cases d|ok v j=>cases d;exact⟨c.finish v::X,a,_,_,rfl,o,λ_=>⟨_,_,_,_,rfl⟩,rfl⟩
def Jq(v:F3 ok P b T S S'){l:L ak}{w:W}(hs:Safe ok P S l w):∀X a p j,l=X++[b.at a p]->T p j->(X≠[]->Gw p)->Safe ok P S' (X++[b.at a j]) w:=by induction hs with|stop h=>intro X a p j e y _;let⟨f,e2,K⟩:=v.vn h;rw[e2]at e;(cases X with|nil=>simp[gH,List.cons.injEq,and_true]at e;exact zW e<|K a p j y|cons x X=>simp at e)|@step l w hd h hs G=>intro X a p j e y hX;subst e;(have done:QE P b T (X++[b.at a p]) (X++[b.at a j])->wH ok P (X++[b.at a j])->Safe ok P S' (X++[b.at a j]) w:=by intro sm M;refine .step M (λc d=>?_) λc d R w' H n=>?_;(.let⟨l1,w1,H,n⟩:=h c d;let⟨X1,a1,s,m,_,_,_,h4⟩:=sm _ _ _ _ n;grind);.let⟨l1,w1,ac,C⟩:=h c d;let⟨X1,a1,s,m,h1,h2,h3,h4⟩:=sm _ _ _ _ C;rw[h4]at n;cases n;exact G c d _ _ _ C X1 a1 s m h1 h2 h3);cases X with|cons fr X=>exact done (afu v y (hX F0) a fr X) hd|nil=>by_cases t:Gw p;(.refine done (aaX v y t a) ?_;obtain⟨ops,i,rest,r,rfl⟩:=t;obtain⟨aa,Q,r',rfl,e1,e2,D⟩:=v.op y;intro hm it k e;cases e;intro o t;rw[e1]at t;exact hd rfl (ax ops<|i::rest) r rfl o t);.simp only[gH]at hd h hs G⊢;obtain⟨g,g',e0,e1,e2,B⟩|⟨q,f,f',e0,e1,e2,hq,hc,K⟩|⟨x,e1⟩|B:=v.code y t a;(. (have r1:∀c d,(jV P [b.at a p]).runT P (w.re c d) #[]=(.ok [g]<|w.re c d,#[]):=λc d=>by rw[e1];rfl);(have r2:∀c d,(jV P [b.at a j]).runT P (w.re c d) #[]=(.ok [g']<|w.re c d,#[]):=λc d=>by rw[e2];rfl);refine .step (e0 hd) (λc d=>⟨_,_,_,r2 c d⟩) λc d R w' H n=>?_;rw[r2]at n;cases n;obtain⟨s,m,rfl,rfl,J⟩|B:=B;(.exact G c d _ _ _ (r1 c d) [] a s m rfl J F0);.exact .stop<|B _<|hs c d _ _ _<|r1 c d);(. (have r1:∀c d,(jV P [b.at a p]).runT P (w.re c d) #[]=(.ok [b.at a<|f<|c d q]<|w.re c<|d+1,#[]):=λc d=>by rw[e1,sK];simp only[choose,Sem.runT,hq,eY,DP,hc];rfl);(have r2:∀c d,(jV P [b.at a j]).runT P (w.re c d) #[]=(.ok [b.at a<|f'<|c d q]<|w.re c<|d+1,#[]):=λc d=>by rw[e2,sK];simp only[choose,Sem.runT,hq,eY,DP,hc];rfl);refine .step (e0 hd) (λc d=>⟨_,_,_,r2 c d⟩) λc d R w' H n=>?_;rw[r2]at n;cases n;let⟨t',D⟩:=K<|c d q;have:=G (λ_ _=>t') d _ _ _ (r1 (λ_ _=>t') d) [] a _ _ rfl D F0;exact Safe.re v.B8 this c<|d+1);(.let⟨l1,w1,H,n⟩:=h w.tape w.drawn;rw[e1]at n;cases n);.exact .stop<|B w<|.step hd h hs
end
end
section
open Go.Conc(G)
variable{ok:jO}{ρ ρ':jG}{P:bD}
def CL(b:ak)(k:L az)(e:dP)(a:Act)(f:ak):U:=match e with|bC=>f=b.at a k|eZ id=>∃d,aY id k=u d/\f=b.at a d|dQ=>∃c,f={b.at a c with mode:=.returning}|_=>False
def IB(a:L V):dP->U|bC|dQ=>True|eZ id=>id∈a|_=>False
def DL:az:=aq<|fF ""
def mJ:L V->L az|[]=>[DL]|id::a=>DL::dG id::mJ a
def UQ(id:V)(a k:L az):aY id (a++k)=match aY id a with|u r=>u (r++k)|N=>aY id k:=by induction a with|nil=>rfl|cons it a b=>cases it with|inBlock i=>simp[iE,aY];grind|_=>exact b
def Jv{id:V}:∀{a:L V}{r:L az},aY id (mJ a)=u r->id∈a/\∃pre b,mJ a=pre++dG id::r/\r=mJ b:=by intro a;induction a with|nil=>intro r h;cases h|cons i a f=>intro r h;simp only[mJ,DL,aY]at h;split at h;(.rename_i e;simp[DB]at e;cases h;subst e;exact⟨F0,[DL],a,rfl,rfl⟩);.let⟨g,pre,b,d,c⟩:=f h;exact⟨by simp[g],DL::dG i::pre,b,by simp[mJ,d],c⟩
def afi{id:V}{a:L V}(h:id∈a):∃r,aY id (mJ a)=u r:=by induction a with|nil=>cases h|cons i a b=>simp[mJ,DL,aY];by_cases e:i=id;(.simp_all);grind
def TI(a:L V):∃r,mJ a=DL::r:=by cases a<;>exact⟨_,rfl⟩
def BQ{b:ak}{a c:Act}{k e:L az}(h:b.at a k=b.at c e):a=c/\k=e:=by let⟨t,d⟩:=a;let⟨f,g⟩:=c;simp[Frame.at,Frame.mk.injEq]at h;grind
def Ib{b:ak}{a c:Act}{k d:L az}:b.at a k≠{b.at c d with mode:=.returning}:=by intro h;have:=C7 Frame.mode h;cases this
section
variable{b:ak}{k:L az}{ids:L V}{Q:dP->Act->W->U}
def xN(b:ak)(k:L az)(Q:dP->Act->W->U):L ak->W->U:=λl w=>∃e a f,l=[f]/\Q e a w/\CL b k e a f
def SA(b:ak)(a:Act)(r:L az):jV P [b.at a<|DL::r]=stuck "":=rfl
def M4{a:Act}{w:W}(h:Safe ok P (xN b (mJ ids) Q) [b.at a<|mJ ids] w):Q bC a w:=by let⟨r,j⟩:=TI ids;cases h with|stop h=>let⟨e,t,f,n,o,d⟩:=h;cases n;(cases e with|normal=>obtain⟨rfl,_⟩:=BQ d;exact o|exit id=>let⟨v,p,l⟩:=d;let⟨_,e2⟩:=BQ l;let⟨_,pre,q,m,_⟩:=Jv p;have:=C7 gI m;grind|ret=>let⟨i,g⟩:=d;exact zW g Ib|_=>exact d.elim)|step _ h _=>let⟨y,s,x,c⟩:=h w.tape w.drawn;rw[j,SA]at c;cases c
def akj{id:V}{a:Act}{w:W}{r:L az}(x:aY id (mJ ids)=u r)(h:Safe ok P (xN b (mJ ids) Q) [b.at a r] w):Q (eZ id) a w:=by obtain⟨_,pre,y,n,rfl⟩:=Jv x;have i:=C7 gI n;simp at i;cases h with|stop h=>let⟨e,D,f,s,J,j⟩:=h;cases s;(cases e with|normal=>let⟨_,e2⟩:=BQ j;grind|exit v=>let⟨G,B,p⟩:=j;obtain⟨rfl,rfl⟩:=BQ p;let⟨_,c,t,o,_⟩:=Jv B;rw[n]at o;(have l:pre=c.length:=pC);have:=(List.append_inj o l).2;grind|ret=>let⟨m,g⟩:=j;exact zW g Ib|_=>exact j.elim)|step _ h _=>let⟨C,H,K,d⟩:=h w.tape w.drawn;let⟨r,q⟩:=TI y;rw[q,SA]at d;cases d
def ZB{a:Act}{n:L az}{l:L az}{w:W}(h:Safe ok P (xN b l Q) [{b.at a n with mode:=.returning}] w):Q dQ a w:=by cases h with|stop h=>let⟨e,o,f,m,y,c⟩:=h;cases m;(cases e with|normal=>exact zW c.symm Ib|exit id=>let⟨s,_,p⟩:=c;exact zW p.symm Ib|ret=>let⟨j,g⟩:=c;have e1:=C7 Frame.tmps g;have e2:=C7 Frame.defers g;let⟨t,d⟩:=a;let⟨q,v⟩:=o;simp[Frame.at]at e1 e2;grind|_=>exact c.elim)|step _ h _=>let⟨r,x,B,i⟩:=h w.tape w.drawn;unfold jV at i;simp_all
def SF(hk:∀id∈ids,∃q,aY id k=u q)(hQ:∀e a w M d,Q e a w->Q e a (w.re M d)):F3 ok P b (λG o=>∃j,j≠[]/\G=j++mJ ids/\o=j++k) (xN b (mJ ids) Q)<|xN b k Q:=by
 have m:∀(j:L az)(a:Act),(∃B p,b.at a (j++mJ ids)=b.at a B/\b.at a (j++k)=b.at a p/\∃j,j≠[]/\B=j++mJ ids/\p=j++k)\/∀w,Safe ok P (xN b (mJ ids) Q) [b.at a<|j++mJ ids] w->xN b k Q [b.at a<|j++k] w:=by intro j a;cases j with|nil=>exact aJ λw h=>⟨bC,a,_,rfl,M4 h,rfl⟩|cons it j=>exact aA ⟨_,_,rfl,rfl,it::j,F0,rfl,rfl⟩
 have n:∀(it:az)(j:L az)(a:Act),wH ok P [b.at a<|(it::j)++mJ ids]->wH ok P [b.at a<|(it::j)++k]:=by intro it j a h hm aa q e;cases e;exact h rfl it _ rfl
 refine⟨?_,?_,?_,?_⟩;.rintro ops i rest r o⟨j,D,e,rfl⟩;cases j with|nil=>grind|cons it j=>grind
 .rintro G o⟨j,D,rfl,rfl⟩ho a;cases j with|nil=>exact zW rfl D|cons it j=>cases it with|code c=>(cases c with|skip=>exact aA ⟨_,_,n _ _ _,rfl,rfl,m j a⟩|ret=>exact aA ⟨_,_,n _ _ _,rfl,rfl,aJ λw h=>⟨dQ,a,_,rfl,ZB h,_,rfl⟩⟩|seq x y=>exact aA ⟨_,_,n _ _ _,rfl,rfl,m (aq x::aq y::j) a⟩|block id x=>exact aA ⟨_,_,n _ _ _,rfl,rfl,m (aq x::dG id::j) a⟩|loop x=>exact aA ⟨_,_,n _ _ _,rfl,rfl,m (aq x::eG x::j) a⟩|cond c x y=>(have e1:∀kk,jV P [b.at a<|(aq (dJ c x y)::j)++kk]=match a.eval c with|aZ t=>pure [b.at a<|(aq (if t then x else y)::j)++kk]|_=>stuck "":=by intro kk;rw[<-iF b a ((aq (dJ c x y)::j)++kk) c];rfl);rw[e1,e1];(cases a.eval c with|bool t=>exact aA ⟨_,_,n _ _ _,rfl,rfl,m (aq (if t then x else y)::j) a⟩|_=>exact aJ<|aJ<|aA ⟨_,rfl⟩)|exit id=>have e1:∀kk,jV P [b.at a<|(aq (eH id)::j)++kk]=match aY id (j++kk)with|u q=>pure [b.at a q]|N=>stuck "":=λkk=>rfl;rw[e1,e1,UQ,UQ];(cases aY id j with|some r=>exact aA ⟨_,_,n _ _ _,rfl,rfl,m r a⟩|none=>simp only[];cases J:aY id (mJ ids)with|none=>exact aJ<|aJ<|aA ⟨_,rfl⟩|some r=>let⟨nX,_⟩:=Jv J;let⟨q,C⟩:=hk id nX;rw[C];exact aA ⟨_,_,n _ _ _,rfl,rfl,aJ λw h=>⟨eZ id,a,_,rfl,akj J h,q,C,rfl⟩⟩)|region id ops v=>(cases v with|false=>exact aA ⟨_,_,n _ _ _,rfl,rfl,m (ax ops (dB ops)::j) a⟩|true=>refine aJ<|aA ⟨.order b.fn id,λt=>(ax ops (dO (P.follows ee) ops t)::j)++mJ ids,λt=>(ax ops (dO (P.follows ee) ops t)::j)++k,n _ _ _,rfl,rfl,rfl,λ_=>rfl,λt=>⟨t,?_⟩⟩;grind)|_=>exact aJ<|aJ<|aA ⟨_,rfl⟩)|inBlock id=>exact aA ⟨_,_,n _ _ _,rfl,rfl,m j a⟩|inLoop x=>exact aA ⟨_,_,n _ _ _,rfl,rfl,m (aq x::eG x::j) a⟩|inRegion ops l=>(cases l with|nil=>exact aA ⟨_,_,n _ _ _,rfl,rfl,m j a⟩|cons i rest=>exact zW ⟨_,_,_,_,rfl⟩ ho)|_=>exact aJ<|aJ<|aA ⟨_,rfl⟩
 .rintro l w⟨e,S,f,rfl,_,s⟩;refine⟨f,rfl,?_⟩;rintro a G o⟨j,D,rfl,rfl⟩rfl;have R:=iz.2 D;cases e with|normal=>let⟨_,e2⟩:=BQ s;simp_all|exit id=>let⟨q,X,g2⟩:=s;let⟨_,e2⟩:=BQ g2;let⟨_,pre,js,g3,_⟩:=Jv X;have K:=C7 gI e2;grind|ret=>let⟨H,g⟩:=s;exact zW g Ib|_=>exact s.elim
 .rintro l w M d⟨e,S,f,K,T,s⟩;exact⟨e,S,f,K,hQ _ _ _ _ _ T,s⟩
end
section
variable{b:ak}{k:L az}{Q:Act->W->U}{ops:Z aK}{n:V}{tail:L V}{id:V}
inductive QD(ops:Z aK)(n:V)(tail:L V)(id:V)(k:L az):L az->L az->U|start:QD ops n tail id k (aq (bP id (ops.extract 0 n) true)::mJ [])<|aq (bP id ops true)::k|inside(s:L V)(hs:∀i∈s,i<n):QD ops n tail id k (ax (ops.extract 0 n) s::mJ [])<|ax ops (s++tail)::k
def S6(C:Eb (P.follows ee) ops n tail)(S:n<=ops)(R:∀(i:V)o j c,i<n->ops[i]?=u o->o.guard=u (j,c)->j<n)(hQ:∀a w G d,Q a w->Q a (w.re G d)):F3 ok P b (QD ops n tail id k) (xN b (mJ []) λe a w=>e=bC/\Q a w) λl w=>∃x,l=[b.at x<|ax ops tail::k]/\Q x w:=by
 have g:∀i,i<n->(ops.extract 0 n)[i]?=ops[i]?:=pC
 refine⟨?_,?_,?_,?_⟩;.rintro q i rest r m h;generalize e:ax q (i::rest)::r=B at h;cases h with|start=>cases e|inside s hs=>simp[List.cons.injEq,Item.inRegion.injEq]at e;obtain⟨⟨rfl,rfl⟩,rfl⟩:=e;have hi:=hs i F0;refine⟨ops,rest++tail,k,rfl,(g i hi).symm,λo T v=>?_,.inside rest λj J=>hs j (by simp[J])⟩;rw[g i hi]at v;unfold cT;cases M:o.guard with|none=>rfl|some p=>let⟨j,c⟩:=p;simp[eF];rw[g j<|R i o j c hi v M]
 .intro B m h v a;cases h with|start=>refine aJ<|aA ⟨.order b.fn id,λt=>ax (ops.extract 0 n) (dO (P.follows ee) (ops.extract 0 n) t)::mJ [],λt=>ax ops (dO (P.follows ee) ops t)::k,(λ_ _ it k e=>by cases e;trivial),rfl,rfl,rfl,λ_=>rfl,λt=>?_⟩;let⟨D,e,H⟩:=Vt C t;refine⟨D,?_⟩;dsimp only;rw[e];exact .inside _ H|inside s hs=>cases s with|cons i rest=>exact zW ⟨_,_,_,_,rfl⟩ v|nil=>refine aJ<|aJ<|aJ λw h=>⟨a,rfl,?_⟩;cases h with|stop h=>obtain⟨e,x,f,K,⟨rfl,X⟩,y⟩:=h;cases K;let⟨_,e2⟩:=BQ y;cases e2|step _ _ hs=>have:=hs w.tape w.drawn [b.at a<|mJ []] (w.re w.tape w.drawn) #[] rfl;rw[Oq]at this;exact(M4 this).2
 .rintro l w⟨e,x,f,rfl,⟨rfl,_⟩,y⟩;refine⟨f,rfl,?_⟩;rintro a B m h rfl;let⟨_,e2⟩:=BQ y;cases h<;>cases e2
 grind
end
end
section
open Go.Conc Go.ConcN
open Go.ConcR(KK wgBlock WgAt stA smA rd wr mk Payload DC0 Bk g_of_ofEvents bk_of_mute ofEvent_loc_mark ofEvent_cell ofEvent_mk deafBehind_cons deafBehind_one)
variable[Payload]
section
variable{ok:jO}{P:bD}{J:pP}{j:V}{ρ0 ρ0':jG}{wh0 wh0':W}{d0:V}{tag tag':CTag}{a a' a0:bK}{Stop Anc:bK->W->U}
def WS.abp{i:V}{b:Gh}{s m d:V}{g:bK}{w:W}(h:WS P J i b v s m d g w)(hs:s≠1):g.status=.running:=by cases h with|pre hs h=>exact dV (λg w⟨f,X,e,_⟩=>by rw[e];rfl) w (bV w) h|gh hs h c=>rfl|tail h=>exact dV (λg w x=>x.1.1) w (RT.nH w) h|Co _ h=>cases h with|r0 h=>omega|k1 h=>exact dV (λ_ _ x=>x.1) w (bV w) h|d1 h=>exact dV (λ_ _ x=>x.1) w (bV w) h|d2 h=>exact dV (λ_ _ x=>x.1) w (bV w) h|d3 h=>exact dV (λ_ _ x=>x.1) w (bV w) h|d4 h=>exact dV (λ_ _ x=>x.1) w (bV w) h|quit h=>omega
omit[Payload]in theorem VM{f:V->V}:∀{j:V},1<=sumTo j f->∃i,i<j/\1<=f i|0,h=>by simp[sumTo]at h|j+1,h=>by obtain b|b:=fZ<|f j;(.let⟨i,hi,c⟩:=VM (f:=f) (j:=j) (by simp[sumTo]at h;omega);grind);grind
def agf{D:V->WD}{st sm:Y}(h:ft j D bN st sm):∃i,i<j/\(D i).stage≠1:=by cases h with|opn b _ _=>exact b.elim|reg _ _ c=>let⟨i,hi,d⟩:=VM c;refine⟨i,hi,λe=>?_⟩;simp[iq,e]at d|last g _ f c _=>grind|fin b _=>exact b.elim
def akv{D:V->WD}{st sm:Y}(h:ft j D dt st sm):(sm=0/\ft j D bN st sm)\/(st=0/\sm=1/\eO j D):=by cases h with|opn b _ _=>exact b.elim|reg _ d c=>exact aA ⟨rfl,.reg n7 d c⟩|last f _ d c e=>exact aA ⟨rfl,.last f n7 d c e⟩|sema h=>grind|fin b _=>exact b.elim
def acM{s s1 s2:Sn}(h:Er P J j s2 s1)(c:s1.D=s.D)(b:s1.U=s.U)(d:s1.E=s.E)(e:s1.q=s.q):Er P J j s2 s:=by
 have e1:kk j s1=kk j s:=by simp[kk,c,b]
 have e2:vv s1=vv s:=by funext i;simp[vv,b,d]
 have e3:ff J j s1=ff J j s:=by simp[ff,c,e]
 unfold Er at*;simp_all
def acu(C:we P J j)(hS:∀w,cN J.ty J.Wg w->Sa P J.ty J.Wg Stop a0 w):∀s,(∃a tag,mC ok P J j ρ0 wh0 d0 tag s/\s.gs[0]?=u a/\((a=a0/\tag=dt)\/(a={a0 with status:=.blocked}/\tag=bN)))->∀sl,∃c b d f,mY P s sl c b/\mC ok P J j ρ0 wh0 d0 dt c/\c.gs[0]?=u a0/\c.st=0/\c.sm=1/\eO j c.D/\DY P c b d f:=by
 apply Um (λs=>∃a tag,mC ok P J j ρ0 wh0 d0 tag s/\s.gs[0]?=u a/\((a=a0/\tag=dt)\/(a={a0 with status:=.blocked}/\tag=bN))) (λs⟨a,tag,h,_⟩=>h.acc) (λs=>∀sl,∃c b d f,mY P s sl c b/\mC ok P J j ρ0 wh0 d0 dt c/\c.gs[0]?=u a0/\c.st=0/\c.sm=1/\eO j c.D/\DY P c b d f);intro s⟨a,tag,h,t,hc⟩ih sl;let⟨r,K,_,_⟩:=hS s.w h.qq;have v:∀{s1:Sn}{o:n6<|V×V},mY P s sl s1 o->mC ok P J j ρ0 wh0 d0 bN s1->s1.gs[0]?=u {a0 with status:=.blocked}->s1.D=s.D->s1.U=s.U->s1.E=s.E->s1.q=s.q->∃c b d f,mY P s sl c b/\mC ok P J j ρ0 wh0 d0 dt c/\c.gs[0]?=u a0/\c.st=0/\c.sm=1/\eO j c.D/\DY P c b d f:=by intro s1 o r1 c1 b1 e1 e2 e3 e4;have l:An {a0 with status:=.blocked} bN:=aJ ⟨a0,rfl,r,K,rfl⟩;let⟨k,hk,H⟩:=agf c1.rv;let⟨x,hx,Q⟩:=c1.cy.wk k hk;let⟨i,g,d,b,hi,M,m⟩:=crowd_pick (P:=P) (w:=s1.w) (sl:=o) (c1.Oz C.ue b1 l) ⟨_,x,hx,Q.abp H⟩;(have n:i≠0:=pC);let⟨s2,ops,a2,y,q1,q2,q3,q4,q5,q6,q7,q8⟩:=mn C s1 c1 b1 l (d:=d) n hi M b;(have hI:∃a tag,mC ok P J j ρ0 wh0 d0 tag s2/\s2.gs[0]?=u a/\((a=a0/\tag=dt)\/(a={a0 with status:=.blocked}/\tag=bN)):=by refine⟨a2,y,q3,q4,?_⟩;obtain⟨rfl,rfl⟩|⟨_,rfl,e,ac,_⟩:=q5;(.simp);.refine aA ⟨?_,rfl⟩;cases a2;cases a0;grind);let⟨s3,p,d3,G,p1,p2⟩:=ih s2 hI (acM q7 e1 e2 e3 e4) b;exact⟨s3,p,d3,G,(r1.jA<|mY.mq m q1 q2).jA p1,p2⟩
 obtain⟨rfl,rfl⟩|⟨rfl,rfl⟩:=hc;.have l:An a dt:=aA ⟨r,F0⟩;obtain⟨i,g,d,b,hi,M,m⟩:=crowd_pick (h.Oz C.ue t l) ⟨0,a,t,r⟩;by_cases n:i=0;(.subst n;obtain⟨ad,X⟩|⟨z1,z2,z3⟩:=akv h.rv;(.obtain⟨_,_,B,_⟩:=hS (s.w.at d) h.qq;have T:=h.wg;rw[ad]at T X;obtain⟨s1,r1,c1,b1,k1,k2,k3,_,_,_,k4,k5⟩:=AN C.ue h t m (B ⟨_,T⟩) (wW.wG (h.cy.at d).ly (λ_ _=>rfl) rfl) T X (by intro fn pos op S;obtain⟨e,he,rfl⟩:=ir S;simp at he) F0 F0;exact v r1 c1 b1 k1 k4 k2 k5);.exact⟨s,sl,d,b,mY.nH _ _,h,t,z1,z2,z3,m⟩);.obtain⟨s1,ops,a1,aa,r1,r2,r3,r4,r5,r6,r7,r8⟩:=mn C s h t l n hi M b;obtain⟨rfl,rfl⟩|⟨e,_⟩:=r5;(.obtain⟨s2,R,d2,p,k1,k2⟩:=ih s1 ⟨a1,_,r3,r4,aA ⟨rfl,rfl⟩⟩ r7 b;exact⟨s2,R,d2,p,(mY.mq m r1 r2).jA k1,k2⟩);.cases e
 .exact v (mY.nH _ _) h t rfl rfl rfl rfl
def Uc{D:V->WD}{st sm:Y}(h:ft j D dN st sm):st=0/\sm=0/\eO j D:=by cases h with|opn b _ _=>exact b.elim|reg b _ _=>exact b.elim|last c b _ _ _=>exact b.elim|fin _ h=>grind
def Y6(b:we P J j)(hR:∀g w,Anc g w->oY P J.ty J.Wg (JY P J.ty J.Wg Anc Stop) g w):∀(v:V){s:Sn}{a:bK}(_:Vc j s.D<=v)(_:mC ok P J j ρ0 wh0 1 qY s)(_:s.gs[0]?=u a)(_:oY P J.ty J.Wg Anc a s.w)(sl:n6<|V×V),∃s' bd a',mY P s sl s' bd/\mC ok P J j ρ0 wh0 1 dN s'/\s'.gs[0]?=u a'/\∀w,cN J.ty J.Wg w->NY P J.ty J.Wg Stop a' w:=by
 have m:qY≠bN:=F0
 have y:dt≠bN:=F0
 have o:dN≠bN:=F0
 have ce:=b.Jt;intro v;induction v using gd with|_ v ih=>intro s a hv h ha hW sl;obtain⟨s1,br,a1,r1,c1,b1,p1,v1⟩:=wu b m hW h ha sl;obtain⟨s2,a3,a2,r2,c2,b2,p2,v2⟩:=wu b m (hR _ _<|p1 s1.w c1.qq) c1 b1 br;obtain⟨s3,co,d3,p,r3,c3,b3,v3,t3⟩:=lh b (p2 s2.w c2.qq).1 m s2 ⟨c2,b2⟩ a3;obtain⟨o3,e3,z3⟩:=Pr c3.rv;have S:=c3.wg;rw[e3,z3]at S;have hV:=Vc_le j s3.D;obtain⟨_,aa⟩:=p2 (s3.w.at d3) c3.qq;obtain⟨g',av,hz,bt⟩:=aa (Vc j s3.D) A S;have aI:∀fn pos,∀op∈MemOp.ofEvents 0 fn pos #[rd<|stA J.Wg],EN (ShN J.Wg) J.tG (lJ J j) (Dj J j s3.E) (DX J j s3.E) op:=λ_ _=>GN<|AO _;obtain h0|h0:=fZ<|Vc j s3.D;(.obtain⟨s4,r4,c4,b4,_,_,k6,_⟩:=AN (tag':=dN) b.ue c3 b3 t3 av (wW.wG (c3.cy.at d3).ly (λ_ _=>rfl) rfl) ((by grind:WgAt J.ty J.Wg s3.w 0 0)) (.fin n7<|aeh o3 h0) aI (ey<|AO _)<|D4 c3.cy.ly.lt.1<|AO _;obtain⟨s5,M,a5,r5,c5,b5,p5,_⟩:=wu b o (by rw[k6];exact hz h0) c4 b4 p;exact⟨s5,M,a5,((r1.jA r2).jA r3).jA<|r4.jA r5,c5,b5,p5⟩);.obtain⟨s4,r4,c4,b4,k4,_,k6,_⟩:=AN b.ue c3 b3 t3 av (wW.wG (c3.cy.at d3).ly (λ_ _=>rfl) rfl) c3.wg c3.rv aI (ey<|AO _)<|D4 c3.cy.ly.lt.1<|AO _;obtain⟨s5,M,a5,r5,c5,b5,p5,v5⟩:=wu b m (by rw[k6];exact bt A) c4 b4 p;obtain⟨Q,ck,d6,q,r6,c6,b6,v6,t6⟩:=lh b (p5 s5.w c5.qq).1 m s5 ⟨c5,b5⟩ M;rw[k4]at v5;obtain⟨o6,e6,z6⟩:=Pr c6.rv;have x:=c6.wg;rw[e6,z6]at x;have cm:=Vc_le j Q.D;obtain⟨_,X⟩:=p5 (Q.w.at d6) c6.qq;obtain⟨aR,r⟩:=X (Vc j Q.D) A x;have l:=((r1.jA r2).jA r3).jA<|(r4.jA r5).jA r6;by_cases hx:Vc j Q.D=Vc j s3.D;(.obtain⟨g7,n,aV⟩:=aR hx;have al:=gj (Q.w.at d6) (stA J.Wg)<|ar dz<|((Vc j Q.D))*KK+1;obtain⟨s7,r7,c7,b7,_,_,k7,_⟩:=AN (tag':=dt) b.ue c6 b6 t6 n (wW.wG (c6.cy.at d6).ly al.block al.size ⟨al.os,al.output⟩) (x.setSt _) (.reg n7 o6 A) (λ_ _=>GN<|GU _) (ey<|GU _)<|D4 (by have:=c6.cy.ly.lt.1;rwa[al.size])<|GU _;obtain⟨s8,H,a8,r8,c8,b8,p8,_⟩:=wu b y (by rwa[k7]) c7 b7 q;obtain⟨s9,bp,a9,r9,c9,b9,p9,_⟩:=IM b .write y p8 c8 b8 H;obtain⟨bg,ad,a7,oE,bc,bX,aB,_⟩:=wu b y p9 c9 b9 bp;obtain⟨am,cb,C,B,bo,i,bf,y1,y2,y3,aS⟩:=acu b aB bg ⟨a7,dt,bc,bX,aA ⟨rfl,rfl⟩⟩ ad;obtain⟨_,_,_,bw⟩:=aB (am.w.at C) i.qq;have f:=i.wg;rw[y1,y2]at f;obtain⟨cn,K,cc⟩:=bw f;have k:=gj (am.w.at C) (smA J.Wg)<|ar .u32 0;obtain⟨aW,bR,cs,a6,_,_,bm,_⟩:=AN (tag':=dN) b.ue i bf aS K (wW.wG (i.cy.at C).ly k.block k.size ⟨k.os,k.output⟩) (f.setSm 0) (.fin n7 y3) (λ_ _=>GN<|MM _) (ey<|MM _)<|D4 (by have:=i.cy.ly.lt.1;rwa[k.size])<|MM _;(have aC:mC ok P J j ρ0 wh0 1 dN aW:=by(have e:eP (eP (eP (eP 1 #[rd<|stA J.Wg]) #[rd<|stA J.Wg,wr<|stA J.Wg]) #[mk<|.write<|smA J.Wg]) (semEvents<|smA J.Wg)=1:=by simp[eP,semEvents,rd,wr,mk]);grind);obtain⟨ac,an,ci,be,aG,bv,aw,_⟩:=wu b o (by rwa[bm]) aC a6 B;obtain⟨bi,cg,aL,G,wV,c,a4,_,bB⟩:=lh b (aw ac.w aG.qq).1 o ac ⟨aG,bv⟩ an;obtain⟨f1,f2,f3⟩:=Uc c.rv;have d:=c.wg;rw[f1,f2]at d;obtain⟨_,R⟩:=aw (bi.w.at aL) c.qq;obtain⟨cl,t,ca⟩:=R d;obtain⟨s15,tz,bz,bM,_,_,bT,_⟩:=AN (tag':=dN) b.ue c a4 bB t (wW.wG (c.cy.at aL).ly (λ_ _=>rfl) rfl) d (.fin n7 f3) (λ_ _=>GN<|AO _) (ey<|AO _)<|D4 c.cy.ly.lt.1<|AO _;obtain⟨bq,T,bF,bx,bb,bA,ba,_⟩:=wu b o (by rwa[bT]) bz bM G;exact⟨bq,T,bF,l.jA<|(r7.jA<|r8.jA<|r9.jA oE).jA<|(bo.jA bR).jA<|(be.jA wV).jA<|tz.jA bx,bb,bA,ba⟩);.obtain⟨g7,n,aV⟩:=r hx;obtain⟨s7,r7,c7,b7,k7,_,k8,_⟩:=AN b.ue c6 b6 t6 n (wW.wG (c6.cy.at d6).ly (λ_ _=>rfl) rfl) c6.wg c6.rv (λ_ _=>GN<|AO _) (ey<|AO _)<|D4 c6.cy.ly.lt.1<|AO _;obtain⟨s8,H,a8,r8,c8⟩:=ih (v-1) A (by rw[k7];omega) c7 b7 pC q;exact⟨s8,H,a8,(l.jA r7).jA r8,c8⟩
def ais(e:we P J j)(hR:∀g w,Anc g w->oY P J.ty J.Wg (JY P J.ty J.Wg Anc Stop) g w){s:Sn}(h:mC ok P J j ρ0 wh0 0 qY s)(ha:s.gs[0]?=u a)(hW:oY P J.ty J.Wg (uR P dA<|oY P J.ty J.Wg Anc) a s.w)(sl:n6<|V×V):∃(c:Sn)(S:n6 (V×V))(a':bK)(q':V->V),mY P s sl c S/\Leavers P c.t c.gs q'/\Past (λl=>J.tG l\/ShN J.Wg l) c.w c.t/\c.gs[0]?=u a'/\oY P J.ty J.Wg Stop a' c.w/\Mem ok J j c.E ρ0 wh0 c.w/\(∀i,i<j->Out J i (c.E i) c.w)/\cN J.ty J.Wg c.w:=by
 have C:qY≠bN:=F0
 have p:dN≠bN:=F0
 let⟨s1,M,a1,r1,c1,b1,p1,_⟩:=wu e C hW h ha sl;let⟨s2,K,a2,r2,c2,b2,p2,_⟩:=IM e .disable C p1 c1 b1 M;let⟨s3,H,a3,r3,c3,b3,p3⟩:=Y6 e hR _ (ez _) c2 b2 p2 K;let⟨s4,Q,a4,r4,c4,b4,p4,_⟩:=IM e .enable p p3 c3 b3 H;let⟨s5,R,y,r5,c5,b5,p5,_⟩:=wu e p p4 c4 b4 Q;let⟨s6,ac,d6,G,r6,c6,b6,_,t6⟩:=lh e (p5 s5.w c5.qq).1 p s5 ⟨c5,b5⟩ R;let⟨f,a7,r7,c7,b7,p7,X,eD,eE,eU,eq⟩:=JE e .acquire (p5 (s6.w.at d6) c6.qq) c6 b6 t6;let⟨_,_,hq⟩:=Uc c7.rv;have b:=hq;have ad:=c6.cy.Ez;have aa:=e.ue.sf;have v:f.t[s6.t.size]?=u {g:=0,fn:=y.frame.fn,pos:=y.frame.place,act:=.mark<|gw<|stA J.Wg}:=by rw[X,(by rw[iu];simp[ofEvent_mk]:MemOp.ofEvents 0 y.frame.fn y.frame.place #[mk<|.acquire<|stA J.Wg]=#[{g:=0,fn:=y.frame.fn,pos:=y.frame.place,act:=.mark<|.acquire<|stA J.Wg}])];simp
 have GM:Past (λl=>J.tG l\/ShN J.Wg l) f.w.heap.size f.t:=by refine adv c7.cy.kn (λg n=>ajl e.ue n) (λg n=>?_) c7.cy.Jf (by rw[act?_of v]) (by simp[Trace.g?,v]) ⟨0,by simp[Trace.g?,v],?_⟩ c7.cy.tl.nr c7.cy.Ez c7.cy.kZ;(.obtain⟨i,rfl⟩:∃i,g=J.n0+i:=⟨g-J.n0,by have:=n.1;omega⟩;(have hi:i<j:=by have:=n.2;omega);let⟨r,hr⟩:=c6.cy.kV i hi (by rw[<-eD];have:=b i hi;omega);refine⟨r,?_,lt_of_act? hr.act⟩;rw[X];exact hr.L8 g_of_ofEvents A);.rwa[X,deaf_old<|ez _]
 refine⟨f,G,a7,λk=>if k<J.n0 then f.q k else(f.D<|k-J.n0).fuel,((r1.jA r2).jA<|r3.jA r4).jA<|(r5.jA r6).jA r7,⟨λk g hk n=>?_,λk hk=>c7.cy.Fg k<|by rwa[<-c7.cy.jB]⟩,GM,b7,p7,c7.cy.ly,λi hi=>c7.cy.kD i hi<|by have:=b i hi;omega,c7.qq⟩;by_cases o:k<J.n0;.simp[o,DE];exact c7.cy.Ep k g hk o n
 .simp[o,DP];have T:=(dW.1 n).1;rw[c7.cy.jB]at T;let⟨x,hx,d⟩:=c7.cy.wk (k-J.n0) A;rw[show J.n0+(k-J.n0)=k by omega,n]at hx;obtain rfl:=aoJ hx;have B:=c7.cy.En (k-J.n0) A;rw[show J.n0+(k-J.n0)=k by omega]at B;rw[b _ A]at d;rw[B];generalize(f.D<|k-J.n0).fuel=m at d;generalize(f.D<|k-J.n0).deaf=dd at d;generalize f.U (k-J.n0)=al at d;cases d with|Co _ h=>cases h with|quit h=>exact h
end
end
section
open Go.Conc Go.ConcN
open Go.ConcR(KK wgBlock WgAt stA smA rd wr mk Payload DC0 Bk g_of_ofEvents bk_of_mute ofEvent_loc_mark ofEvent_cell ofEvent_mk deafBehind_cons deafBehind_one)
variable[Payload]
section
variable{ok:jO}{P:bD}{J:pP}{j:V}{ρ0 ρ0':jG}{wh0 wh0':W}{d0:V}{tag tag':CTag}{a a' a0:bK}{S:L ak->W->U}
def amz(av:we P J j)(aw:Fits ok P)(B:qa ok P)(an:tag≠bN)(ba:L ak){l:L ak}(hd:wH ok P l)(h:∀R d,∃D w' v,(jV P l).runT P (wh0.re R d) #[]=(.ok D w',v)){s:Sn}(Q:mC ok P J j ρ0 wh0 d0 tag s){f:ak}{X:L ak}(ha:s.gs[0]?=u (G f<|X++ba))(hL:Fs ok P ρ0 l<|f::X)(sl:n6<|V×V):∃s' am ρ0' D wh0' R d v f' X',mY P s sl s' am/\(jV P l).runT P (wh0.re R d) #[]=(.ok D wh0',v)/\mC ok P J j ρ0' wh0' d0 tag s'/\s'.gs[0]?=u (G f'<|X'++ba)/\Fs ok P ρ0' D (f'::X')/\ρ0.le ρ0':=by
 let⟨s1,aC,d,aa,r1,c1,b1,v1,t1⟩:=lh av rfl an s ⟨Q,ha⟩ sl;let⟨l1,w1,v,hr⟩:=h s1.w.tape d;have q:=c1.cy.ly;obtain⟨C,b,T,aB,H,g2,p⟩:=FE _ (FK aw B q.oq.inj q.Bb (hL.MZ<|by rintro rfl;cases hL) hd) (⟨q.oq.inj,q.oq.gs,q.oq.rn,q.oq.nU,q.oq.kD⟩:lF ok ρ0 (wh0.re s1.w.tape d)<|s1.w.at d) hr λi hi=>rfl;have M:=TS hL.xM H;simp only[Array.empty_append]at H;have r:qD ok P ρ0 (l.headD jv) f:=by cases hL with|cons h hp hs=>exact h
 obtain⟨gf,ac,rfl,K⟩:=Lw F ba r.yp r.zP (λ_=>hL.xM f F0) H;have X0:=av.ue;let⟨lW,lC,lR,lN,_,_⟩:=q.lt;have hD:wW ok J ρ0 C wh0 w1 (s1.w.at d) T:=⟨p.kV,p.le,λb y m=>(p.qw m).imp id λx=>x.2,λb m=>m.jY (p.vp b m).1,p.BK,λy m Q _=>Q2 p m Q⟩;have k:=(q.at d).LI X0 hD;let⟨s2,k1,k2,k3,k4,_,k6,_⟩:=AN X0 c1 b1 t1 K hD (have:=Q2 p lW λb m=>zW rfl (q.vV b _ m).1;c1.wg.of_block this) c1.rv (λfn pos op al=>by obtain⟨e,t,rfl⟩:=ir al;refine XA (λb y m lo n=>?_) (λg hg b y lo m n=>?_) (p.ev e<|by simpa using fu t) _ _;(.let⟨a1,_,_,a4⟩:=k.vV b y m;refine⟨?_,a4 lo n⟩;rintro⟨ad,rfl,hx⟩;exact a1<|(n).symm.trans hx);.refine⟨?_,λuW=>?_⟩;(.rintro⟨i,hi,rfl,⟨c,c',p1,p2,p3⟩|⟨o,rfl,_,_⟩⟩;(.obtain rfl:=Mm p3 n;exact(k.AX i hi c _ p1 p2).2 b m);.exact(k.vV b y m).2.1<|(n).symm);.rintro⟨i,hi,rfl,c,c',p1,p2,p3⟩;obtain rfl:=Mm p3 n;exact uW<|k.xZ i hi b c _ m p1) (λe t=>(Kc<|p.ev e<|by simpa using fu t).1 _) λe t=>S5 p.kV<|p.ev e (by simpa using fu t);rw[deafBehind_still (λe t=>(Kc<|p.ev e<|by simpa using fu t).2) _]at k2;exact⟨s2,aa,C,l1,w1,s1.w.tape,d,v,gf,ac,r1.jA k1,hr,k2,k3,g2.fs M,p.le⟩
def aaV(D:we P J j)(v:Fits ok P)(B:qa ok P)(b:tag≠bN)(k:L ak){l:L ak}(hs:Safe ok P S l wh0):∀{ρ0:jG}{s:Sn}{f:ak}{X:L ak}(sl:n6<|V×V),mC ok P J j ρ0 wh0 d0 tag s->s.gs[0]?=u (G f<|X++k)->Fs ok P ρ0 l (f::X)->∃c n ρ0' q wh0' t r,mY P s sl c n/\mC ok P J j ρ0' wh0' d0 tag c/\c.gs[0]?=u (G t<|r++k)/\Fs ok P ρ0' q (t::r)/\ρ0.le ρ0'/\S q wh0':=by induction hs with|stop h=>intro ρ0 s f X sl g i hL;exact⟨s,sl,ρ0,_,_,f,X,mY.nH _ _,g,i,hL,jG.le.nH _,h⟩|@step l wh hd h hs x=>intro ρ0 s f X sl g i hL;let⟨s1,p,C,l1,H,w,d,Q,R,M,r1,r2,r3,r4,r5,r6⟩:=amz D v B b k hd h g i hL sl;let⟨s2,e,o,l2,m,y,K,k1,k2,k3,k4,k5,k6⟩:=x w d _ _ _ r2 p r3 r4 r5;exact⟨s2,e,o,l2,m,y,K,r1.jA k1,k2,k3,k4,r6.jA k5,k6⟩
omit[Payload]in theorem adY{t:fw}{k g:V}{x y:MemOp}(c:x.act=.go k)(b:y.act=.start):Deaf (t++#[x,y]) g=Deaf t g:=by have:=Deaf_append t g [x,y];rw[show t++#[x,y]=t++[x,y].toArray from rfl,this];simp[deafStep,c,b]
structure OZ(ok:jO)(P:bD)(J:pP)(j:V)(ρ0 ρ0':jG)(wh0' w:W)(E':Gh)(m:V)(child:bK):U where
 bs:E'.bs=w
 kV:lF J.ok E'.ρ E'.wh w
 n9:tL J.ok E'.ρ
 sub:∀b b',E'.ρ b b'->∃c,ρ0 c b'
 vp:∀b b',E'.ρ b b'->nI E'.wh b
 oq:lF ok ρ0' wh0' w
 Bb:tL ok ρ0'
 Js:∀b b',ρ0' b b'->∃c,ρ0 c b'
 xZ:∀b b',ρ0' b b'->(∃x t f,w.heap[b']?=some (ao x t f))->nI wh0' b
 ws:WS P J j E' 2 7 m 0 child w
omit[Payload]in theorem Mg{ok:jO}{ρ:jG}{wh w:W}(h:lF ok ρ wh w){b:V}(d:ρ b v)(hs:nI wh b):∃x t f,w.heap[v]?=u (ao x t f):=by let⟨o,e,e1,e2,e3⟩:=h.nU d;let⟨x,t,hi,c,_⟩:=hs;rw[e1]at c;cases c;cases e3 with|cells=>grind
def Mem.fork(X:Stat J){o:V->Gh}{w:W}(h:Mem ok J j o ρ0 wh0 w){C:Gh}{m:V}{q:bK}(K:OZ ok P J j ρ0 ρ0' wh0' w C m q):Mem ok J (j+1) (upd o j C) ρ0' wh0' w:=by
 let⟨l1,l2,l3,l4,l5,l6⟩:=h.lt;have k:∀{i:V},i<j+1->i≠j->i<j:=λa b=>A
 refine⟨K.oq,K.Bb,λi hi=>?_,λi hi=>?_,λi hi b f g l=>?_,λi hi b f g l=>?_,λi hi b c f g p=>?_,λb f g v=>?_,λi hi b f g=>?_,λb f g=>?_,λi hi=>?_,h.lt,h.xI,h.jT,h.jr,λf s=>?_,h.n1.1,λi hi=>?_⟩;.by_cases e:i=j;(.subst e;rw[bY];exact K.kV);.rw[bH o _ e];exact h.kV i<|k hi e
 .by_cases e:i=j;(.subst e;rw[bY];exact K.n9);.rw[bH o _ e];exact h.n9 i<|k hi e
 .by_cases e:i=j;(.subst e;rw[bY]at g l;rw[K.bs]at l;have:=(K.kV.lt g).2;omega);.rw[bH o _ e]at g l;let⟨p1,B⟩:=h.AX i (k hi e) b f g l;refine⟨λT Q H c p=>?_,λc p=>?_⟩;(.by_cases D:T=j;(.subst D;rw[bY]at p;let⟨n,d⟩:=K.sub c f p;exact B n d);.rw[bH o _ D]at p;grind);.let⟨n,d⟩:=K.Js c f p;exact B n d
 .by_cases e:i=j;(.subst e;rw[bY]at g⊢;exact K.vp b f g);.rw[bH o _ e]at g l⊢;exact h.BG i (k hi e) b f g l
 .by_cases e:i=j;(.subst e;rw[bY]at p;exact K.xZ b f g<|Mg K.kV p<|K.vp c f p);.rw[bH o _ e]at p;let⟨n,d⟩:=K.Js b f g;have:=h.xZ i (k hi e) n c f d p;exact K.xZ b f g<|Mg h.oq d this
 .let⟨n,d⟩:=K.Js b f g;exact K.xZ b f g<|Mg h.oq d<|h.yU n f d v
 .by_cases e:i=j;(.subst e;rw[bY]at g⊢;let⟨n,d⟩:=K.sub b f g;let⟨r,y,M,t⟩:=h.vV n f d;refine⟨r,y,λx=>?_,t⟩;rw[K.bs];omega);.rw[bH o _ e]at g⊢;exact h.uw i (k hi e) b f g
 .let⟨n,d⟩:=K.Js b f g;let⟨r,y,M,t⟩:=h.vV n f d;refine⟨r,y,λx=>K.xZ b f g ?_,t⟩;subst x;exact⟨_,_,_,h.xI⟩
 .by_cases e:i=j;(.subst e;rw[bY,K.bs];omega);.rw[bH o _ e];exact h.xX i<|k hi e
 .let⟨s1,s2,s3,R,G⟩:=h.Dv f s;refine⟨s1,s2,s3,R,λb g=>?_⟩;let⟨n,d⟩:=K.Js b f g;exact K.xZ b f g<|Mg h.oq d<|G n d
 .by_cases e:i=j;(.subst e;rw[bY,K.bs];exact h.n1.1);.rw[bH o _ e];exact h.n1.2 i<|k hi e
def Z1(X:Stat J){s:Sn}(h:mC ok P J j ρ0 wh0 0 C9 s)(ha:s.gs[0]?=u a){sl H:n6<|V×V}{d:V}(ht:DY P s sl d H){b:bK}(ad:bZ P F a (s.w.at d)=.spawn a' b (s.w.at d) #[]){T:Gh}{m:V}(K:OZ ok P J j ρ0 ρ0' wh0' (s.w.at d) T m b):∃s',mY P s sl s' H/\mC ok P J (j+1) ρ0' wh0' 0 qY s'/\s'.gs[0]?=u a'/\s'.w=s.w.at d:=by
 have aw:=X.sf;have aa:=h.cy.jB;have aC:0<s.gs.size:=A
 have n:=runT_crowd_spawn (sl:=H) ha<|ad;have C:=(h.cy.ly.at d).fork X K;obtain⟨x,B⟩:∃x:MemOp,x={g:=0,fn:=a.frame.fn,pos:=a.frame.place,act:=.go s.gs}:=⟨_,rfl⟩;obtain⟨y,hy⟩:∃y:MemOp,y={g:=s.gs,fn:=b.frame.fn,pos:=a.frame.place,act:=.start}:=⟨_,rfl⟩;have v:x.g=0/\x.act=.go (J.n0+j):=pC
 have o:y.g=J.n0+j/\y.act=.start:=pC
 rw[(by rw[iu,B,hy];simp:(((MemOp.ofEvents 0 a.frame.fn a.frame.place #[]).push {g:=0,fn:=a.frame.fn,pos:=a.frame.place,act:=.go s.gs}).push {g:=s.gs,fn:=b.frame.fn,pos:=a.frame.place,act:=.start})=#[x,y])]at n;have p:∀g,Deaf (s.t++#[x,y]) g=Deaf s.t g:=λg=>adY v.2 o.2;have R:∀op∈#[x,y],op=x\/op=y:=F0
 have ac:∀op∈#[x,y],op.act.touch?=N:=by intro op c;rcases R op c with rfl|rfl;(.rw[v.2];rfl);.rw[o.2];rfl
 have hV:Vc (j+1) (upd s.D j ⟨7,m,0⟩)=Vc j s.D+1:=by simp only[Vc,sumTo,bY,sumTo_upd_out s.D _ iq<|ez _];rfl
 let⟨o1,e1,z1⟩:=ZS h.rv;have G:OpenSt (j+1)<|upd s.D j ⟨7,m,0⟩:=by intro i hi;by_cases e:i=j;(.subst e;rw[bY];exact aA rfl);.rw[bH s.D _ e];exact o1 i A
 refine⟨⟨(bI s.gs 0 a').push b,s.w.at d,s.t++#[x,y],upd s.E j T,upd s.D j ⟨7,m,0⟩,upd s.U j 2,s.q,s.st,s.sm⟩,mY.mq ht n rfl,⟨?_,h.wg,?_⟩,?_,rfl⟩;. (have av:∀k,k≠0->k<s.gs.size->((bI s.gs 0 a').push b)[k]?=s.gs[k]?:=pC);refine⟨by simp[aa];omega,λk g hk am l=>?_,λk hk=>?_,λi hi=>?_,C,?_,?_,h.cy.Jf.app ?_,?_,λi hi=>?_,λi hi f=>?_,λi hi f=>?_,?_⟩;(.simp only at l;rw[av k A A]at l;simp only;rw[p];exact h.cy.Ep k g hk am l);(.simp only;rw[p];exact h.cy.Fg k A);(.simp only;by_cases e:i=j;(.subst e;refine⟨b,?_,by rw[bY,bY,bY];exact K.ws⟩;grind);.let⟨g,l,hs⟩:=h.cy.wk i A;refine⟨g,pC,?_⟩;rw[bH s.D _ e,bH s.E _ e,bH s.U _ e];exact hs.rely<|RT.at s.w d);(. (have al:(λg=>lJ J j g\/g=J.n0+j)=lJ J (j+1):=by funext g;apply propext;unfold lJ;omega);have hl:=C.NW X;rw[<-al]at hl;(have an:Tl (ShN J.Wg) J.tG (lJ J j) (Dj J (j+1)<|upd s.E j T) (DX J (j+1)<|upd s.E j T) s.t:=by refine h.cy.tl.jY (λg lo l=>⟨?_,?_⟩) λg lo l=>⟨?_,?_⟩;(.rintro⟨i,hi,rfl,B⟩;(have M:i≠j:=by rintro rfl;have:=l.2;omega);rw[bH s.E _ M]at B;exact⟨i,A,rfl,B⟩);(.rintro⟨i,hi,rfl,B⟩;exact⟨i,A,rfl,by rwa[bH s.E _ A]⟩);(.rintro⟨i,hi,rfl,B⟩;(have M:i≠j:=by rintro rfl;have:=l.2;omega);rw[bH s.E _ M]at B;exact⟨i,A,rfl,B⟩);.rintro⟨i,hi,rfl,B⟩;exact⟨i,A,rfl,by rwa[bH s.E _ A]⟩);have:=Tl.fork hl an (λhw=>by have:=hw.2;omega) v o h.cy.Ez<|h.cy.Fg _<|ez _;grind);(.refine(h.cy.kn.jh λg l=>⟨l.1,by have:=l.2;omega⟩).app λop c=>aJ (aJ<|ac op c));(.grind);(.simp only;rw[p];exact h.cy.Ez);(.simp only;rw[p];by_cases e:i=j;(.subst e;rw[bY];exact h.cy.Fg _<|ez _);.rw[bH s.D _ e];exact h.cy.En i A);(.simp only at f⊢;by_cases e:i=j;(.subst e;rw[bY]at f;grind);.rw[bH s.D _ e]at f;let⟨r,hr⟩:=h.cy.kV i A f;refine⟨r,hr.app (λop c _ aB hz=>pC) λk hk l Q=>?_⟩;let⟨aB,hz,_⟩:=Q;let⟨op,c,aG⟩:=touch_of hz;grind);(.simp only at f⊢;by_cases e:i=j;(.subst e;rw[bY]at f;grind);.rw[bH s.D _ e]at f;rw[bH s.E _ e];exact h.cy.kD i A f);.intro op c;simp only at c⊢;rcases Array.mem_append.1 c with c|c;(.exact h.cy.kZ op c);.rcases R op c with rfl|rfl;(.rw[v.2];trivial);.rw[o.2];trivial
 .have:=Ve G;grind
 grind
end
end
section
open Go.Conc Go.ConcN Go.RowKit Go.Conc.Lib Go.ConcR.Gen Go.ConcN.Gen
open Go.ConcR(KK wgBlock WgAt stA smA rd wr mk Payload DC0)
variable[Payload]{L:WgLink}{P:bD}
section
variable{main:I}{R:W->W->U}{D:W->W->Z fK->U}{S S1:bK->W->U}
def aiP(j:∀a b c,R a b->R b c->R a c)(i:∀g w r,S1 g w->bQ P main R D S r g w->S g w):∀n g w r,bQ P main R DC0 S1 n g w->bQ P main R D S r g w->bQ P main R DC0 S n g w:=by intro n;induction n with|zero=>exactλg w r h e d f=>i g d r (h d f)<|e.rely j f|succ n m=>intro g w r h e;obtain h|⟨hs,h⟩:=h;(.exact aA λd f=>i g d r (h d f) (e.rely j f));.cases r with|zero=>exact aA e|succ r=>obtain e|⟨_,e⟩:=e;(.exact aA e);.refine aJ ⟨hs,λd f=>?_⟩;have l:=h d f;have k:=e d f;revert l k;cases bZ P main g d<;>simp[GStep.goes,false_implies];grind
end
section
variable{Own Rd:V->Loc->U}{Wg C n Low k:V}{val:O}
def abL{ty:aT}:∀m g w r,bQ P z (RW ty Wg C n Low<|k-1) DC0 (λg w=>∃f,bZ P z g w=.go f w #[mk dA]) m g w->bQ P z (RW ty Wg C n Low<|k-1) (DWs Wg Own Rd C n k) (AtR0 P ty Wg C n Low k val) r g w->False:=by intro m;induction m with|zero=>intro g w r d a;let⟨f,e⟩:=d w<|bV w;obtain a|⟨h,_,a⟩:=fc a;(.let⟨_,_,c,e2,_⟩:=a w<|bV w;rw[e]at e2;simp[mk]at e2);.let⟨c,j,i,e2,⟨_,b⟩,_⟩:=a w<|bV w;rw[e]at e2;simp[GStep.go.injEq]at e2;obtain⟨_,_,rfl⟩:=e2;exact(b (mk dA) F0).2.1 rfl|succ m t=>intro g w r d a;obtain d|⟨l,s,p⟩:=fc d;(.let⟨f,e⟩:=d w<|bV w;obtain a|⟨h,_,a⟩:=fc a;(.let⟨_,_,c,e2,_⟩:=a w<|bV w;rw[e]at e2;simp[mk]at e2);.let⟨c,j,i,e2,⟨_,b⟩,_⟩:=a w<|bV w;rw[e]at e2;simp[GStep.go.injEq]at e2;obtain⟨_,_,rfl⟩:=e2;exact(b (mk dA) F0).2.1 rfl);. (obtain rfl:l=m:=by omega);obtain⟨q,w1,o,e1,⟨rfl,rfl⟩,k1⟩:=p w<|bV w;obtain a|⟨h,_,a⟩:=fc a;(.let⟨_,_,c,e2,_⟩:=a _<|bV _;grind);.let⟨c,j,i,e2,_,k2⟩:=a _<|bV _;grind
def abC(H:WgLib P L){c:ak}{cs:List ak}{qt:V}(hcm:c.mode=.returning)(hT:QuitsD P qt 0<|G c cs)(w:W)(hK:cN L.tWg Wg w/\Has C (k-1) val w):bQ P z (RW L.tWg Wg C n Low<|k-1) DC0 (AtR0 P L.tWg Wg C n Low k val) 60 (G ((baseD L.done).at ⟨#[ae Wg,ai,ai,ai],[]⟩ [aq<|body_done L])<|c::cs) w:=by
 refine aiP (λ_ _ _ a b=>a.trans b) (S1:=λg w=>∃g',bZ P z g w=.go g' w #[mk<|iI<|stA Wg]/\∃m,bQ P z (RW L.tWg Wg C n Low<|k-1) DC0 (λg w=>∃g',bZ P z g w=.go g' w #[mk dA]) m g' w) ?_ 60 _ _ _ ?_<|doneN (n:=n) (Low:=Low) (Own:=λ_ _=>False) (Rd:=λ_ _=>False) H hcm hT w hK;.intro g w r⟨g',e,m,hm⟩h2;obtain h2|⟨r',_,h2⟩:=fc h2;(.exact h2 w<|bV w);.let⟨g2,w2,es,e2,_,k2⟩:=h2 w<|bV w;rw[e]at e2;simp[GStep.go.injEq]at e2;obtain⟨rfl,rfl,rfl⟩:=e2;exact(abL m _ _ _ hm k2).elim
 .lib_facts;simp[body_done,doneFn,cD];u_reg cx hK;u_op cx hK;u_in cx hK;refine gT rfl rfl (by k_ne) rfl H.f_add (nm_add L) rfl ⟨by u_nil,?_⟩;walk_nrmf addFn;(repeat(first|u_op cx hK|u_c aM cx hK|u_c aP cx hK|u_reg cx hK|u_cond F cx hK));u_conv H.underlying_tWgP H.room_tWg(WgLive.cell0 hK.1).choose_spec cx hK;refine cH λw₁ h₁=>?_;replace hK:=cx hK h₁;refine⟨_,fL iI F0 rfl rfl (by k_ne) rfl H.f_relMerge (x_relMerge_n L) (x_relMerge_b L) (x_relMerge_x L) (x_relMerge_f L)<|by simp[bU,stA],10,?_⟩;walk_nrm;(repeat(first|u_c aM cx hK|u_c aP cx hK|u_reg cx hK));exact cH λw₁ h₁=>(⟨_,fM dA F0 rfl rfl (by k_ne) rfl H.f_disable (x_disable_n L) (x_disable_b L) (x_disable_x L)<|x_disable_f L⟩)
end
end
section
open Go.Conc Go.ConcN Go.RowKit Go.Conc.Lib Go.ConcR.Gen Go.ConcN.Gen
open Go.ConcR(KK wgBlock WgAt stA smA rd wr mk Payload DC0)
variable[Payload]{L:WgLink}{P:bD}
section
variable{Wg:V}{Stop:bK->W->U}{b₀:ak}{a₀:Act}{ops₀:Z aK}{i₀:V}{rest₀:List V}{k₀:List az}{cs:List ak}{mT:V}
def aeO(H:WgLib P L)(t:∀w,cN L.tWg Wg w->bQ P F (RA L.tWg Wg) DC0 Stop mT (G (b₀.at (a₀.put ((ops₀[i₀]?).bind (·.dst)) (dg #[])) (ax ops₀ rest₀::k₀)) cs) w)(g:bK)(w:W)(h:AA L Wg (b₀.at a₀<|ax ops₀ (i₀::rest₀)::k₀) cs g w):oY P L.tWg Wg (JY P L.tWg Wg (AA L Wg (b₀.at a₀<|ax ops₀ (i₀::rest₀)::k₀) cs) Stop) g w:=by
 lib_facts;obtain⟨T,rfl,r,t0,_,hF⟩:=h;obtain⟨v0,v1,v2,v3,v4,v5,v6,v7,v8,v9,ct,cm,a7,ci,aS,R,bX,cb,bx,B,ce,bA,aG,a3,an,bm,bp,C,aW,Q,ca,Rm,aw,am,ba,a4,X,aC,b9,bT,a8,cg,a2,cc,aa,cv,al,b8,aR,aB,bo,a6,co,bi,bB,bt,a9,bM,av,bR,cl,a5,a0,M,cu,bq,be,bv,bd,br,bz,bf,ck,bw,aL,J,aV,bF,ac,aI,bg,cn,K,bc,rfl⟩:=array84 T r;simp only[iK,iM,fA]at t0;subst t0;refine⟨40,?_⟩;simp only[L7,body_wait,waitFn,cD];u_c iN ji hF;u_c aP ji hF;u_reg ji hF;iterate 3 u_op ji hF
 u_call H.f_uLoad(nm_uLoad L)uLoadFn ji hF;u_c aP ji hF;u_reg ji hF;u_op ji hF;u_c aM ji hF;u_c aP ji hF;u_reg ji hF;iterate 3 u_op ji hF
 refine cH λm l=>?_;replace hF:=ji hF l;clear l;refine⟨rfl,λv hv a=>?_⟩;rcases fZ v with rfl|bb;. (replace a:WgAt L.tWg Wg m 0 0:=by simpa using a);refine⟨_,gZ (v:=0) rfl rfl (by k_ne) rfl H.f_loadU64 (x_loadU64_n L) (x_loadU64_b L) (x_loadU64_x L) dz (x_loadU64_f L) rfl a.cellSt,λ_=>⟨60,?_⟩,λh=>zW rfl h⟩;clear a;walk_nrm;u_op ji hF;u_c aM ji hF;u_c eu ji hF;u_leave1 H.f_uLoad ji hF;u_op ji hF;u_c aM ji hF;u_c aP ji hF;u_reg ji hF;(iterate 4 u_op ji hF);u_c aM ji hF;u_c aP ji hF;u_reg ji hF;(iterate 4 u_op ji hF);u_c aM ji hF;u_c aP ji hF;u_c aP ji hF;u_reg ji hF;(iterate 2 u_op ji hF);u_c aM ji hF;u_cond F ji hF;u_c aP ji hF;u_cond F ji hF;u_c aP ji hF;u_reg ji hF;refine cH λo c=>?_;replace hF:=ji hF c;clear c;refine⟨rfl,_,fM .enable F0 rfl rfl (by k_ne) rfl H.f_enable (x_enable_n L) (x_enable_b L) (x_enable_x L)<|x_enable_f L,20,?_⟩;walk_nrm;u_c aM ji hF;u_reg ji hF;u_op ji hF;u_conv H.underlying_tWgP H.room_tWg(WgLive.cell0 hF).choose_spec ji hF;refine cH λq b=>?_;replace hF:=ji hF b;clear b;refine⟨rfl,_,fL gw F0 rfl rfl (by k_ne) rfl H.f_acquire (x_acquire_n L) (x_acquire_b L) (x_acquire_x L) (x_acquire_f L)<|by simp[bU,stA],⟨mT+30,?_⟩⟩;walk_nrm;u_c aM ji hF;u_c aP ji hF;u_c aP ji hF;u_reg ji hF;(iterate 8 u_op ji hF);u_skip ji hF;u_skip ji hF;u_op ji hF;u_c aM ji hF;u_cond z ji hF;u_c fj ji hF;u_c eu ji hF;u_leave0 H.f_wait ji hF;exact Qx (t _ hF) A
 .obtain⟨S,hS⟩:∃S:Y,(v:Y)*KK=S:=⟨_,rfl⟩;(have a1:S/4294967296=(v:Y):=by rw[<-hS];simp only[KK];omega);(have b1:bits .and dz S 2147483648=0:=by rw[<-hS];have:=st_flag v 0 A A;simpa[KK]using this);(have b2:bits .and dz S 2147483647=0:=by rw[<-hS];have:=st_waiters v 0 A A;simpa[KK]using this);(have c1:IntKind.i32.wrap (v:Y)=(v:Y):=by rw[IntKind.wrap_i32];omega);(have w1:IntKind.u64.wrap (S+1)=S+1:=by rw[IntKind.wrap_u64,<-hS];simp only[KK];omega);have q3:decide ((v:Y)<0)=z:=decide_eq_false A;have q4:decide (0<(v:Y))=F:=decide_eq_true A;(have q5:((v:Y)==0)=z:=Fk);have q6:decide ((v:Y)=0)=z:=decide_eq_false A;rw[hS]at a;refine⟨_,gZ (v:=S) rfl rfl (by k_ne) rfl H.f_loadU64 (x_loadU64_n L) (x_loadU64_b L) (x_loadU64_x L) dz (x_loadU64_f L) rfl a.cellSt,λh0=>zW h0 A,λ_=>⟨80,?_⟩⟩;clear a;walk_nrm;u_op ji hF;u_c aM ji hF;u_c eu ji hF;u_leave1 H.f_uLoad ji hF;u_op ji hF;u_c aM ji hF;u_c aP ji hF;u_reg ji hF;(iterate 4 u_op ji hF);u_c aM ji hF;u_c aP ji hF;u_reg ji hF;(iterate 4 u_op ji hF);u_c aM ji hF;u_c aP ji hF;u_c aP ji hF;u_reg ji hF;(iterate 2 u_op ji hF);u_c aM ji hF;u_cnd z ji hF;u_c fj ji hF;u_c aP ji hF;u_reg ji hF;(iterate 6 u_op ji hF);u_call H.f_uCas(nm_uCas L)uCasFn ji hF;u_c aP ji hF;u_reg ji hF;u_op ji hF;u_c aM ji hF;u_c aP ji hF;u_reg ji hF;(iterate 5 u_op ji hF);refine cH λp f=>?_;replace hF:=ji hF f;clear f;refine⟨rfl,λv' D a=>⟨λe=>?_,λe=>?_⟩⟩;(.subst e;rw[hS]at a⊢;refine⟨_,bu (stepG_cas_hit (v:=S) (n:=S+1) rfl rfl (by k_ne) rfl H.f_casU64 (x_casU64_n L) (x_casU64_b L) (x_casU64_x L) dz (x_casU64_f L) rfl rfl rfl a.cellSt<|a.thaw 0)<|by rfl,70,?_⟩;replace hF:cN L.tWg Wg<|p (stA Wg)<|ar dz<|S+1:=⟨_,_,a.setSt _⟩;clear a;walk_nrm;u_op ji hF;u_c aM ji hF;u_c eu ji hF;u_leave1 H.f_uCas ji hF;u_c aM ji hF;u_cond F ji hF;u_c aP ji hF;u_c aP ji hF;u_reg ji hF;(iterate 4 u_op ji hF);u_c aM ji hF;u_cond F ji hF;u_reg ji hF;(iterate 3 u_op ji hF);u_conv H.underlying_tPU32 H.room_tU32(WgLive.cell1 hF).choose_spec ji hF;refine cH λx i=>?_;replace hF:=ji hF i;clear i;refine⟨rfl,_,fL .write F0 rfl rfl (by k_ne) rfl H.f_raceWrite (x_raceWrite_n L) (x_raceWrite_b L) (x_raceWrite_x L) (x_raceWrite_f L) (ad:=(Wg 1 N))<|by simp[bU],60,?_⟩;walk_nrm;u_c aM ji hF;u_c aP ji hF;u_reg ji hF;u_op ji hF;u_c aM ji hF;u_c aP ji hF;u_c aP ji hF;u_reg ji hF;(iterate 4 u_op ji hF);u_skip ji hF;u_op ji hF;u_c aM ji hF;u_cond z ji hF;u_c fj ji hF;u_c aP ji hF;u_reg ji hF;(iterate 4 u_op ji hF);refine cH λj d=>?_;replace hF:=ji hF d;clear d;refine⟨rfl,rfl,λ⟨st,a⟩=>stepG_semacquire_wait rfl rfl rfl H.f_semacquire (x_semacquire_n L) (x_semacquire_b L) (x_semacquire_x L) (x_semacquire_f L) (by simp[bU,smA]) a.cellSm,λs=>?_⟩;refine⟨_,bu (stepG_semacquire (n:=1) rfl rfl (by k_ne) rfl H.f_semacquire (x_semacquire_n L) (x_semacquire_b L) (x_semacquire_x L) (x_semacquire_f L) (by simp[bU,smA]) s.cellSm (by k_ne)<|s.thaw 1)<|by rfl,40,?_⟩;replace hF:cN L.tWg Wg<|j (smA Wg)<|ar .u32 0:=⟨_,_,s.setSm 0⟩;clear s;walk_nrm;u_c aM ji hF;u_c aP ji hF;u_reg ji hF;(iterate 3 u_op ji hF);u_call H.f_uLoad(nm_uLoad L)uLoadFn ji hF;u_c aP ji hF;u_reg ji hF;u_op ji hF;u_c aM ji hF;u_c aP ji hF;u_reg ji hF;(iterate 3 u_op ji hF);refine cH λy k=>?_;replace hF:=ji hF k;clear k;refine⟨rfl,λa=>⟨_,gZ (v:=0) rfl rfl (by k_ne) rfl H.f_loadU64 (x_loadU64_n L) (x_loadU64_b L) (x_loadU64_x L) dz (x_loadU64_f L) rfl a.cellSt,40,?_⟩⟩;clear a;walk_nrm;u_op ji hF;u_c aM ji hF;u_c eu ji hF;u_leave1 H.f_uLoad ji hF;(iterate 2 u_op ji hF);u_c aM ji hF;u_c aP ji hF;u_cond F ji hF;u_c aP ji hF;u_reg ji hF;refine cH λo c=>?_;replace hF:=ji hF c;clear c;refine⟨rfl,_,fM .enable F0 rfl rfl (by k_ne) rfl H.f_enable (x_enable_n L) (x_enable_b L) (x_enable_x L)<|x_enable_f L,20,?_⟩;walk_nrm;u_c aM ji hF;u_reg ji hF;u_op ji hF;u_conv H.underlying_tWgP H.room_tWg(WgLive.cell0 hF).choose_spec ji hF;refine cH λq b=>?_;replace hF:=ji hF b;clear b;refine⟨rfl,_,fL gw F0 rfl rfl (by k_ne) rfl H.f_acquire (x_acquire_n L) (x_acquire_b L) (x_acquire_x L) (x_acquire_f L)<|by simp[bU,stA],⟨mT+20,?_⟩⟩;walk_nrm;u_c aM ji hF;u_c aP ji hF;u_c aP ji hF;u_reg ji hF;u_op ji hF;u_c aM ji hF;u_cond z ji hF;u_c fj ji hF;u_c eu ji hF;u_leave0 H.f_wait ji hF;exact Qx (t _ hF) A);.refine⟨_,stepG_cas_miss (v:=(v':Y)*KK) (old:=S) (n:=S+1) rfl rfl (by k_ne) rfl H.f_casU64 (x_casU64_n L) (x_casU64_b L) (x_casU64_x L) dz (x_casU64_f L) rfl rfl rfl a.cellSt (a.thaw 0)<|by rw[<-hS];simp only[KK];omega,30,?_⟩;clear a;walk_nrm;u_op ji hF;u_c aM ji hF;u_c eu ji hF;u_leave1 H.f_uCas ji hF;u_c aM ji hF;u_cond z ji hF;u_c fj ji hF;u_c stepG_inBlock ji hF;u_c stepG_inLoop ji hF;refine cH λj d=>?_;replace hF:=ji hF d;exact⟨_,rfl,F0,F0,n7,hF⟩
def anB(H:WgLib P L)(w:W)(hF:cN L.tWg Wg w):bQ P F (RA L.tWg Wg) DC0 (uR P dA<|oY P L.tWg Wg<|AA L Wg (b₀.at a₀<|ax ops₀ (i₀::rest₀)::k₀) cs) 10 (G (cG P L.wait #[ae Wg] cU)<|b₀.at a₀ (ax ops₀ (i₀::rest₀)::k₀)::cs) w:=by
 have e:cG P L.wait #[ae Wg] cU=(base L.wait).at ⟨#[ae Wg]++du ((waitFn L).ntmps-1) ai,[]⟩ [aq<|body_wait L]:=by simp[cG,Frame.at,H.f_wait,body_wait,base];rfl
 rw[e];lib_facts;simp only[body_wait,waitFn,cD];walk_nrm;u_c aP ji hF;u_cond F ji hF;u_reg ji hF;refine cH λc a=>?_;replace hF:=ji hF a;clear a;refine⟨rfl,_,fM dA F0 rfl rfl (by k_ne) rfl H.f_disable (x_disable_n L) (x_disable_b L) (x_disable_x L)<|x_disable_f L,10,?_⟩;walk_nrm;u_c aM ji hF;u_c iN ji hF;u_c stepG_loop ji hF;exact cH λd b=>⟨_,rfl,F0,F0,n7,ji hF b⟩
end
end
end Go.Rel
namespace Go.Proofs.YtldeiiffabfmeaaGreatDoor
section
open Go.Conc Go.ConcR Go.RowKit Go.Conc.Lib Go.ConcR.Gen
abbrev Bo:Go.Conc.Lib.WgLink:={add:=130,done:=132,wait:=136,relMerge:=151,disable:=152,enable:=153,inBubble:=154,associate:=155,fatal:=156,uOr:=157,uAdd:=158,raceRead:=159,uLoad:=160,uStore:=161,disassociate:=162,semrelease:=163,acquire:=165,isAssociated:=166,uCas:=167,raceWrite:=168,semacquire:=169,orU64:=175,addU64:=176,loadU64:=177,storeU64:=178,casU64:=179,tWgP:=234,tUP:=236,tAssoc:=237,tWg:=224,tAU:=221,tU64:=219,tUint:=241,tU32:=222,tPU32:=242,tPAU:=259,tPU64:=261,tNoCopy:=216,tANoCopy:=217,tAlign64:=218}
def K5:Go.Conc.Lib.WgLib E Bo:=⟨gU,iJ,gV,Tryz.func151,Tryz.func152,Tryz.func153,Tryz.func154,Tryz.func155,Tryz.func156,Tryz.func157,Tryz.func158,Tryz.func159,Tryz.func160,Tryz.func161,Tryz.func162,Tryz.func163,Tryz.func165,Tryz.func166,Tryz.func167,Tryz.func168,Tryz.func169,Tryz.func175,Tryz.func176,Tryz.func177,Tryz.func178,Tryz.func179,Tryz.underlying234,Tryz.runUnderlying234,Tryz.sizeOf234,Tryz.isAgg234,Tryz.zeroValue234,Tryz.underlying236,Tryz.runUnderlying236,Tryz.sizeOf236,Tryz.isAgg236,Tryz.zeroValue236,Tryz.underlying237,Tryz.runUnderlying237,Tryz.sizeOf237,Tryz.isAgg237,Tryz.zeroValue237,Tryz.underlying224,Tryz.runUnderlying224,Tryz.sizeOf224,Tryz.isAgg224,Tryz.zeroValue224,Tryz.underlying221,Tryz.runUnderlying221,Tryz.sizeOf221,Tryz.isAgg221,Tryz.zeroValue221,Tryz.underlying219,Tryz.runUnderlying219,Tryz.sizeOf219,Tryz.isAgg219,Tryz.zeroValue219,Tryz.underlying241,Tryz.runUnderlying241,Tryz.sizeOf241,Tryz.isAgg241,Tryz.zeroValue241,Tryz.underlying222,Tryz.runUnderlying222,Tryz.sizeOf222,Tryz.isAgg222,Tryz.zeroValue222,Tryz.underlying242,Tryz.runUnderlying242,Tryz.sizeOf242,Tryz.isAgg242,Tryz.zeroValue242,Tryz.underlying259,Tryz.runUnderlying259,Tryz.sizeOf259,Tryz.isAgg259,Tryz.zeroValue259,Tryz.underlying261,Tryz.runUnderlying261,Tryz.sizeOf261,Tryz.isAgg261,Tryz.zeroValue261,Tryz.underlying0,Tryz.runUnderlying0,Tryz.sizeOf0,Tryz.isAgg0,Tryz.zeroValue0,ej,Tryz.runUnderlying3,Tryz.sizeOf3,Tryz.isAgg3,Tryz.zeroValue3,Tryz.underlying4,Tryz.runUnderlying4,Tryz.sizeOf4,Tryz.isAgg4,Tryz.zeroValue4,Tryz.underlying9,Tryz.runUnderlying9,Tryz.sizeOf9,Tryz.isAgg9,Tryz.zeroValue9,Tryz.underlying20,Tryz.runUnderlying20,Tryz.sizeOf20,Tryz.isAgg20,Tryz.zeroValue20,Tryz.underlying21,Tryz.runUnderlying21,Tryz.sizeOf21,Tryz.isAgg21,Tryz.zeroValue21,vI,vI⟩
instance:Payload:=⟨198⟩
end
section
open Go.Conc Go.ConcN Go.RowKit Go.Conc.Lib Go.ConcR.Gen Go.ConcN.Gen Go.Rel
open Go.ConcR(KK wgBlock WgAt stA smA rd wr mk Payload DC0 ofEvent_cell)
def zh:ak:=baseD 131
noncomputable def yd:ak:={(default:ak)with fn:=Tryz.prog.funcs,defers:=[],mode:=.panicking [goexitEntry]}
noncomputable def Le:aF:=Tryz.f131.body.getD dH
noncomputable def H5:aF:=match Le with|aE _ b=>b|_=>dH
noncomputable def ti:Z aK:=match H5 with|bP _ o _=>o|_=>#[]
def ano:H5=bP 1 ti F:=rfl
def Em(d c a b e:O):fg:={target:=.fn (.func 131) #[d,c,a,b,e],args:=#[]}
def zC(d c a b e:O):Z O:=#[d,c,a,b,e,ai,ai,ai,ai,ai,ai,ai,ai,ai,ai,ai,ai,ai,ai,ai,ai,ai,ai,ai,ai,ai,ai,ai,ai,ai,ai]
def Fb(Wg:V):fg:=dcall 132 #[ae Wg]
def aij(c a e b d:O)(w:W):bZ E z (born E<|Em c a e b d) w=.go (G (zh.at ⟨zC c a e b d,[]⟩ [aq Le]) [yd]) w #[]:=by simp[born,Em,bZ,unwind,callDeferred,invoke,callFunc,gW,gX,seen,GStep.after,G,cG,Frame.at,zh,baseD,yd,Le,zC]
def JK{R:W->W->U}{w a:W}(h:True)(_:R w a):True:=h
def aiM{R:W->W->U}(Wg:V)(h e c d:O)(w:W):bQ E z R DC0 (λg _=>g=G (zh.at ⟨zC (ae Wg) h e c d,[Fb Wg]⟩ [aq H5]) [yd]) 8 (born E<|Em (ae Wg) h e c d) w:=by have hF:True:=trivial;refine dL rfl λi a=>?_;rw[aij];refine⟨by u_nil,?_⟩;clear a;simp[Le,gX,cD,zC];u_c aP JK hF;u_reg JK hF;u_defer JK hF;u_c aM JK hF;exact cH λf b=>rfl
def abO(T:Z O)(a:L az):QuitsD E 2 0<|G {zh.at ⟨T,[]⟩ a with mode:=.returning} [yd]:=by
 refine QuitsD.ctl (g':=G yd []) rfl (λw=>?_) ?_;.simp[G,bZ,unwind,doReturn,dZ,Frame.at,zh,baseD,yd,gW,gX,seen,GStep.after,goexitEntry]
 refine QuitsD.ctl (g':={G yd []with status:=.finished}) rfl (λw=>?_) ⟨rfl,rfl⟩;simp[G,bZ,unwind,yd,goexitEntry,Frame.catches];rfl
end
section
def anv{c:jH}{a:jL}{i:V}:Aj c a i=F↔∀p,p<=c.D.nb->lY c i p=F->my (a p) i=F:=by
 constructor;.intro h p e f;have:=rO h (k:=p) A;grind
 .intro h;(have b:∀n,n<=c.D.nb+1->lU (λp=>!lY c i p||my (a p) i) n=F:=by intro n;induction n with|zero=>intro _;rfl|succ n d=>intro g;simp[lU,d A,ig];grind);exact b _ jK
def ahC{c:jH}(H:mu c){i:V}(hi:i<c.D.nl):∃p,p<=c.D.nb/\lY c i p=F:=by
 by_cases a:(c i).nr+(c i).nw+(c i).ng=0;.exact⟨0,j9,by rw[lY,rW a];rfl⟩
 .let⟨k,hk,b⟩:=H.G.Vb hi a;exact⟨nh c k,CO _ _ _,Es H hi b⟩
def nj.YQ{c:jH}(H:mu c){s0:lH}{a:jL}(h:nj c s0 a){i:V}(hi:i<c.D.nl):(Aj c a i=z/\ub c a i=zZ)\/(Aj c a i=F/\Lu c s0 i (ub c a i)):=by unfold ub;cases e:Aj c a i with|false=>simp|true=>right;let⟨p,b,d⟩:=ahC H hi;exact⟨rfl,by simpa using h.kO p i b hi d (anv.1 e p b d)⟩
def rj(f:V->V):V->V|0=>0|n+1=>rj f n+f n
def adD{f g:V->V}:∀{n:V},(∀j,j<n->f j=g j)->rj f n=rj g n|0,_=>rfl|n+1,h=>by simp[rj,adD (n:=n) λj a=>h j A,h n A]
def Sc{f:V->V}{b:V}:∀{n:V},(∀j,j<n->f j<=b)->rj f n<=n*b|0,_=>by simp[rj]|n+1,h=>by have d:=Sc (n:=n) λj a=>h j A;have c:=h n A;simp[rj,Nat.succ_mul];omega
def Kv(hs:V->I)(vl:V->Y):∀n,(tX hs vl n)=ku hs n|0=>rfl|n+1=>by simp[tX,fT,Kv hs vl n,ku];split<;>rfl
end
end Go.Proofs.YtldeiiffabfmeaaGreatDoor
namespace Go.Rel
section
open Go.Conc Go.ConcN
variable{ok:jO}{ρ ρ':jG}{P:bD}{S:L ak->W->U}
structure Bl(ρ:jG)(n:V)(ρ':jG)(n':V):U where
 le:ρ.le ρ'
 qw:∀b b',ρ' b b'->ρ b b'\/n<=b'
 jB:n<=n'
def Bl.nH(ρ:jG)(n:V):Bl ρ n ρ n:=⟨jG.le.nH _,λ_ _ h=>aA h,ez _⟩
def Bl.jA{c a d:jG}{n1 n2:V}(h:Bl c n1 a n2)(g:Bl a n2 d v):Bl c n1 d v:=⟨h.le.jA g.le,λb e x=>(g.qw b e x).elim (h.qw b e) λy=>aJ (gJ h.jB y),gJ h.jB g.jB⟩
def Reach(ok:jO)(P:bD)(l:L ak)(wh:W)(Stop:L ak->W->U):U:=∀(ρ:jG)(gs:Z bK)(w:W)(sl:n6<|V×V)(t:fw)(q:V->V)(c:Loc->U),wF ok P ρ l wh gs w t q c->∃j ρ' d e f h i a g b,runNT P j (crowd gs w sl) t=(.next<|crowd d e f,h)/\wF ok P ρ' g b d e h i a/\Bl ρ w ρ' e/\Stop g b
def Reach.vn{l:L ak}{wh:W}(h:S l wh):Reach ok P l wh S:=λρ gs w sl t q a b=>⟨0,ρ,gs,w,sl,t,q,a,l,wh,rfl,b,Bl.nH _ _,h⟩
def Reach.jU{l:L ak}{wh:W}{r:L ak->W->U}(h:Reach ok P l wh S)(hk:∀s a,S s a->Reach ok P s a r):Reach ok P l wh r:=by intro ρ gs w sl t q v C;obtain⟨x,y,D,w1,p,t1,q1,G,l1,i,r1,e,n,g⟩:=h _ _ _ sl _ _ _ C;obtain⟨M,b,m,B,k,t2,q2,d,l2,j,r2,c,f,o⟩:=hk l1 i g _ _ _ p _ _ _ e;refine⟨x+M,b,m,B,k,t2,q2,d,l2,j,?_,c,n.jA f,o⟩;rwa[runNT_add,r1]
def Reach.jh{l:L ak}{wh:W}{S':L ak->W->U}(h:Reach ok P l wh S)(hk:∀b a,S b a->S' b a):Reach ok P l wh S':=h.jU λb a x=>.vn (hk b a x)
def Reach.H4{l:L ak}{wh:W}(h:(∀f∈l,f.defers=[]/\f.kind=cU)->yc ok P l wh->Reach ok P l wh S):Reach ok P l wh S:=by intro ρ gs w sl t q b a;refine h (λf c=>?_) a.xL _ _ _ sl _ _ _ a;let⟨e,la,g,d,_⟩:=a.xL;exact d.nA f c
def Reach.LY(m:Fits ok P)(B:qa ok P)(base:L ak){l:L ak}{wh:W}(ne:l≠[])(hs:Safe ok P S l wh):Reach ok P (l++base) wh λo i=>∃l1,o=l1++base/\S l1 i:=by intro ρ gs w sl t q a p;obtain⟨n,d,f,w1,k,t1,q1,l1,e,r1,c,g,_,b,h,j,_⟩:=Y2 m B base hs ne p;exact⟨n,d,f,w1,k,t1,q1,a,_,e,r1,c,⟨g,h,j⟩,l1,rfl,b⟩
def wF.re{l:L ak}{wh:W}{gs:Z bK}{w:W}{t:fw}{q:V->V}{a:Loc->U}(h:wF ok P ρ l wh gs w t q a)(b:V->dF->V)(d:V):wF ok P ρ l (wh.re b d) gs w t q a:={h with vy:=h.vy.Cw b d}
def Reach.re{l:L ak}{wh:W}(h:Reach ok P l wh S)(c:V->dF->V)(d:V):Reach ok P l (wh.re c d) S:=by exactλρ gs w sl t q a b=>h _ _ _ sl _ _ _<|b.re wh.tape wh.drawn
def Reach.jV(m:Fits ok P)(B:qa ok P){l g l1:L ak}{wh wh1:W}(ne:l≠[])(hd:wH ok P l)(h:∀b d,∃a f j,(jV P l).runT P (wh.re b d) #[]=(.ok l1<|wh1.re a f,j))(hk:Reach ok P (l1++g) wh1 S):Reach ok P (l++g) wh S:=by
 have hs:Safe ok P (λi c=>i=l1/\∃b d,c=wh1.re b d) l wh:=by refine .step hd (λb d=>?_) λb d i p j k=>?_;(.let⟨a,f,j,e⟩:=h b d;grind);.let⟨a,f,n,e⟩:=h b d;rw[e]at k;cases k;exact .stop ⟨rfl,a,f,rfl⟩
 refine(Reach.LY m B g ne hs).jU λi c o=>?_;obtain⟨l2,rfl,rfl,b,d,rfl⟩:=o;exact hk.re b d
def Reach.sI(b:Fits ok P)(B:qa ok P){fr fr1:ak}{a:L ak}{wh:W}(h:Rel.jV P [fr]=Pure.pure [fr1])(hd:wH ok P [fr])(hk:Reach ok P (fr1::a) wh S):Reach ok P (fr::a) wh S:=Reach.jV b B F0 hd (λc d=>⟨c,d,#[],by rw[h];rfl⟩) hk
def me(ok:jO)(P:bD)(d:L V)(c:aF)(Q:dP->Act->W->U)(a:Act)(wh:W):U:=∀(b:ak)(k:L az)(h:L ak),(∃fn,P.funcs[b.fn]?=u fn)->(∀id∈d,∃l,aY id k=u l)->Reach ok P (b.at a (aq c::k)::h) wh (λj g=>∃e i f,j=f::h/\Q e i g/\CL b k e i f)
section
variable{ids:L V}{Q Q':dP->Act->W->U}{a:Act}{wh:W}{c x y:aF}
def DN(h:me ok P ids c Q a wh)(i:∀e a w,Q e a w->Q' e a w):me ok P ids c Q' a wh:=λb k l d hk=>(h b k l d hk).jh λp g⟨e,j,f,m,o,n⟩=>⟨e,j,f,m,i _ _ _ o,n⟩
def tS(h:me ok P ids c Q a wh)(e:V->dF->V)(d:V):me ok P ids c Q a<|wh.re e d:=λb k g f hk=>(h b k g f hk).re e d
def Ev(ids:L V):∀i∈mJ ids,Fi ok P i:=by induction ids with|nil=>intro i hi;simp[mJ,gM]at hi;subst hi;exact n7|cons id ids b=>simp only[mJ];exact eh.2 ⟨n7,eh.2 ⟨n7,b⟩⟩
def JC(X:Fits ok P)(C:sw ok P)(T:te ok P c)(hQ:∀e a w i d,Q e a w->Q e a (w.re i d))(hE:∀e a w,Q e a w->IB ids e)(h:∀i d,c.wp P Q a<|wh.re i d){b:ak}(R:∃fn,P.funcs[b.fn]?=u fn)(m:yc ok P [b.at a<|aq c::mJ ids] wh):Safe ok P (xN b (mJ ids) Q) [b.at a<|aq c::mJ ids] wh:=by
 have s:PV P (xN b (mJ ids) Q) [b.at a<|aq c::mJ ids] wh:=by intro i d;let⟨e,v,t,G,g⟩:=h i d b (mJ ids) [jv];have q:=hE _ _ _ G;(have k:∀{f:ak},CL b (mJ ids) e v f->Steps P (lone (b.at a<|aq c::mJ ids) [jv]<|wh.re i d) (lone f [jv] t)->∃n r t,runN P n (Aq [b.at a<|aq c::mJ ids]<|wh.re i d)=.next (lone r [jv] t)/\xN b (mJ ids) Q [r] t:=by rintro f M⟨n,K⟩;exact⟨n,f,t,K,e,v,f,rfl,G,M⟩);cases e with|normal=>exact k rfl g|exit id=>let⟨B,p⟩:=afi<|q;exact k ⟨B,p,rfl⟩<|g B p|ret=>let⟨j,hs⟩:=g;exact k ⟨j,rfl⟩ hs|_=>exact q.elim
 refine Wr X C ?_ ?_ (yc.xL (by simpa using m) ?_ F0) s;.rintro l w i d _⟨e,v,f,D,H,o⟩;exact⟨e,v,f,D,hQ _ _ _ _ _ H,o⟩
 .rintro fr w⟨e,v,f,D,H,o⟩;cases D;cases e with|normal=>cases o;exact aA rfl|exit id=>obtain⟨B,_,rfl⟩:=o;exact aA rfl|ret=>obtain⟨j,rfl⟩:=o;exact aJ rfl|_=>exact o.elim
 .intro f J;simp[gM]at J;subst J;exact⟨R,eh.2 ⟨T,Ev ids⟩,aA rfl⟩
def Jm{b:ak}{j:L ak}{l d:L az}(e:∀i∈d,JF i)(h:yc ok P (b.at a l::j) wh):yc ok P [b.at a d] wh:=by let⟨g,la,p,m,n,k⟩:=h;cases m with|@cons _ o h f _ _ hs=>exact⟨g,_,p,.cons (⟨h.fn,rfl,e,h.sj,rfl,h.MR,h.yp,h.qS,h.rm,h.zP⟩:qD ok P g (b.at a d) {o with todo:=d,mode:=.run}) ⟨f.qS,f.rm⟩ .nil,n,k⟩
def ada(n:Fits ok P)(C:sw ok P)(p:te ok P c)(j:∀e a w g d,Q e a w->Q e a (w.re g d))(q:∀e a w,Q e a w->IB ids e)(h:∀g d,c.wp P Q a<|wh.re g d){b:ak}{k:L az}{l:L ak}(m:∃fn,P.funcs[b.fn]?=u fn)(hk:∀id∈ids,∃o,aY id k=u o)(f:yc ok P (b.at a (aq c::k)::l) wh):Safe ok P (xN b k Q) [b.at a<|aq c::k] wh:=by exact Jq (SF hk j) (JC n C p j q h m<|Jm (eh.2 ⟨n7,λi hi=>(Ev (ok:=ok) (P:=P) ids i hi).x8⟩) f) [] a (aq c::mJ ids) (aq c::k) rfl ⟨[aq c],F0,rfl,rfl⟩ F0
def agh(B:Fits ok P)(C:sw ok P){id:V}{ops:Z aK}{n:V}{tail:L V}{R:Act->W->U}(hcut:Eb (P.follows ee) ops n tail)(G:n<=ops)(J:∀(i:V)o j l,i<n->ops[i]?=u o->o.guard=u (j,l)->j<n)(q:∀(i:V)o,i<n->ops[i]?=u o->qh ok P o)(s:∀a w p d,R a w->R a (w.re p d))(h:∀p d,(bP id (ops.extract 0 n) F).wp P (λe a w=>e=bC/\R a w) a<|wh.re p d){b:ak}{k:L az}{cs:L ak}(v:∃fn,P.funcs[b.fn]?=u fn){td:L az}(f:yc ok P (b.at a td::cs) wh):Safe ok P (λD H=>∃r,D=[b.at r<|ax ops tail::k]/\R r H) [b.at a<|aq (bP id ops F)::k] wh:=by
 have g:te ok P<|bP id (ops.extract 0 n) F:=by intro o t;obtain⟨i,hi,rfl⟩:=fE.1 t;rw[gE];simp at hi;exact q i _ A F0
 exact Jq (S6 hcut G J s) (JC B C g (λe a w p d m=>⟨m.1,s _ _ _ _ m.2⟩) (λe a w m=>by rw[m.1];exact n7) h v<|Jm (eh.2 ⟨n7,λi hi=>(Ev (ok:=ok) (P:=P) [] i hi).x8⟩) f) [] a _ _ rfl .start F0
def BN(l:Fits ok P)(C:sw ok P)(q:te ok P c)(m:∀e a w j d,Q e a w->Q e a (w.re j d))(s:∀e a w,Q e a w->IB ids e)(h:∀j d,c.wp P Q a<|wh.re j d):me ok P ids c Q a wh:=by intro b k p o hk;refine Reach.H4 λr g=>?_;refine(Reach.LY l C.mI p F0<|Jq (SF hk m) (JC l C q m s h o<|Jm (eh.2 ⟨n7,λi hi=>(Ev (ok:=ok) (P:=P) ids i hi).x8⟩) g) [] a (aq c::mJ ids) (aq c::k) rfl ⟨[aq c],F0,rfl,rfl⟩ F0).jh ?_;rintro B n⟨l1,rfl,e,t,f,rfl,v,D⟩;grind
def aml(B:Fits ok P)(C:sw ok P){id:V}{ops:Z aK}{n:V}{tail:L V}{R:Act->W->U}(hcut:Eb (P.follows ee) ops n tail)(T:n<=ops)(hg:∀(i:V)o j r,i<n->ops[i]?=u o->o.guard=u (j,r)->j<n)(v:∀(i:V)o,i<n->ops[i]?=u o->qh ok P o)(D:∀a w s d,R a w->R a (w.re s d))(h:∀s d,(bP id (ops.extract 0 n) F).wp P (λe a w=>e=bC/\R a w) a<|wh.re s d)(hk:∀b k q g H,(∃fn,P.funcs[b.fn]?=u fn)->(∀id∈ids,∃M,aY id k=u M)->R g H->Reach ok P (b.at g (ax ops tail::k)::q) H (λG l=>∃e g f,G=f::q/\Q e g l/\CL b k e g f)):me ok P ids (bP id ops F) Q a wh:=by
 intro b k q J nX;refine Reach.H4 λK p=>?_;have m:te ok P<|bP id (ops.extract 0 n) F:=by intro o ho;obtain⟨i,hi,rfl⟩:=fE.1 ho;rw[gE];simp at hi;exact v i _ A F0
 refine(Reach.LY B C.mI q F0<|Jq (S6 (k:=k) hcut T hg D) (JC B C m (λe a w s d t=>⟨t.1,D _ _ _ _ t.2⟩) (λe a w t=>by rw[t.1];exact n7) h J<|Jm (eh.2 ⟨n7,λi hi=>(Ev (ok:=ok) (P:=P) [] i hi).x8⟩) p) [] a _ _ rfl .start F0).jU ?_;rintro G l⟨l1,rfl,g,rfl,X⟩;exact hk b k q g l J nX X
def agl(id:V)(c:aF)(k:L az):aY id (aq c::k)=aY id k:=rfl
def adE(id:V)(c:aF)(k:L az):aY id (eG c::k)=aY id k:=rfl
def CL.pass{b:ak}{i:az}{k:L az}(hi:∀id,aY id (i::k)=aY id k){e:dP}{a:Act}{f:ak}(l:e≠bC)(h:CL b (i::k) e a f):CL b k e a f:=by cases e with|normal=>grind|exit id=>let⟨g,j,d⟩:=h;exact⟨g,pC,d⟩|_=>exact h
def oj{b:ak}{a:Act}{it:az}{k:L az}(h:KX ok P it):wH ok P [b.at a<|it::k]:=λ_ d f e=>by cases e;exact h
def qx(l:Fits ok P)(B:qa ok P)(h:me ok P ids x (Exit.then (me ok P ids y Q) Q) a wh):me ok P ids (aE x y) Q a wh:=by intro b k g j hk;refine Reach.sI l B rfl (oj n7) ?_;refine(h b (aq y::k) g j hk).jU λp n⟨e,m,f,o,d,i⟩=>?_;subst o;cases e with|normal=>cases i;exact d b k g j hk|_=>exact .vn ⟨_,m,f,rfl,d,i.pass (agl · y k) F0⟩
def qH(e:Fits ok P)(B:qa ok P){o:dy}(d:mV ok o){t:I}(i:a.eval o=t)(h:me ok P ids (if t then x else y) Q a wh):me ok P ids (dJ o x y) Q a wh:=by
 intro b k f g hk;refine Reach.sI e B ?_ (oj d)<|h b k f g hk;have:(b.at a<|aq (dJ o x y)::k).eval o=t:=by rwa[iF]
 simp[jV,Frame.at]at this⊢;rw[this]
def Ae(n:Fits ok P)(B:qa ok P){id:V}(h:me ok P (id::ids) x (gQ id Q) a wh):me ok P ids (cV id x) Q a wh:=by
 intro b k q r hk;refine Reach.sI n B rfl (oj n7) ?_;have d:∀i∈id::ids,∃j,aY i (dG id::k)=u j:=by intro i hi;by_cases e:id=i;(.subst e;exact⟨k,by simp[aY]⟩);.obtain rfl|hi:=List.mem_cons.1 hi;(.omega);.let⟨j,d⟩:=hk i hi;exact⟨j,by simp[aY,e,d]⟩
 refine(h b (dG id::k) q r d).jU λs o⟨e,l,f,p,g,m⟩=>?_;subst p;cases e with|normal=>cases m;exact Reach.sI n B rfl (oj n7)<|.vn ⟨bC,l,_,rfl,g,rfl⟩|exit i=>obtain⟨j,e1,rfl⟩:=m;by_cases e:i=id;(.subst e;simp[aY,beq_self_eq_true,DE,fA]at e1;subst e1;simp[gQ,DE]at g;exact .vn ⟨bC,l,_,rfl,g,rfl⟩);.simp[aY,(by grind:(id==i)=z),eY,DP]at e1;simp[gQ,e,DP]at g;exact .vn ⟨eZ i,l,_,rfl,g,j,e1,rfl⟩|ret=>exact .vn ⟨dQ,l,f,rfl,g,m⟩|_=>exact m.elim
def Ii(q:Fits ok P)(B:qa ok P)(h:Act->W->U)(j:Act->W->V)(s:h a wh)(round:∀a w,h a w->me ok P ids x (Exit.then (λd o=>h d o/\j d o<j a w) Q) a w):me ok P ids (dR x) Q a wh:=by
 intro b k l C hk;have key:∀n a w,j a w=n->h a w->Reach ok P (b.at a (aq x::eG x::k)::l) w (λp g=>∃e d f,p=f::l/\Q e d g/\CL b k e d f):=by intro n;induction n using gd with|_ n D=>intro a w r v;refine(round a w v b (eG x::k) l C hk).jU λp g⟨e,d,f,t,i,m⟩=>?_;subst t;cases e with|normal=>cases m;exact Reach.sI q B rfl (oj n7)<|D _ (r▸i.2) d g rfl i.1|_=>exact .vn ⟨_,d,f,rfl,i,m.pass (adE · x k) F0⟩
 exact Reach.sI q B rfl (oj n7)<|key _ a wh rfl s
def ahH(d:Fits ok P)(B:qa ok P)(h:Q bC a wh):me ok P ids dH Q a wh:=λb k e _ hk=>Reach.sI d B rfl (oj n7)<|.vn ⟨bC,a,_,rfl,h,rfl⟩
def Hq(d:Fits ok P)(B:qa ok P)(h:Q dQ a wh):me ok P ids dS Q a wh:=λb k e _ hk=>Reach.sI d B rfl (oj n7)<|.vn ⟨dQ,a,_,rfl,h,_,rfl⟩
def TC(l:Fits ok P)(B:qa ok P){id:V}{ops:Z aK}(h:∀b k d,(∃fn,P.funcs[b.fn]?=u fn)->(∀id∈ids,∃j,aY id k=u j)->Reach ok P (b.at a (ax ops (dB ops)::k)::d) wh (λm g=>∃e i f,m=f::d/\Q e i g/\CL b k e i f)):me ok P ids (bP id ops z) Q a wh:=λb k d n hk=>Reach.sI l B rfl (oj n7)<|h b k d n hk
end
def nO(ok:jO)(P:bD)(f:fH)(b:Z O)(wh:W)(R:O->W->U):U:=∀e,Reach ok P (cG P f b cU::e) wh λg d=>∃fr v,g=fr::e/\fr.fn=f/\fr.leaving P d (aD v)/\R v d
def air{fr:ak}{w j:W}{v:O}(hs:∃T,jW ok ρ fr.tmps T)(e:lF ok ρ w j)(h:fr.leaving P w<|aD v)(b:V->dF->V)(d:V):fr.leaving P (w.re b d)<|aD v:=by let⟨m,p,o,fn,k,g⟩:=h;refine⟨m,p,o,fn,k,?_⟩;let⟨T,n⟩:=hs;cases f:(dZ fn fr.tmps).runT P (w.re w.tape w.drawn) #[]with|mk r q=>have e1:=C7 iG f;rw[Sem.runT_fst,Oq,g]at e1;simp at e1;subst e1;let⟨k1,k2,k3⟩:=(Mt (P:=P) (dZ fn fr.tmps) (Sg e.inj fn n) e w.tape w.drawn #[]) _ _ f;let⟨l,k4,_⟩:=k3 b d (λi hi=>A) #[];simp_all
def aeu{fr:ak}{f:L ak}{w:W}{v:O}(hs:yc ok P (fr::f) w)(h:fr.leaving P w<|aD v)(b:V->dF->V)(d:V):fr.leaving P (w.re b d)<|aD v:=by let⟨ρ,la,i,e,g,j⟩:=hs;exact air (by cases e with|cons h _ _=>exact⟨_,h.sj⟩) g h b d
def Reach.leave(i:Fits ok P)(B:qa ok P){fr c:ak}{f:L ak}{wh:W}{v:O}(h:fr.leaving P wh<|aD v)(hk:Reach ok P (c.finish v::f) wh S):Reach ok P (fr::c::f) wh S:=by refine Reach.H4 λn b=>?_;refine Reach.jV i B (l:=[fr,c]) (l1:=[c.finish v]) F0 (λg=>by rw[h.1]at g;cases g) (λe d=>?_) hk;let⟨s,q,o,fn,p,k⟩:=aeu b h e d;cases m:(dZ fn fr.tmps).runT P (wh.re e d) #[]with|mk r j=>have e1:=C7 iG m;rw[Sem.runT_fst,k]at e1;simp at e1;subst e1;refine⟨e,d,j,?_⟩;unfold Rel.jV;simp_all
def nO.CK(o:Fits ok P)(B:qa ok P){f:fH}{fn:Func}{c:aF}{b:Z O}{wh:W}{R:O->W->U}(i:P.funcs[f]?=u fn)(p:fn.body=u c)(h:me ok P [] c (λe a w=>(e=bC\/e=dQ)/\(a.defers=[]->∃v,(dZ fn a.tmps).run P w=.ok v w/\R v w)) ⟨b++du (fn.ntmps-b) ai,[]⟩ wh):nO ok P f b wh R:=by
 intro r;have e:cG P f b cU=(cG P f b cU).at ⟨b++du (fn.ntmps-b) ai,[]⟩ [aq c]:=by simp[cG,Frame.at,i,p]
 rw[e];refine(h (cG P f b cU) [] r ⟨fn,i⟩ F0).jU λG q⟨ex,D,fr,C,t,m⟩=>?_;subst C;refine Reach.H4 λg j=>?_;let⟨s,d⟩:=t;obtain rfl|rfl:=s;.cases m;let⟨p1,l⟩:=g _<|iH ..;let⟨v,r1,r2⟩:=d p1;refine Reach.sI o B rfl (λ_ it k e=>by cases e)<|.vn ⟨_,v,rfl,rfl,⟨rfl,p1,l,fn,i,r1⟩,r2⟩
 .obtain⟨n,rfl⟩:=m;let⟨p1,l⟩:=g _<|iH ..;let⟨v,r1,r2⟩:=d p1;exact .vn ⟨_,v,rfl,rfl,⟨rfl,p1,l,fn,i,r1⟩,r2⟩
section
variable{b:ak}{a:Act}{ops:Z aK}{i:V}{rest:L V}{k:L az}{cs:L ak}{wh:W}{o:aK}
def Reach.call(j:Fits ok P)(B:qa ok P){f:fH}{e:Z O}{R:O->W->U}(m:ops[i]?=u o)(q:qh ok P o\/Pv ok P o)(t:cT o (eF ops a.tmps)=F)(G:∀g d,(bE a.eval o).runT P (wh.re g d) #[]=(.ok (.enter f e)<|wh.re g d,#[]))(p:nO ok P f e wh R)(hk:∀v w,R v w->Reach ok P (b.at (a.put o.dst v) (ax ops rest::k)::cs) w S):Reach ok P (b.at a (ax ops (i::rest)::k)::cs) wh S:=by
 refine Reach.jV j B (l:=[b.at a<|ax ops (i::rest)::k]) (l1:=[cG P f e cU,b.at a<|ax ops (i::rest)::k]) (wh1:=wh) F0 (oj λC H=>pC) (λg d=>⟨g,d,#[],?_⟩) ?_;.rw[MK,m];simp_all
 .refine(p<|b.at a (ax ops (i::rest)::k)::cs).jU λD h⟨fr,v,n,_,s,r⟩=>?_;subst n;apply Reach.leave j B s;rw[gG,m];exact hk v h r
def Reach.op(n:Fits ok P)(B:qa ok P)(p:ops[i]?=u o)(q:qh ok P o)(s:cT o (eF ops a.tmps)=F){v:O}{g:W}(r:∀j d,∃f h m,(bE a.eval o).runT P (wh.re j d) #[]=(.ok (.value v)<|g.re f h,m))(hk:Reach ok P (b.at (a.put o.dst v) (ax ops rest::k)::cs) g S):Reach ok P (b.at a (ax ops (i::rest)::k)::cs) wh S:=by refine Reach.jV n B (l:=[b.at a<|ax ops (i::rest)::k]) (l1:=[b.at (a.put o.dst v)<|ax ops rest::k]) F0 (oj λt w=>pC) (λj d=>?_) hk;let⟨f,h,m,e⟩:=r j d;refine⟨f,h,m,?_⟩;rw[MK,p];simp_all
def Reach.Av(d:Fits ok P)(B:qa ok P)(hk:Reach ok P (b.at a k::cs) wh S):Reach ok P (b.at a (ax ops []::k)::cs) wh S:=Reach.sI d B rfl (oj n7) hk
end
def nO.jh{f:fH}{d:Z O}{wh:W}{R e:O->W->U}(h:nO ok P f d wh R)(n:∀v w,R v w->e v w):nO ok P f d wh e:=λcs=>(h cs).jh λq l⟨fr,v,m,p,g,j⟩=>⟨fr,v,m,p,g,n _ _ j⟩
end
section
open Go.Conc Go.ConcN
variable{ok ok1 ok2:jO}{ρ ρ1 ρ2:jG}{P:bD}
def QZ(ok:jO):U:=∀n,¬IS (ok.vK n)
structure AM(ok ok1:jO):U where
 fn:∀f,ok.fn f↔ok1.fn f
 nX:¬ok.nX/\¬ok1.nX
 gs:ok.gs=ok1.gs
 mG:ok.mG=ok1.mG
 Be:QZ ok
mutual theorem jC.qz(K:AM ok ok1)(hl:ρ.le ρ1):∀{v v':O},jC ok ρ v v'->jC ok1 ρ1 v v'|_,_,.bool b=>.bool b|_,_,.int k n=>.int k n|_,_,.string s=>.string s|_,_,.su=>.su|_,_,.ptr h=>.ptr (h.jh hl)|_,_,.qd n c=>.qd n c|_,_,.slice h n c=>.slice (h.jh hl) n c|_,_,.dead a=>.dead a|_,_,.sF=>.sF|_,_,.map h=>.map (hl _ _ h)|_,_,.func hf hx hy=>.func ((K.fn _).1 hf) (kH.qz K hl hx) (kH.qz K hl hy)|_,_,.mj h=>.mj h|_,_,.nilIface=>.nilIface|_,_,.agg hx=>.agg (kH.qz K hl hx)|_,_,.tuple hx=>.tuple (kH.qz K hl hx)|_,_,.uF hh r=>zW hh K.nX.1|_,_,.iface t h hn=>.iface t h (by rwa[<-K.mG])|_,_,.tag n et e h=>zW (by rwa[e]) (K.Be n)theorem kH.qz(K:AM ok ok1)(hl:ρ.le ρ1):∀{v v':L O},kH ok ρ v v'->kH ok1 ρ1 v v'|_,_,.nil=>.nil|_,_,.cons h hs=>.cons (jC.qz K hl h) (kH.qz K hl hs)end
def aiq(c:QZ ok){t:aT}{d v a:O}(g:t=ok.mG)(e:v=de t d)(h:jC ok ρ v a):False:=by cases h with|iface t h b=>grind|tag n i f h=>exact c n (by rwa[f])|_=>cases e
def nN.qz(K:AM ok ok1)(a:ρ.le ρ1){x b:L MapEntry}(h:nN ok ρ x b):nN ok1 ρ1 x b:=by induction h with|nil=>exact .nil|cons h _ c=>exact .cons ⟨h.lX.qz K a,h.nk.qz K a,h.ID⟩ c
def lT.sq(f:ρ.le ρ1)(g:∀{a b d},ρ1 a b->ρ1 a d->b=d){a i c:aH}(e:lT ρ1 a c)(h:lT ρ a i):lT ρ a c:=by have:=g (f _ _ h.1) e.1;exact⟨this▸h.1,e.2⟩
mutual theorem jC.sq(K:AM ok ok1)(hl:ρ.le ρ1)(hf:∀{a b b'},ρ1 a b->ρ1 a b'->b=b'):∀{v v'' v':O},jC ok1 ρ1 v v''->jC ok ρ v v'->jC ok ρ v v''|_,_,_,.bool b,_=>.bool b|_,_,_,.int k n,_=>.int k n|_,_,_,.string s,_=>.string s|_,_,_,.su,_=>.su|_,_,_,.ptr h1,.ptr h=>.ptr (h1.sq hl hf h)|_,_,_,.qd n c,_=>.qd n c|_,_,_,.slice h1 n c,.slice h _ _=>.slice (h1.sq hl hf h) n c|_,_,_,.slice h1 _ _,.dead _=>.dead _|_,_,_,.dead a,_=>.dead a|_,_,_,.sF,_=>.sF|_,_,_,.map h1,.map h=>.map (by have:=hf (hl _ _ h) h1;exact this▸h)|_,_,_,.map h1,.uF hh _=>zW hh K.nX.1|_,_,_,.func f1 hx hy,.func hf' hx' hy'=>.func hf' (kH.sq K hl hf hx hx') (kH.sq K hl hf hy hy')|_,_,_,.mj h,_=>.mj h|_,_,_,.nilIface,_=>.nilIface|_,_,_,.agg hx,.agg hx'=>.agg (kH.sq K hl hf hx hx')|_,_,_,.tuple hx,.tuple hx'=>.tuple (kH.sq K hl hf hx hx')|_,_,_,.uF hh r,_=>zW hh K.nX.2|_,_,_,.iface t h hn,_=>.iface t h (by rwa[K.mG])|_,_,_,.tag n et e h,h2=>(aiq K.Be (bu et K.mG.symm) rfl h2).elim theorem kH.sq(K:AM ok ok1)(hl:ρ.le ρ1)(hf:∀{a b b'},ρ1 a b->ρ1 a b'->b=b'):∀{v v'' v':L O},kH ok1 ρ1 v v''->kH ok ρ v v'->kH ok ρ v v''|_,_,_,.nil,_=>.nil|_,_,_,.cons h hs,.cons h' hs'=>.cons (jC.sq K hl hf h h') (kH.sq K hl hf hs hs')end
def nN.sq(K:AM ok ok1)(e:ρ.le ρ1)(i:∀{a b g},ρ1 a b->ρ1 a g->b=g){x c f:L MapEntry}(d:nN ok1 ρ1 x c)(h:nN ok ρ x f):nN ok ρ x c:=by induction d generalizing f with|nil=>exact .nil|cons d _ j=>cases h with|cons h hs=>exact .cons ⟨d.lX.sq K e i h.lX,d.nk.sq K e i h.nk,d.ID⟩<|j hs
def qN.sq(K:AM ok ok1)(i:ρ.le ρ1)(j:∀{a b k},ρ1 a b->ρ1 a k->b=k){o e n:Obj}(m:qN ok1 ρ1 o e)(h:qN ok ρ o n):qN ok ρ o e:=by cases m with|cells f t fr=>(cases h with|cells d _ _=>exact .cells (kH.sq K i j f d) t fr)|map f c=>(cases h with|map d _=>exact .map (f.sq K i j d) c)|number p l=>cases h with|number g _=>exact .number (p.sq i j g) l
def qN.qz(K:AM ok ok1)(a:ρ.le ρ1){o d:Obj}(h:qN ok ρ o d):qN ok1 ρ1 o d:=by cases h with|cells b t fr=>exact .cells (kH.qz K a b) t fr|map b c=>exact .map (b.qz K a) c|number e l=>exact .number (e.jh a) l
end
section
open Go.Conc Go.ConcN
variable{ok ok1 ok2:jO}{ρ ρ1 ρ2:jG}{P:bD}
mutual def oO(K:V->I):O->O|ae (u a)=>if K a.block then ae a else cO|ah (u a) n c=>if K a.block then ah a n c else cO|cf (u r)=>if K r then cf r else cO|bJ ⟨x⟩=>bJ ⟨CM K x⟩|dg ⟨x⟩=>dg ⟨CM K x⟩|dK _ _ _=>cO|aZ b=>b|ar k n=>ar k n|fI s=>fI s|ae N=>ae N|ah N n c=>ah N n c|cf N=>cf N|cO=>cO|fa=>fa|de t v=>de t v|.chan c=>.chan c|gR k n=>gR k n|gS k a b=>gS k a b def CM(K:V->I):L O->L O|[]=>[]|v::vs=>oO K v::CM K vs end
def jG.on(K:V->I)(ρ:jG):jG:=λb a=>K b=F/\ρ b a
mutual theorem aiC(K:V->I)(ht:ok.vK=ok2.vK)(hy:ok.mG=ok2.mG)(hh:¬ok.nX):∀{v v':O},jC ok ρ v v'->jC ok2 (ρ.on K) (oO K v) v'|_,_,.bool b=>by rw[oO];exact .bool b|_,_,.int k n=>by rw[oO];exact .int k n|_,_,.string s=>by rw[oO];exact .string s|_,_,.su=>by rw[oO];exact .su|_,_,.ptr h=>by rw[oO];split;(.exact .ptr ⟨⟨by assumption,h.1⟩,h.2⟩);.exact .mj n7|_,_,.qd n c=>by rw[oO];exact .qd n c|_,_,.slice h n c=>by rw[oO];split;(.exact .slice ⟨⟨by assumption,h.1⟩,h.2⟩ n c);.exact .mj n7|_,_,.dead a=>by rw[oO];split;(.exact .dead a);.exact .mj n7|_,_,.sF=>by rw[oO];exact .sF|_,_,.map h=>by rw[oO];split;(.exact .map ⟨by assumption,h⟩);.exact .mj n7|_,_,.func hf hx hy=>by rw[oO];exact .mj n7|_,_,.mj h=>by rw[oO];exact .mj h|_,_,.nilIface=>by rw[oO];exact .nilIface|_,_,.agg hx=>by rw[oO];exact .agg<|JP K ht hy hh hx|_,_,.tuple hx=>by rw[oO];exact .tuple<|JP K ht hy hh hx|_,_,.uF h r=>zW h hh|_,_,.iface t h hn=>by rw[oO];exact .iface t h pC|_,_,.tag n et e h=>by rw[oO];exact .tag n (bu et hy) pC h theorem JP(K:V->I)(ht:ok.vK=ok2.vK)(hy:ok.mG=ok2.mG)(hh:¬ok.nX):∀{v v':L O},kH ok ρ v v'->kH ok2 (ρ.on K) (CM K v) v'|_,_,.nil=>by rw[CM];exact .nil|_,_,.cons h hs=>by rw[CM];exact .cons (aiC K ht hy hh h)<|JP K ht hy hh hs end
def aha(K:V->I)(x:L O):CM K x=x.map (oO K):=by induction x with|nil=>rw[CM];rfl|cons v vs a=>rw[CM,a];rfl
def rY(wh:W)(b:V):I:=match wh.heap[b]? with|u (ao ..)=>F|_=>z
def IX{wh:W}{b:V}:rY wh b=F↔∃x t f,wh.heap[b]?=u (ao x t f):=by unfold rY;grind
def Fo:Obj->Obj|ao x t fr=>ao x t (0,max x.size fr.2+1)|o=>o
def EL(K:V->I):Obj->Obj|ao x t fr=>ao (x.map<|oO K) t (0,max x.size fr.2+1)|o=>o
def zv(wh:W)(x0:Z O)(t0:aT):W:={wh with heap:=wh.heap.mapIdx λb o=>if b=0 then ao x0 t0 (0,x0.size+1)else EL (rY wh) o}
def D6(wh:W)(x0:Z O)(t0:aT)(b:V):(zv wh x0 t0).heap[b]?=(wh.heap[b]?).map λo=>if b=0 then ao x0 t0 (0,x0.size+1)else EL (rY wh) o:=by simp[zv]
def UW(wh:W)(x0:Z O)(t0:aT):(zv wh x0 t0)=wh.heap.size:=by simp[zv]
def YI{wh:W}{x0:Z O}{t0:aT}{b:V}(h:rY wh b=F):nI (zv wh x0 t0) b:=by
 let⟨x,t,f,e⟩:=IX.1 h;by_cases a:b=0;.subst a;exact⟨x0,t0,x0.size+1,by rw[D6,e];rfl,fJ _⟩
 .exact⟨_,t,_,by rw[D6,e];simp[a,EL];exact⟨rfl,rfl⟩,pC⟩
def amy{n:V}{a:V×V}(h:a.2<=n):Cl (0,n+1) a:=⟨λi _ b=>⟨Nat.zero_le _,A⟩,λe=>by simp at e⟩
def afm{wh w:W}(h:lF ok ρ wh w)(v:ok.vK=ok2.vK)(H:ok.mG=ok2.mG)(n:¬ok.nX/\¬ok2.nX)(j:ok.gs=ok2.gs)(l:ok.lS=ok2.lS)(g:0<ok.gs){x0:Z O}{t0:aT}{c:V×V}(s:w.heap[0]?=u (ao x0 t0 c))(k:c.2<=x0)(r:jW ok2 (ρ.on<|rY wh) x0 x0):lF ok2 (ρ.on<|rY wh) (zv wh x0 t0) w:=by
 refine⟨⟨λa b=>h.inj.fn a.2 b.2,λa b=>h.inj.inj a.2 b.2,λa b=>h.inj.n9 a.2<|by rwa[j]⟩,⟨by rw[UW,<-j];exact h.gs.1,by rw[<-j];exact h.gs.2⟩,λx=>zW x n.2,?_,by rw[<-l];exact h.kD⟩;rintro b C⟨y,q⟩;let⟨o,M,e1,e2,e3⟩:=h.nU q;by_cases d:b=0;.subst d;obtain rfl:0=C:=h.inj.n9 q<|aA g;refine⟨_,_,by rw[D6,e1];rfl,s,.cells r t0<|amy k⟩
 .let⟨x,t,f,p⟩:=IX.1 y;rw[e1]at p;cases p;cases e3 with|@cells _ K m _ _ G D=>refine⟨ao (x.map<|oO<|rY wh) t (0,max x.size f.2+1),_,by rw[D6,e1];simp[d,EL],e2,.cells ?_ t ?_⟩;(.have:=JP (rY wh) v H n.1 m;rw[aha]at this;unfold jW;simpa using this);.refine⟨λi B J=>?_,λe=>by simp at e⟩;have:=D.Ot i B J;omega
end
section
open Go.Conc Go.ConcN
def Wm{P:bD}(g o:V)(t:aT):∀(vs:L O)(i:V)(a:Z O)(w:W)(j:Z fK),w.heap[g]?=u (ao a t)->o+i+vs<=a.size->(∀v∈vs,v.oneCell'=F)->∃f c d,(storeCells (g o N) vs i).runT P w j=(.ok () f,j++d)/\(f=w.heap.size/\f.os=w.os/\f.output=w.output)/\(∀b,b≠g->f.heap[b]?=w.heap[b]?)/\f.heap[g]?=u (ao c t)/\c=a.size/\(∀k,k<vs.length->c[o+i+k]?=vs[k]?)/\(∀k,(k<o+i\/o+i+vs<=k)->c[k]?=a[k]?)/\∀e∈d,∃k,i<=k/\k<i+vs/\e=⟨.cell<|g (o+k) N,F,z⟩|[],i,a,w,j,l,s,n=>⟨w,a,#[],by simp[storeCells],⟨rfl,rfl,rfl⟩,λ_ _=>rfl,l,rfl,λk hk=>zW hk F0,λ_ _=>rfl,F0⟩|v::rest,i,a,w,j,l,s,n=>by(have hi:o+i<a:=by simp at s;omega);have q:=n v F0;have h:=setCell_eq_setRow w g (o+i) a t (0,0) v l;(have m:(store (((g o N):aH).add i) v).runT P w j=(.ok ()<|w.setRow g<|bI a (o+i) v,j.push ⟨.cell<|g (o+i) N,F,z⟩):=by rw[(by unfold Addr.add;simp:((g o N):aH).add i=(g (o+i) N)),<-h];unfold store;cases v with|agg _=>simp[fN]at q|tuple _=>simp[fN]at q|_=>simp[Sem.runT,(by simp[aj,l,hi]:w.cell? (g (o+i) N)=u a[o+i]),(by simp[fi,l]:w.frozen? (g (o+i) N)=z)];rfl);have p:=gj w (g (o+i) N) v;rw[h]at p;obtain⟨f,c,d,k1,k2,k3,k4,k5,k6,C,D⟩:=Wm g o t rest (i+1) (bI a (o+i) v) (w.setRow g<|bI a (o+i) v) (j.push ⟨.cell<|g (o+i) N,F,z⟩) (setRow_heap w g a _ t _ l) pC λx y=>n x (by simp[y]);refine⟨f,c,#[⟨.cell<|g (o+i) N,F,z⟩]++d,?_,⟨bu k2.1 p.size,k2.2.1,k2.2.2⟩,λb r=>bu (k3 b r)<|p.block b r,k4,by simpa using k5,λk hk=>?_,λk hk=>?_,λe B=>?_⟩;(.show(store (((g o N):aH).add i) v>>=λ_=>storeCells (g o N) rest (i+1)).runT P w j=_;rw[sK,m];simp only;rw[k1];simp);(.grind);(.grind);grind
end
end Go.Rel
namespace Go.Proofs.YtldeiiffabfmeaaGreatDoor
section
open Go.Conc Go.ConcN Go.RowKit Go.Conc.Lib Go.ConcR.Gen Go.ConcN.Gen Go.Rel
open Go.ConcR(KK wgBlock WgAt stA smA rd wr mk Payload DC0 ofEvent_cell)
def EZ:ak:=base 131
def W8(a:jO)(n:V)(RS:V->Z O->W->U)(i:V)(l:L ak)(wh:W):U:=∃(T:Z O)(x:Z O),l=[EZ.at ⟨T,[]⟩ [ax ti [25,26]]]/\T.size=31/\T[5]?=u (de a.mG (1:V))/\T[6]?=u (ar au i)/\T[29]?=u (bJ x)/\x.size=6/\(∀v∈x,v.oneCell'=F)/\i<n/\RS i x wh
def agL(a:jO)(n:V)(RS:V->Z O->W->U)(i:V)(b:Gh)(row:V->n6 O):U:=∃(x c:Z O),x.size=6/\RS i x b.wh/\jW a b.ρ x c/\i<n/\∀k,k<6->row (6*i+k)=c[k]?
noncomputable def Ar(Wg C R n n0 N0 N1:V)(w1:W)(b:V->U)(c:Loc->U)(a:jO)(RS:V->Z O->W->U):pP where
 ty:=224;Wg:=Wg;C:=C;R:=R;U4:=202;Xa:=6*n;nk:=ah R n n;n0:=n0;N0:=N0;N1:=N1;w1:=w1;Ew:=b;tG:=c;ok:=a;nJ:=[yd];qS:=[Fb Wg];rm:=.deferred;S:=W8 a n RS;lo:=λi=>6*i;hi:=λi=>6*i+6;AF:=agL a n RS
noncomputable def FH:aK:=ti[25]?.getD default
noncomputable def Ef:aK:=ti[26]?.getD default
def KR:ti[25]?=u FH/\FH.op=.indexAddr 198 (bj 5) (bj 6)/\FH.dst=u 30/\FH.guard=N:=⟨rfl,rfl,rfl,rfl⟩
def Me:ti[26]?=u Ef/\Ef.op=.store 202 (bj 30) (bj 29)/\Ef.dst=N/\Ef.guard=N:=⟨rfl,rfl,rfl,rfl⟩
def amb:(Tryz.prog.funcs[131]?).any (·.norace)=z:=vI
section
variable{T:Z O}{D:L fg}{i n R:V}{k:L az}{cs:L ak}{w:W}
def XX(c:T[5]?=u (ah R n n))(f:T[6]?=u (ar au i))(hi:i<n):bZ E z (G (zh.at ⟨T,D⟩<|ax ti [25,26]::k) cs) w=.go (G (zh.at ⟨bI T 30<|ae<|R (6*i) N,D⟩<|ax ti [26]::k) cs) w #[]:=by
 have e5:(⟨T,D⟩:Act).eval (bj 5)=ah R n n:=by simp[bU,bO,c]
 have e6:(⟨T,D⟩:Act).eval (bj 6)=i:=by simp[bU,bO,f]
 have b:(i)<(n):=A
 have a:(0)<=(i):=A
 have d:(bE (⟨T,D⟩:Act).eval FH).run E w=.ok (.value<|ae<|R (6*i) N) w:=by unfold bE;simp[KR.2.1,e5,e6];simp[go_sem,b,a]<;>omega
 have e:(bE (⟨T,D⟩:Act).eval FH).events E w #[]=#[]:=by unfold bE;simp[KR.2.1,e5,e6];simp[go_sem,b,a]
 rw[gY KR.1 (by simp[cT,KR.2.2.2]) E1 d];unfold listed;rw[e,fP];rfl
def Zj{x:Z O}{c:Z O}(l:T[30]?=u (ae<|R (6*i) N))(m:T[29]?=u (bJ x))(o:x.size=6)(s:∀v∈x,v.oneCell'=F)(B:w.heap[R]?=u (ao c 202))(H:c=6*n)(hi:i<n):∃d a g,bZ E z (G (zh.at ⟨T,D⟩<|ax ti [26]::k) cs) w=.go (G (zh.at ⟨T,D⟩<|ax ti []::k) cs) d g/\(d=w.heap.size/\d.os=w.os/\d.output=w.output)/\(∀b,b≠R->d.heap[b]?=w.heap[b]?)/\d.heap[R]?=u (ao a 202)/\a=c.size/\(∀k,k<6->a[6*i+k]?=x[k]?)/\(∀k,(k<6*i\/6*i+6<=k)->a[k]?=c[k]?)/\∀e∈g,∃k,k<6/\e=⟨.cell<|R (6*i+k) N,F,z⟩:=by
 have j:(⟨T,D⟩:Act).eval (bj 29)=bJ x:=by simp[bU,bO,m]
 obtain⟨d,a,g,k1,k2,k3,k4,k5,k6,t,C⟩:=Wm R (6*i) 202 x.toList 0 c w #[] B (by simp[o];omega) λv q=>s v (by simpa using q);have r:(bE (⟨T,D⟩:Act).eval Ef).runT E w #[]=(.ok .skip d,g):=by unfold bE;simp only[Me.2.1,(by simp[bU,bO,l]:(⟨T,D⟩:Act).eval (.tmp 30)=.pointer (R (6*i) N)),j];(have hs:(Instr.storeAt 202 (ae<|R (6*i) N)<|bJ x).runT E w #[]=(.ok () d,g):=by(have J:(sizeOf 202).events E w #[]=#[]:=by simp[go_sem]);show(storeVar 202 (R (6*i) N)<|bJ x).runT E w #[]=_;unfold storeVar;rw[sK,(by simp:(sizeOf 202).runT E w #[]=(.ok 6 w,#[]))];simp only[Value.cells,o,ne_eq,not_true_eq_false,DP];rw[k1];simp);simp_all
 have y:(bE (⟨T,D⟩:Act).eval Ef).events E w #[]=g:=C7 eJ r;refine⟨d,a,g,?_,k2,k3,k4,k5,λk hk=>pC,λk hk=>t k pC,λe h=>?_⟩;.rw[stepG_none Me.1 (by simp[cT,Me.2.2.2]) E1 (by simp_all:(bE (⟨T,D⟩:Act).eval Ef).run E w=.ok .skip d)];unfold listed;have p:seen E zh.fn g=g:=seen_eq amb (λe h f=>pC);rw[y,p,Me.2.2.1];rfl
 grind
end
end
section
open Go.Conc Go.ConcN Go.RowKit Go.Conc.Lib Go.ConcR.Gen Go.ConcN.Gen Go.Rel
open Go.ConcR(KK wgBlock WgAt stA smA rd wr mk Payload DC0 ofEvent_cell)
variable{Wg C R n n0 N0 N1:V}{w1:W}{Still:V->U}{Old:Loc->U}{okW:jO}{RS:V->Z O->W->U}
def Mn{ok:jO}{ρ:jG}{k:V}{a:O}(h:jC ok ρ (de ok.mG k) a):a=ok.vK k:=by generalize b:(de ok.mG k)=v at h;cases h with|iface t h c=>grind|tag m d e h=>grind|_=>cases b
def alX{ok:jO}{ρ:jG}{k:IntKind}{m:Y}{a:O}(h:jC ok ρ (ar k m) a):a=ar k m:=by cases h;rfl
def ahr{ok:jO}{ρ:jG}{x:Z O}{a:O}(h:jC ok ρ (bJ x) a):∃b,a=bJ b/\jW ok ρ x b:=by let⟨x⟩:=x;cases h with|agg c=>exact⟨_,rfl,c⟩
def amP{ok:jO}{ρ:jG}{v a:O}(h:jC ok ρ v a)(b:v.oneCell'=F):a.oneCell'=F:=by cases h with|agg=>simp[fN]at b|tuple=>simp[fN]at b|mj h=>(cases‹O›<;>first|exact h.elim|rfl)|tag _ _ _ h=>(cases‹O›<;>first|exact h.elim|rfl)|_=>rfl
def TV{P:bD}{f:I}{R j:W->W->U}{D p:W->W->Z fK->U}{S k:bK->W->U}(i:∀a b,j a b->R a b)(l:∀a b o,D a b o->p a b o)(hS:∀g w c,S g c->j w c->k g c):∀m g w,bQ P f R D S m g w->bQ P f j p k m g w|0,g,w,h=>λc e=>hS g w c (h c<|i _ _ e) e|m+1,g,w,h=>by obtain h|⟨hs,h⟩:=h;(.exact aA λc e=>hS g w c (h c<|i _ _ e) e);.refine aJ ⟨hs,λc e=>?_⟩;have:=h c<|i _ _ e;revert this;cases bZ P f g c<;>simp only[GStep.goes,imp_self];exactλ⟨d,x⟩=>⟨l _ _ _ d,TV i l hS m _ _ x⟩
def M9{P:bD}{e:I}{R k:W->W->U}{p:W->W->Z fK->U}{S l:bK->W->U}{f:W->U}(i:∀a b,k a b->R a b)(j:∀a b,k a b->f a->f b)(o:∀a,p a a #[])(hS:∀g w,S g w->f w->l g w):∀m g w,f w->bQ P e R DC0 S m g w->bQ P e k p l m g w|0,g,w,hi,h=>λc d=>hS g c (h c<|i _ _ d) (j _ _ d hi)|m+1,g,w,hi,h=>by obtain h|⟨hs,h⟩:=h;(.exact aA λc d=>hS g c (h c<|i _ _ d) (j _ _ d hi));.refine aJ ⟨hs,λc d=>?_⟩;have:=h c<|i _ _ d;revert this;cases bZ P e g c<;>simp only[GStep.goes,imp_self];exactλ⟨⟨e1,e2⟩,x⟩=>by subst e1 e2;exact⟨o _,M9 i j o hS m _ _ (j _ _ d hi) x⟩
def abj(al:okW.vK 1=ah R n n)(aG:R≠C)(aI:R≠Wg):Go.Rel.PN E<|Ar Wg C R n n0 N0 N1 w1 Still Old okW RS:=by intro i aW f bg w hS hL ad hW aw av M;let⟨T,x,hl,bf,h5,h6,a9,hx,X,hi,a8⟩:=hS;rw[hl]at hL;cases hL with|one S=>obtain⟨hd,hk⟩:f.defers=[Fb Wg]/\f.kind=.deferred:=ad;have hT:=S.sj;(have g5:f.tmps[5]?=u (ah R n n):=by rcases hT.get? 5 with⟨e,_⟩|⟨v,v',e1,e2,e3⟩;(.have:T[5]?=N:=e;grind);.have d:T[5]?=u v:=e1;rw[h5]at d;cases d;rw[e2,Mn e3];exact C7 u al);(have g6:f.tmps[6]?=u (ar au i):=by rcases hT.get? 6 with⟨e,_⟩|⟨v,v',e1,e2,e3⟩;(.have:T[6]?=N:=e;grind);.have d:T[6]?=u v:=e1;rw[h6]at d;cases d;rw[e2,alX e3]);(obtain⟨y,bd,P⟩:∃y,f.tmps[29]?=u (bJ y)/\jW okW aW.ρ x y:=by rcases hT.get? 29 with⟨e,_⟩|⟨v,v',e1,e2,e3⟩;(.have:T[29]?=N:=e;grind);.have d:T[29]?=u v:=e1;rw[a9]at d;cases d;obtain⟨y,rfl,aR⟩:=ahr e3;exact⟨y,e2,aR⟩);(have Q:∀v∈y,v.oneCell'=F:=by intro v hv;obtain⟨k,hk,rfl⟩:=fE.1 hv;rcases P.get? k with⟨_,e⟩|⟨be,u',e1,e2,e3⟩;(.grind);.rw[gA hk]at e2;cases e2;exact amP e3<|X be<|eX e1);(have a7:f.tmps.size=31:=by have:=hT.jB;rwa[<-this]);(have aL:f=zh.at ⟨f.tmps,[Fb Wg]⟩ [ax ti [25,26]]:=by have a1:=S.fn;have a2:=S.BY;have a3:=S.rv;have a4:=S.yp;let⟨fn,ba,bc,aC,bb,kind,round⟩:=f;simp[EZ,base,Frame.at]at a1 a2 a3 a4 hd hk;subst a1 a2 a3 a4 hd hk;rfl);rw[aL];let⟨ac,aS,aa⟩:=aw;(suffices key:∃m,∀c,xy (Ar Wg C R n n0 N0 N1 w1 Still Old okW RS) c->Nd (Ar Wg C R n n0 N0 N1 w1 Still Old okW RS) c->cN 224 Wg c->bQ E z (RT (Ar Wg C R n n0 N0 N1 w1 Still Old okW RS) i) (DT (Ar Wg C R n n0 N0 N1 w1 Still Old okW RS) i) (λg w=>AtR0 E 224 Wg C 1 0 1 (ah R n n) g w/\Out (Ar Wg C R n n0 N0 N1 w1 Still Old okW RS) i aW w) m (G (zh.at ⟨bI f.tmps 30<|ae<|R (6*i) N,[Fb Wg]⟩ [ax ti [26]]) [yd]) c by let⟨m,hm⟩:=key;refine⟨m+1,aJ ⟨rfl,λt s=>?_⟩⟩;show(bZ E z (G (zh.at ⟨f.tmps,[Fb Wg]⟩<|ax ti [25,26]::[])<|[]++[yd]) t).goes _;rw[show([]++[yd]:L ak)=[yd]from rfl,XX g5 g6 hi];refine⟨⟨rfl,λ_ _=>rfl,id,λ_ _=>rfl,F0,rfl,rfl⟩,hm t (s.jT ⟨ac,aS,aa⟩) (bu s.xI av)<|s.qq M⟩);refine⟨100,λc q p l=>aJ ⟨rfl,λB r=>?_⟩⟩;let⟨a0,K,an⟩:=r.jT q;have J:B.heap[R]?=u (ao a0 202):=K;let⟨H,am,es,q1,⟨q2,a5,aV⟩,q3,q4,q5,q6,q7,q8⟩:=Zj (D:=[Fb Wg]) (k:=[]) (cs:=[yd]) (by simp[a7]) (by grind:(f.tmps.setIfInBounds 30<|.pointer<|R (6*i) N)[29]?=u (.agg y)) (by rw[<-P.jB];exact hx) Q J an hi;rw[q1];(have aB:Out (Ar Wg C R n n0 N0 N1 w1 Still Old okW RS) i aW H:=by refine⟨x,y,hx,a8,P,hi,λk hk=>?_⟩;(have:(6*i<=6*i+k/\6*i+k<6*i+6):=A);show(if 6*i<=6*i+k/\6*i+k<6*i+6 then aj H (R (6*i+k) N)else N)=_;rw[rW this,<-q6 k hk];simp[aj,q4]);(have j:cN 224 Wg H:=by let⟨st,sm,hl⟩:=r.qq l;exact⟨st,sm,hl.of_block<|q3 Wg<|Ne.symm aI⟩);refine⟨⟨q2,q3,λ_=>⟨am,q4,bu q5 an⟩,λo ho=>?_,λe he=>?_,a5,aV⟩,?_⟩;(. (have a6:o<6*i\/6*i+6<=o:=by have:¬(6*i<=o/\o<6*i+6):=ho;omega);show aj H (R o N)=aj B (R o N);simp[aj,q4,J,q7 o a6]);(.obtain⟨k,hk,rfl⟩:=q8 e he;exact⟨6*i+k,F,rfl,by show 6*i<=_;omega,by show _<6*i+6;omega⟩);.have hK:cN Bo.tWg Wg H/\Has C (1-1) (ah R n n) H:=⟨j,by simp[Has,aj,(bu (q3 C<|Ne.symm aG)<|bu r.xI p:H.heap[C]?=u (ao #[ah R n n] Payload.ety))]⟩;apply M9 (λa b h=>h.rw) (λa b h ho=>h.kD ho) (λa=>⟨rfl,λ_ _=>rfl,id,λ_ _=>rfl,F0,rfl,rfl⟩) (λg w h ho=>⟨h,ho⟩) 99 _ H aB;u_c aM cx hK;u_c stepG_end cx hK;u_in cx hK;rw[stepG_unwind_enter rfl iJ (nm_done Bo) rfl];simp[goes_go];refine⟨by u_nil,?_⟩;walk_nrmf Tryz.f132;have hA:=@abC _ Bo E Wg C 1 0 1 (ah R n n) K5;simp only[body_done,doneFn,cD]at hA;exact Qx (n:=60) (hA rfl (abO _ _) _ hK)<|by omega|cons S hp hs=>cases hs
end
section
open Go.RowKit Go.Maps
def aeK(n K off b:V)(hn:n<=100000)(hs:V->I)(vl:V->Y)(w:W)(hc:aj w (K off N)=u (cf b))(ht:oA n w b hs vl):aN E 45 #[ae<|K off N] w λe w'=>∃v,e=aD v/\dk w' w 81 2 v (ku hs 100) (vf hs vl 100)/\cj w w w':=by
 let⟨i0,hi,B,y,C⟩:=ik Tryz.CP;let⟨X,a,M⟩:=ht;have D:=cJ _ _ hc;have G:=a.lt;have am:=a.size_le;go_enter Tryz.func45,Tryz.ntmps45;go_wp2_with(first|(at_len;apply wpList_len_own _ rfl _ 119 rfl 3 3 fp _ b n X rfl a)|(at_make;apply wpList_make_own _ rfl _ _ 26 rfl w 81 i0 (bJ #[ar au 0,ar au 0]) 2 il hi B y _ _ _ (Maps.size X) rfl rfl rfl (by rw[C];omega) (by unfold eK;omega) jK;intro w1 p h));have ac:=jQ.grown h jK (λk e=>by cases e);go_loopw[3,13](λv i wr=>∃k:V,k<=100/\i=k/\dk wr w 81 2 v (ku hs k) (vf hs vl k)/\cj w w wr)(λ_ i _=>100-(aU i).toNat);exact⟨0,j9,rfl,p,ac⟩;obtain⟨k,hk,rfl,g,d⟩:=hrel;have av:=wj hs k;have aa:=d.size;have al:aj wr (K off N)=u (cf b):=by rw[aQ d D];exact hc
 have f:wr.ownsMap E 3 (plainElem E 3) b n X:=by let⟨es,m,Q,S⟩:=a;exact⟨es,m,by rw[d.block b G];exact Q,S⟩
 by_cases J:k<100;.have l:=keyOf_int_mk ej<|B9 J;let⟨Q,S⟩:=M k J;cases x:hs k with|false=>have T:Hid<|_=_:=Sj (vl:=vl) x;have T2:Hid<|_=_:=AS x;have ad:=bu Q x;go_wp2_with(at_lookup;refine aoA _ rfl _ _ 119 rfl 3 3 au Bi fp ej (JW _) b n _ rfl f _ _ rfl l ?_;intro c q P);go_roundw;exact⟨k+1,A,pR,by rw[T.out,T2.out];exact g,d⟩;simp[aU];omega|true=>have T:Hid<|_=_:=Xo (vl:=vl) x;have T2:Hid<|_=_:=Dp x;have ad:=bu Q x;have H2:Hid<|_=_:=S x;go_wp2_with(first|(at_lookup;refine aoA _ rfl _ _ 119 rfl 3 3 au Bi fp ej (JW _) b n _ rfl f _ _ rfl l ?_;intro c q P;have R:c=vl k:=abv<|bu q.symm H2.out;subst R;clear q P)|(at_builtin;refine aoB _ rfl _ _ 26 rfl w 81 i0 (bJ #[ar au 0,ar au 0]) 2 16 il hi B y C rfl E1 _ _ _ rfl (g.alloc _) wr 1 1 [k,(vl k)] rfl rfl ?c1 ?c2 ?c3 ?c4 ?c5 ?_));(case c1=>intro j an s;match j,s with|0,s=>simp at s;subst s;simp[Addr.add]|1,s=>simp at s;subst s;simp[Addr.add]);(case c2=>intro an hu;simp at hu;rcases hu with rfl|rfl<;>rfl);(case c3=>unfold eK;omega);(case c4=>omega);(case c5=>simp;omega);intro v' w2 t r _;have H:=(fV d aa _).grown r Fk λb hb=>(g.lt b hb).1;go_wp2_with fail;go_roundw;exact⟨k+1,A,pR,by rw[T.out,T2.out];exact t,H⟩;simp[aU];omega
 . (have o:k=100:=A);subst o;go_wp2_with fail;go_ret;simp_all
def Np(hs:V->I)(vl:V->Y):∀n,vf hs vl n=qy (tX hs vl n)|0=>rfl|n+1=>by simp[vf,tX,LW,Np hs vl n];split<;>rfl
def Un(n K off b:V)(f:n<=100000)(hs:V->I)(vl:V->Y)(w:W)(g:aj w (K off N)=u (cf b))(h:oA n w b hs vl):aN E 45 #[ae<|K off N] w λe c=>∃a cap,e=aD (ah a (tX hs vl 100) cap)/\dk c w 81 2 (ah a (tX hs vl 100) cap) (tX hs vl 100) (qy<|tX hs vl 100)/\cj w w c:=by apply aO (aeK n K off b f hs vl w g h);rintro e c⟨v,rfl,d,i⟩;rw[Np,<-Kv hs vl]at d;obtain⟨a,cap,rfl⟩:=xJ d;grind
def ux(t:jE)(l:L<|V×Y)(k:V):L<|V×Y:=(l.take k).filter λx=>lA t x.1
def aiZ{t:jE}{l:L<|V×Y}{k:V}{x:V×Y}(h:l[k]?=u x):ux t l (k+1)=ux t l k++if lA t x.1 then[x]else[]:=by unfold ux;rw[fq,h,gB];grind
def aiO(t:jE)(l:L<|V×Y)(k:V):(ux t l k)<=k:=by have:=aoC (λx=>lA t x.1)<|l.take k;rw[List.length_take]at this;unfold ux;omega
def aol(b:O)(x:jy)(hk:x.jR=[])(a:O)(l:L<|V×Y):∀s,s<7->(lV (a,{x with kh:=F,jR:=l}))[s]?=if s=2 then u a else(lV (b,{x with kh:=F}))[s]?:=by intro s hs;match s,hs with|0,_|1,_|2,_|3,_|4,_|5,_|6,_=>simp[lV]
def abe(a:O)(x:jy):∀s,s<7->(lV (a,{x with kh:=F}))[s]?=if s=1 then u (aZ F)else(lV (a,x))[s]?:=by intro s hs;match s,hs with|0,_|1,_|2,_|3,_|4,_|5,_|6,_=>simp[lV]
end
section
open Go.RowKit Go.Maps Go.Sort
def aaq(K off e:V)(D:jM)(vB vL:O)(p up:V)(b cap:V)(l:L jy)(c:ry D p l<l)(w:W)(h:xR w K off e D vB vL p up b cap l):aN E 103 #[ae<|K off N] w λr a=>r=aD (ae<|b (ry D p l*7) N)/\Below w w a:=(Ug K off e D vB vL p up _ cap l w h).mono λr a f=>by obtain⟨d|d,g⟩:=f;(.grind);.omega
def abo(K off e:V)(D:jM)(vB vL:O)(p up:V)(a:n6 aH)(cap:V)(l:L jy)(c:¬ry D p l<l)(w:W)(h:xR w K off e D vB vL p up a cap l):aN E 103 #[ae<|K off N] w λr b=>r=aD (ae N)/\Below w w b:=(Ug K off e D vB vL p up _ cap l w h).mono λr b f=>by obtain⟨d|d,g⟩:=f;(.omega);grind
def mK.Yf{m:V->V}{w:W}{c:V}{b n cap:V}{l:L jy}(h:mK v m w c (ah b n cap) l){ix:V}{x:jy}(q:l[ix]?=u x)(o:x.kh=z):w.cell? (b (ix*7+2) N)=u (ah N 0 0):=by
 let⟨f,p,k,j,r⟩:=h;have a:(f.map eJ)[ix]?=u x:=by rwa[p]
 rw[fU]at a;cases d:f[ix]? with|none=>grind|some y=>rw[d]at a;simp at a;let⟨i,g⟩:=y;simp at a;subst a;have e:=(j (i,g)<|cF d).2 o;simp at e;have:=(k.cells rfl) (ix*7+2) i (by rw[El lV 7 B5 f ix 2 _ d A];rfl);rw[qn,eV]at this;rw[this,e]
def j6.adA{k n:V->V}{w:W}{e:V}{c:jH}{vB vL:O}{K R:V}{f:V->O}{i:jL}(h:j6 g k w e c vB vL K R f i){p:V}(r:p<=c.D.nb)(jX:c.D.nb<=3){v:O}(s:f (p*10+4)=v){m:W}(a:∀b,v.ownBlock=u b->k b=g+p*10+4)(hk:jq (λb=>u b≠v.ownBlock) w m)(B:∀b,b<w.heap.size->n b=k b){l:L jy}(J:mK g n m (g+p*10+4) v l):j6 g n m e c vB vL K R f {i with jo:=jd i.jo p {i p with jf:=l}}/\Ag g k w m:=by
 have key:=h.put (P:={i p with jf:=l}) r jX A hk.jB B (λb q y C=>hk.jg b (λd=>y<|a b d.symm) q) ((h.jT.jg<|hk.jg K (λd=>by have:=a K d.symm;have:=h.oK;omega) h.jT.lt).jY λj H=>by by_cases d:j=p*10+4;(.rw[rW d,d,s]);.rw[BW d]) (by unfold nP;grind) λG x o=>⟨λ_=>⟨rfl,rfl,rfl⟩,λ_=>rfl,λh=>zW h o,λ_=>rfl,λ_ _=>rfl⟩;refine⟨?_,key.2⟩;have t:(λj=>if j=p*10+4 then v else f j)=f:=pC
 grind
def aah(l:L jy)(i:V)(f g:jy->jy):(l.modify i f).modify i g=l.modify i (λx=>g<|f x):=by apply ic;grind
def adG{l:L jy}{i:V}{x:jy}(h:l[i]?=u x){f g:jy->jy}(a:f x=g x):l.modify i f=l.modify i g:=by apply ic;grind
structure xa(w8:W)(b ix m:V)(cc:V->O)(l:L<|V×Y)(kv:O)(wr:W):U where
 jT:je wr b 173 m λj=>if j=ix*7+2 then kv else cc j
 jV:dk wr 0 81 2 kv l<|qy l
 ge:∀k,kv.ownBlock=some k->w8.heap.size<=k
 kp:jq (λk=>k≠b/\k<w8) w8 wr
def xa.kZ{d:W}{b ix m:V}{f:V->O}{l:L<|V×Y}{c:O}{wr e:W}(h:xa d b ix m f l c wr)(a:Below wr wr e):xa d b ix m f l c e:=⟨h.jT.below a,zp h.jV λk hk=>a.block k (h.jV.lt k hk).2,h.ge,h.kp.jA<|jq.km a⟩
def xa.add{n:W}{b ix m:V}{v:V->O}{l r:L<|V×Y}{g c:O}{wr p d:W}(h:xa n b ix m v l g wr)(y:b<n)(C:Below wr wr p)(o:p.grownBy d g.ownBlock)(B:dk d 0 81 2 c r<|qy r)(t:c.ownBlock=g.ownBlock\/c.ownBlock=u p.heap.size):xa n b ix m v r c (d (b (ix*7+2) N) c)/\aj d (b (ix*7+2) N)=aj p (b (ix*7+2) N)/\fi d (b (ix*7+2) N)=z:=by
 have f:=h.kZ C;have x:=f.kp.jB;have e:u b≠g.ownBlock:=λi=>by have:=h.ge b i.symm;omega
 have a:=f.jT.jg<|o.block b f.jT.lt e;have q:∀k,c.ownBlock=u k->n.heap.size<=k:=λk hk=>by obtain t|t:=t;(.exact h.ge k pC);grind
 refine⟨⟨(a.jl (ix*7+2) c).jY λj D=>pC,?_,q,?_⟩,?_,?_⟩;.exact zp B λk hk=>aoz _ _ _ _ λi=>pC
 .refine(f.kp.jA ⟨o.size,λk hk s=>o.block k s λi=>by have:=h.ge k i.symm;omega⟩).jl (λw=>w.1 rfl) c
 .exact fY<|o.block b f.jT.lt e
 .exact a.kr _
def xa.Hd(hz:1<=v){h:V->V}{d:W}{e:V}{c:jH}{vB vL:O}{K R:V}{f:V->O}{m:jL}(h8:j6 v h d e c vB vL K R f m){p:V}(S:p<=c.D.nb)(jX:c.D.nb<=3){b ix n:V}{T:V->O}{l:L<|V×Y}{B:O}{wr:W}(hf:f (p*10+4)=ah b n g)(G:je d b 173 (g*7) T){x:jy}(hx:(m p).jf[ix]?=u x)(P:x.kh=F)(i:xa d b ix (g*7) T l B wr):mA v h d e c vB vL K R {m with jo:=jd m.jo p {m p with jf:=(m p).jf.modify ix λy=>{y with jR:=l}}} wr:=by
 have w:mK v h d (v+p*10+4) (ah b n g) (m p).jf:=by have:=h8.jo p 4 S A;unfold nP at this;simpa[DE,DP,eN,hf]using this
 have aa:h b=v+p*10+4:=by let⟨_,_,_,_,o4⟩:=w;exact o4 b rfl
 have a:∀k,k<d.heap.size->(λk=>if k<d.heap.size then h k else 0) k=h k:=λk hk=>rW hk;have Q:qV v (λk=>if k<d then h k else 0) wr B l:=qV.jV i.jV (λk hk=>by have:=i.ge k hk;have e0:(λk=>if k<d.heap.size then h k else 0) k=0:=BW A;exact⟨λq=>by have:=q.1;omega,e0⟩);have J:=w.R5 hx (r:=2) A B (λy=>{y with jR:=l}) ⟨i.kp.jB,λk q hk=>i.kp.jg k ⟨λM=>q<|by rw[M];exact⟨A,A⟩,hk⟩ hk⟩ a (λad o=>i.jT.jY λj hj=>by have C:=o.jP hj;rw[G.jP hj]at C;injection C with C;rw[C]) λac _ X=>⟨(B,{x with jR:=l}),rfl,⟨Q,λH=>by simp at H;rw[P]at H;cases H⟩,λs hs=>by match s,hs with|0,_|1,_|2,_|3,_|4,_|5,_|6,_=>simp[lV]⟩;let⟨h9,t⟩:=h8.adA S jX hf (λk hk=>by injection hk with hk;rwa[<-hk]) ⟨i.kp.jB,λk q hk=>i.kp.jg k ⟨λM=>q<|by rw[M];rfl,hk⟩ hk⟩ a J;exact⟨_,_,h9,t,a⟩
def Zk(T:V)(hz:1<=T)(av:V->V)(w:W)(e:V)(c:jH)(vB vL:O)(K R:V)(f:V->O)(d:jL)(h:j6 T av w e c vB vL K R f d)(H:mu c)(p:V)(hp:p<=c.D.nb)(hl:(d p).jf.length<=8)(ht:∀x∈(d p).jf,x.jb<c.D.nl)(hn:(d p).n<=100000)(bA:∀x∈(d p).jf,x.kh=z->x.jR=[]):aN E 64 #[ae<|K (p*10) N] w λr w'=>r=aD (pX c p<|d p).isSome/\mA T av w e c vB vL K R ((qp d p<|pX c p<|d p).getD d) w':=by
 have jX:=H.G.nb;let⟨oa,C,hV⟩:=h.I4 hp ht hl;by_cases J:ry c p (d p).jf<(d p).jf.length;case neg=>have hA:Hid<|pX c p (d p)=N:=BW J;have hC:=abo K (p*10+1) e c vB vL p (d p).up oa C (d p).jf J w hV;have hE:Hid<|∀B,Below w w B->mA T av w e c vB vL K R d B:=λB hW=>h.tq hW;clear J hV h;go_enter aoD,aoE;go_wp2_with(go_at_call 103;apply aO hC;rintro r w6⟨rfl,m⟩);go_ret;exact⟨by rw[hA.out];rfl,by rw[hA.out];exact hE.out _ m⟩
 have hA:Hid<|pX c p (d p)=u {d p with jf:=(d p).jf.modify (ry c p (d p).jf)<|yL c<|d p}:=rW J;obtain⟨x,hx⟩:∃x,(d p).jf[ry c p (d p).jf]?=u x:=⟨_,dw J⟩;have bT:=cF hx;have br:=ht x bT;have ba:x.kh=z:=by let⟨_,_,_,f4⟩:=EM (pA c p (d p).jf) (d p).jf.length 0;have hr:=f4 (by unfold ry at J;omega);change pA c p (d p).jf (ry c p (d p).jf)=F at hr;simp only[pA,pN,hx,aX,fy]at hr;exact hr.1
 have ca:=bA x bT ba;obtain⟨b,_,_,_,rfl,hb,-⟩:=hV.jT _ x hx;have hC:=aaq K (p*10+1) e c vB vL p (d p).up b C (d p).jf J w hV;have an:f (p*10+4)=ah b (d p).jf.length C:=by have h1:=h.jP hp 4 A;have h2:=hV.c3;rw[show p*10+1+3=p*10+4 from rfl,h1]at h2;injection h2
 generalize ry c p (d p).jf=ix at*;clear hV bA ht;go_enter aoD,aoE;go_wp2_with fail;apply aO hC;rintro r w6⟨rfl,m⟩;have h6:=h.below m;have bt:Hid<|Ag T av w w6:=jq.km m;have am:mK T av w6 (T+p*10+4) (ah b (d p).jf.length C) (d p).jf:=by have:=h6.jo p 4 hp A;unfold nP at this;simp only[DE,DP,eN,an]at this;exact this
 have cS:av b=T+p*10+4:=by let⟨_,_,_,_,o4⟩:=am;exact o4 b rfl
 have k2:=am.Yf hx ba;obtain⟨_,_,_,eb,a6,-⟩:=am.at' hx;injection eb with eb;injection eb with eb;subst eb;have y0:=a6.c0;have y1:=a6.c1;have bf:=am.fz<|ix*7+1;clear hC h m a6 hb;have bd:=am.Ws ⟨A,A⟩ hx (r:=1) A F (λy=>{y with kh:=F}) λbp _ bM=>⟨(bp,{x with kh:=F}),rfl,⟨bM.1,λhr=>by cases hr⟩,abe bp x⟩;let⟨h7,a3⟩:=h6.WG hp jX an (λk hk=>by injection hk with hk;rw[<-hk];exact cS) (w2:=w6 (b (ix*7+1) N) F) (mQ.jl (λhh=>hh rfl) _) bd;have b8:Hid<|Ag T av w<|w6 (b (ix*7+1) N) F:=bt.out.jA a3;have bi:aj (w6 (b (ix*7+1) N) F) (b (ix*7+2) N)=u (ah N 0 0):=by rw[<-k2];exact aoF _ _ _ _ F0
 have a9:aj (w6 (b (ix*7+1) N) F) (b (ix*7) N)=u (ar au x.jb):=by rw[<-y0];exact aoF _ _ _ _ F0
 go_wp2_with fail;clear k2 y0 y1 bf am bd a3 bt h6;generalize(w6 (b (ix*7+1) N) F)=w7 at*;let⟨M,m1,m2,m3,m4,m5⟩:=h7.Ig hp;simp only[ki]at m4;apply aO (Un (d p).n K (p*10) M hn (d p).hs (d p).vl w7 m5 m4);rintro r s⟨pa,dd,rfl,Q,aL⟩;have h8:=h7.below aL;have cQ:Hid<|Ag T av w s:=b8.out.jA<|jq.km aL;have a4:Hid<|ux (c x.jb) (tX (d p).hs (d p).vl 100) (tX (d p).hs (d p).vl 100)=yI (c x.jb) (d p).hs (d p).vl:=by show _=_;unfold ux;rw[im];rfl
 have co:=O6 (d p).hs (d p).vl 100;generalize tX (d p).hs (d p).vl 100=o at*;have bX:mK T av s (T+p*10+4) (ah b (d p).jf.length C)<|(d p).jf.modify ix λy=>{y with kh:=F}:=by have:=h8.jo p 4 hp A;unfold nP at this;simp only[DE,DP,eN,an,ki]at this;exact this
 have bq:b<w7:=cJ _ _ a9;have ck:aj s (b (ix*7) N)=u (ar au x.jb):=bu (aQ aL (p:=(b (ix*7) N)) bq) a9;have b9:aj s (b (ix*7+2) N)=u (ah N 0 0):=bu (aQ aL (p:=(b (ix*7+2) N)) bq) bi;obtain⟨cc,ad,db⟩:∃cc,je s b 173 (C*7) cc/\(d p).jf.length<=C:=by let⟨es,o1,o2,o3,o4⟩:=bX;(have bm:((d p).jf.modify ix λy=>{y with kh:=F})=es.length:=by rw[<-o1,List.length_map]);rw[bm]at o2;let⟨cc,r1,r2,r3,r4⟩:=KO lV 7 B5 o2;rw[List.length_modify]at bm;exact⟨cc,r1,A⟩
 have dj:ix*7+7<=C*7:=by have:(ix+1)*7<=C*7:=Nat.mul_le_mul_right _ A;omega
 have a5:b<s:=ad.lt;have bg:Hid<|xa s b ix (C*7) cc (ux (c x.jb) o 0) (ah N 0 0) s:=by refine⟨ad.jY λj hj=>?_,aoG _ _ _ _,(λk hk=>by cases hk),mQ⟩;by_cases e':j=ix*7+2;(.rw[rW e',e'];have:=ad.el<|ix*7+2;rw[b9]at this;injection this with this;exact this.symm);.rw[BW e']
 have bw:cc (ix*7)=x.jb:=by have:=ad.el<|ix*7;rw[ck]at this;injection this with this;exact this.symm
 have cv:K≠b:=λe'=>by have:=h8.oK;rw[e']at this;omega
 have aI:=h8.jT.lt;have cz:=h8.c1 hp;have cg:Hid<|∀k y,o[k]?=u y->∃pb po,pa=u ⟨pb,po,N⟩/\pb≠b/\pb<s.heap.size/\aj s ⟨pb,po+k*2,N⟩=u (ar au y.1)/\aj s ⟨pb,po+k*2+1,N⟩=u (ar au y.2):=λk y hy=>by have bc:k<o:=(fS.1 hy).1;rcases Q.2 with⟨e,df⟩|⟨g,da,ds,e,dl,hg,_⟩;(.omega);.injection e with e1 e2 e3;have X:=Q.cells (g:=g) (by rw[e1];rfl);let⟨g0,g1⟩:=Xt hy;have q0:=X _ _ g0;have q1:=X _ _ g1;rw[qn]at q0 q1;exact⟨g,0,e1,A,(dW.1 hg).1,q0,by rw[fQ];exact q1⟩
 have cM:Hid<|j6 _ _ _ _ _ _ _ _ _ _ _:=h8;have cl:Hid<|∀l kv B,xa s b ix (C*7) cc l kv B->pD B e c vB vL:=λl kv B hg=>(h8.k B ⟨hg.kp.jB,λk hn hk=>hg.kp.jg k ⟨λe'=>hn.1<|by rw[e'];exact⟨A,A⟩,hk⟩ hk⟩).1;have cR:Hid<|((d p).jf.modify ix λy=>{y with kh:=F})[ix]?=u {x with kh:=F}:=by show _=_;rw[fX,hx];simp
 have bR:Hid<|je s b 173 (C*7) cc:=ad;have be:Hid<|_=_:=an;have bz:Hid<|_=_:=bw;have cu:Hid<|(d p).jf[ix]?=u x:=hx;have bo:Hid<|x.jR=[]:=ca;clear h7 h8 bX Q aL m1 m2 m3 m4 m5 a9 bi ad b8 an bw hx ca ba ck b9;go_wp2_with fail;go_loopw[20](λi wr=>∃(k:V)(kv:O),k<=o/\i=k/\Hid (xa s b ix (C*7) cc (ux (c x.jb) o k) kv wr))(λi _=>o-(aU i).toNat);exact⟨0,_,j9,rfl,bg⟩;clear bg;obtain⟨k,kv,hk,rfl,hg⟩:=hrel;by_cases bc:k<o;.obtain⟨y,hy⟩:∃y,o[k]?=u y:=⟨_,dw bc⟩;obtain⟨pb,po,rfl,cb,aR,q0,q1⟩:=cg.out k y hy;let⟨k1,v1⟩:=y;simp only at q0 q1;have hK:=hg.out.kp;have y0:aj wr (pb (po+k*2) N)=u (ar au k1):=bu (fY (w:=s) (a:=(pb (po+k*2) N))<|hK.jg pb ⟨cb,aR⟩ aR) q0;have y1:aj wr (pb (po+k*2+1) N)=u (ar au v1):=bu (fY (w:=s) (a:=(pb (po+k*2+1) N))<|hK.jg pb ⟨cb,aR⟩ aR) q1;have d1:aj wr (K (p*10+1) N)=u (ae e):=bu (fY (w:=s) (a:=(K (p*10+1) N))<|hK.jg K ⟨cv,aI⟩ aI) cz;(have cW:(k:Y)<(o:Y):=A);(have dr:(0:Y)<=(k:Y):=A);have bF:Below wr wr<|ay wr<|ao #[k1,v1] 81:=kI;have ac:Hid<|xa s b ix (C*7) cc (ux (c x.jb) o k) kv<|ay wr<|ao #[k1,v1] 81:=hg.out.kZ bF;have a7:=vU wr (ao #[k1,v1] 81) d1;(have i0:aj (ay wr<|ao #[k1,v1] 81) wr=u (ar au k1):=F0);(have i1:aj (ay wr<|ao #[k1,v1] 81) ⟨wr,1,N⟩=u (ar au v1):=F0);have aV:Hid<|_=_:=aiZ (t:=c x.jb) hy;clear hg hK q0 q1 hy bF;go_wp2_with fail;clear y0 y1 d1;generalize wr.heap.size=bv at*;generalize(ay wr<|ao #[k1,v1] 81)=w9 at*;(have t9:aj w9 (b (ix*7) N)=u (ar au x.jb):=by rw[ac.out.jT.el<|ix*7];show u (if ix*7=ix*7+2 then kv else cc (ix*7))=_;rw[jz,bz.out]);have f1:=cA a7;have f2:=cA t9;have f3:=cA i0;have aS:∀B,Below w9 w9 B->pD B e c vB vL:=λB hW=>cl.out _ _ _<|ac.out.kZ hW;cases al:lA (c x.jb) k1 with|false=>(have aa:Hid<|ux (c x.jb) o (k+1)=ux (c x.jb) o k:=by show _=_;rw[aV.out];simp[al]);(have hC:=λB hW=>by have:=Qi e c vB vL x.jb k1 br B<|aS B hW;rw[al]at this;exact this);clear aV al aS a7 t9 i0 i1;apply cY vI vI;(repeat(go_big_quiet_step((go_at_call 104;exact dI<|hC _<|bG _ _ _))));apply cZ;intro _ a8;let⟨⟨dq,aw⟩,aC⟩:=a8;subst aC;have m:=bG w9 dq aw;generalize grow (redrawn w9 dq) aw=q at*;(have bb:Hid<|xa s b ix (C*7) cc (ux (c x.jb) o<|k+1) kv q:=by show xa _ _ _ _ _ _ _ _;rw[aa.out];exact ac.out.kZ m);clear ac m;go_wp2_with fail;go_roundw;exact⟨k+1,kv,A,pR,bb⟩;simp[aU];omega|true=>(have aa:Hid<|ux (c x.jb) o (k+1)=ux (c x.jb) o k++[(k1,v1)]:=by show _=_;rw[aV.out];simp[al]);(have hC:=λB hW=>by have:=Qi e c vB vL x.jb k1 br B<|aS B hW;rw[al]at this;exact this);clear aV al aS a7 t9;apply cY vI vI;(repeat(go_big_quiet_step((go_at_call 104;exact dI<|hC _<|bG _ _ _))));apply cZ;intro _ a8;let⟨⟨dq,aw⟩,aC⟩:=a8;subst aC;have m:=bG w9 dq aw;generalize grow (redrawn w9 dq) aw=q at*;have v:=ac.out.kZ m;have a2:bv<w9:=cJ _ _ i0;have j0:aj q bv=u (ar au k1):=bu (aQ m (p:=bv) a2) i0;have j1:aj q (bv 1 N)=u (ar au v1):=bu (aQ m (p:=(bv 1 N)) a2) i1;obtain⟨va,vc,rfl⟩:=xJ v.jV;(have jk:aj q (b (ix*7+2) N)=u (ah va (ux (c x.jb) o k) vc):=by rw[v.jT.el<|ix*7+2];show u (if ix*7+2=ix*7+2 then _ else _)=_;rw[rW rfl]);have cn:=vU q (ao #[k1,v1] 81) jk;let⟨cs,hi,cK,ct,cE⟩:=ik Tryz.CP;have di:=aiO (c x.jb) o k;let⟨v',ci,ce,aB,aG,aW⟩:=Ox (P:=E) (ay q<|ao #[k1,v1] 81).drew 26 81 cs _ 2 16 il hi cK ct cE rfl A _ (ux (c x.jb) o k) _ ((zp v.jV λk' cB=>Below.heap_alloc _ _ _ (v.jV.lt k' cB).2:(ay q<|ao #[k1,v1] 81).drew.ownsRow 0 81 2 _ _ _)) q 1 1 [k1,v1] rfl (Hv q _ 81) (by intro dv hu;simp at hu;rcases hu with rfl|rfl<;>rfl) A (by unfold eK;omega) A;(have S:dk ci 0 81 2 v' (ux (c x.jb) o<|k+1)<|qy<|ux (c x.jb) o<|k+1:=by rw[aa.out,LW,fT];exact aB);let⟨a0,a1,c8⟩:=v.add a5 (kI.drew) aG S aW;obtain⟨dm,dh,rfl⟩:=xJ S;have dc:aj ci (b (ix*7+2) N)=u (ah va (ux (c x.jb) o k) vc):=bu a1 cn;have bb:Hid<|xa _ _ _ _ _ _ _ _:=a0;clear v ac m a0 aB S aG aW a1 i0 i1 aa;go_wp2_with fail;go_region_law(apply Iv rfl (bj 40) (bj 42) 26 rfl _ _ rfl rfl _ _ ce);all_goals go_wp2_with fail;go_roundw;exact⟨k+1,_,A,pR,bb⟩;simp[aU];omega
 . (have bx:k=o:=A);(have hF:Hid<|mA T av w e c vB vL K R ((qp d p<|pX c p<|d p).getD d) wr:=by have bB:=hg.out;rw[bx,a4.out]at bB;have:=xa.Hd hz cM.out hp jX be.out bR.out (x:={x with kh:=F}) (by simp only[ki];exact cR.out) rfl bB;simp only[ki,DR,aah]at this;show mA _ _ _ _ _ _ _ _ _ _ _;rw[hA.out];apply mA.mq cQ.out (λ_ _=>rfl);have he:=adG cu.out (f:=λy=>{y with kh:=F,jR:=yI (c x.jb) (d p).hs (d p).vl}) (g:=yL c<|d p) (by simp[yL,bo.out]);show mA T av s e c vB vL K R {d with jo:=jd d.jo p {d p with jf:=(d p).jf.modify ix<|yL c<|d p}} wr;rw[<-he];exact this);(have cX:¬(k:Y)<(o:Y):=A);(have cm:Hid<|(pX c p<|d p).isSome=F:=by show _=_;rw[hA.out];rfl);clear hg bx;go_wp2_with fail;go_ret;exact⟨by rw[cm.out];rfl,hF.out⟩
def Ww{c:V->V}{w:W}:∀(a:L<|O×kU),(∀x∈a,qV v c w x.1 x.2.ps)->xv w (a.flatMap mE) (a.map eJ)|[],_=>.nil|x::a,h=>.cons (h x F0).rd (Ww a λy b=>h y<|by simp[b])
def amH{e:V->V}{w:W}{c:L<|O×kU}(h:∀x∈c,qV v e w x.1 x.2.ps):∀d∈c.flatMap mE,d.oneCell'=F:=by
 intro d b;let⟨x,f,b⟩:=List.mem_flatMap.1 b;let⟨⟨a,i,g⟩,_⟩:=h x f;simp[mE]at b;obtain rfl|rfl|rfl:=b;.rfl
 .rfl
 .rw[g];rfl
def pj.SS{f:V->V}{w:W}{c:V}{v:O}{l:L kU}(h:pj e f w c v l):z9 w v l:=by let⟨a,d,g,b,i⟩:=h;refine⟨a.flatMap mE,Ke g<|amH b,?_⟩;rw[<-d];exact Ww a b
def Gx{w c:W}{base:V}{e:aT}{sz n:V}{v:O}{b:L O}(h:dk w base e sz v n b)(i:Below w w c):dk c base e sz v n b:=by
 obtain d|⟨g,cap,a,e1,e2,e3,f⟩:=h.2;.exact⟨h.1,aA d⟩
 .exact⟨h.1,aJ ⟨g,cap,a,e1,e2,by rwa[i.block g (dW.1 e3).1],f⟩⟩
def ru(i q:V)(t:kU):I:=t.jb==i&&t.fr==q
def amh(b1 b2 i q:V)(x:kU)(b:O)(pa:n6 aH)(d c:V)(a:b=ah pa d c)(w:W)(f:aj w b1=u (ar au i))(h:aj w b2=u (ar au q)):aN E 174 #[bJ #[x.fr,x.jb,b],ae b1,ae b2] w λe g=>e=aD (ru i q x)/\Below w w g:=by have l1:b1<w:=cJ _ _ f;have l2:b2<w:=cJ _ _ h;subst a;cases e1:(x.jb==i)with|false=>(have j:((x.jb:Y)==(i:Y))=z:=by rw[beq_eq_false_iff_ne]at*;omega);go_enter aoH,aoI;go_wp2_with fail;go_ret;exact⟨by rw[(by show _=_;simp[ru,e1]:Hid<|ru i q x=z).out];rfl,kI⟩|true=>(have j:((x.jb:Y)==(i:Y))=F:=by rw[DB]at*;omega);(have hB:Hid<|((x.fr:Y)==(q:Y))=ru i q x:=by show _=_;rw[ru,e1,ig,gC,DB,DB];omega);go_enter aoH,aoI;go_wp2_with fail;go_ret;exact⟨kT hB.out,kI⟩
def Zy(b1 b2 i q:V)(v:O)(l:L kU)(ac:l.length<=1000)(w:W)(B:z9 w v l)(h1:aj w b1=u (ar au i))(h2:aj w b2=u (ar au q)):aN E 170 #[v,dK (.func 174) #[] #[ae b1,ae b2]] w λe M=>∃r:Y,e=aD r/\decide (0<=r)=l.any (ru i q)/\Below w w M:=by
 have l1:b1<w:=cJ _ _ h1;have l2:b2<w:=cJ _ _ h2;let⟨xs,hV,hP⟩:=B;obtain⟨a,cap,rfl,C,t,g,h⟩:=id hV;go_enter Tryz.func170,Tryz.ntmps170;go_wp2;go_loopw[8](λj wr=>∃k:V,k<=l/\j=k/\Hid ((l.take k).any (ru i q)=z)/\Below w w wr)(λj _=>l-(aU j).toNat);exact⟨0,j9,rfl,rfl,jQ⟩;obtain⟨k,hk,rfl,D,c⟩:=hrel;by_cases K:k<l;.obtain⟨x,G⟩:∃x,l[k]?=u x:=⟨_,dw K⟩;let⟨pv,x0,X,x2,S⟩:=hP.get G;cases a with|none=>exact zW (g.1 rfl).1 A|some ad=>let⟨g1,J⟩:=h ad rfl;let⟨y,d⟩:=g1 A;let⟨b,o,sp⟩:=ad;simp only at y d;subst y;(have y0:aj wr (b (o+k*3) N)=u x.fr:=by have:=J _ _ x0;rw[qn]at this;rw[aQ c (p:=(b (o+k*3) N)) d];exact this);(have y1:aj wr (b (o+k*3+1) N)=u x.jb:=by have:=J _ _ X;rw[qn]at this;rw[aQ c (p:=(b (o+k*3+1) N)) d];exact this);(have y2:aj wr (b (o+k*3+2) N)=u pv:=by have:=J _ _ x2;rw[qn]at this;rw[aQ c (p:=(b (o+k*3+2) N)) d];exact this);(have k1:aj wr b1=u i:=by rw[aQ c (p:=b1) l1];exact h1);(have k2:aj wr b2=u q:=by rw[aQ c (p:=b2) l2];exact h2);(have T:(k:Y)<(l:Y):=A);(have aa:(0:Y)<=(k:Y):=A);obtain⟨pa,s,rfl,-⟩:=S;have H:=amh b1 b2 i q x _ pa x.ps s rfl wr k1 k2;have R:Hid<|ru i q x=F->l.any (ru i q)=F:=λB=>List.any_eq_true.2 ⟨x,cF G,B⟩;(have P:Hid<|ru i q x=z->(l.take<|k+1).any (ru i q)=z:=λB=>by rw[fq,G,List.any_append,D.out];simp[B]);clear h J x0 X x2 hV g t C D G;cases f:ru i q x with|true=>rw[f]at H;have Q:Hid<|_=F:=R.out f;clear R P f;go_wp2_with(go_at_call 174;apply aO H;rintro e M⟨rfl,n⟩);go_ret;exact⟨k,rfl,by rw[Q.out];simp,bh c<|bn n c.size⟩|false=>rw[f]at H;have m:Hid<|(l.take<|k+1).any (ru i q)=z:=P.out f;clear R P f;go_wp2_with(go_at_call 174;apply aO H;rintro e M⟨rfl,n⟩);go_roundw;exact⟨k+1,A,pR,m,bh c<|bn n c.size⟩;simp[aU];omega
 . (have m:Hid<|l.any (ru i q)=z:=by have:=D.out;rw[show k=l by omega,im]at this;exact this);clear D;go_wp2_with fail;go_ret;exact⟨-1,rfl,by rw[m.out];rfl,c⟩
def ain(K off i q:V)(f:O)(l:L kU)(g:l.length<=1000)(w:W)(m:aj w (K (off+4) N)=u f)(j:z9 w f l):aN E 150 #[ae<|K off N,i,q] w λe d=>e=aD (l.any<|ru i q)/\Below w w d:=by
 have b:Below w w<|ay (ay w<|ao #[i] 3)<|ao #[q] 3:=yB;have p:=vU _ (ao #[q] 3)<|vU w (ao #[i] 3) m;have n:=Zy w (w.heap.size+1) i q f l g _ (j.below b) (by go_simp) (by go_simp);obtain⟨_,⟨a,cap,rfl,_⟩,_⟩:=id j;have hS:∀w1,(w1=(ay (ay w<|ao #[i] 3)<|ao #[q] 3))->aN E 173 #[ah a l cap,dK (.func 174) #[] #[ae w,ae<|u ⟨w.heap.size+1,0,N⟩]] w1 λe d=>e=aD (l.any<|ru i q)/\Below w1 w1 d:=by rintro w1 rfl;go_enter Tryz.func173,Tryz.ntmps173;go_wp2_with(go_at_call 170;apply aO n;rintro e d⟨r,rfl,k,c⟩;have o:Hid<|_=_:=k;clear k);go_ret;exact⟨kT o.out,c⟩
 have h:=hS _ rfl;clear hS n m j;go_enter Tryz.func150,Tryz.ntmps150;go_wp2_with(go_at_call 173;apply aO h;rintro e d⟨rfl,c⟩);go_ret;exact⟨rfl,bh b<|bn c b.size⟩
def qk(D:jM)(i p k:V):L V:=(dB k).filter λq=>!(q==p)&&lY D i q
def YZ(D:jM)(i p k:V):qk D i p (k+1)=qk D i p k++if(!(k==p)&&lY D i k)=F then[k]else[]:=by unfold qk;rw[List.range_succ,gB];cases h:(!(k==p)&&lY D i k)<;>simp[h]
def RU(D:jM)(i p k:V):(qk D i p k)<=k:=by have:=aoC (λq=>!(q==p)&&lY D i q)<|dB k;rw[List.length_range]at this;exact this
def GI(l:L V):L O:=l.map λn=>(n:V)
def aiF(e:V)(D:jM)(vB vL:O)(i p:V)(hi:i<D.nl)(jX:D.nb<=3)(w:W)(h:pD w e D vB vL):aN E 149 #[ae e,i,p] w λr w'=>∃a cap,r=aD (ah a (qk D i p<|D.nb+1) cap)/\dk w' w 3 1 (ah a (qk D i p<|D.nb+1) cap) (qk D i p<|D.nb+1) (GI<|qk D i p<|D.nb+1)/\Below w w w':=by
 let⟨i0,R,P,J,M⟩:=ik (show(Tryz.prog.info? 3).map (λi=>(i.zero,i.size,i.bytes))=u (u<|ar au 0,1,8)by kernel_rfl);go_enter Tryz.func149,Tryz.ntmps149;go_wp2_with fail;apply aO (Nc e D vB vL _ h);rintro r w1⟨rfl,B⟩;rw[B];clear B w1;go_wp2_with fail;go_loopw[7,11](λv j wr=>∃k:V,k<=D.nb+1/\j=k/\dk wr w 3 1 v (qk D i p k) (GI<|qk D i p k)/\Below w w wr)(λ_ j _=>D.nb+1-(aU j).toNat);exact⟨0,j9,rfl,aoG _ _ _ _,jQ⟩;obtain⟨k,hk,rfl,c,d⟩:=hrel;have X:=h.below d;have ac:=RU D i p k;have am:=d.size;by_cases al:k<D.nb+1;. (have S:(k:Y)<(D.nb:Y)+1:=A);have m:Hid<|_=_:=YZ D i p k;by_cases n:k=p;(. (have Q:((k:Y)!=(p:Y))=z:=by rw[n];simp);(have f:Hid<|qk D i p (k+1)=qk D i p k:=by show _=_;rw[m.out];simp[n]);clear n m;go_wp2_with fail;go_roundw;exact⟨k+1,A,pR,by rw[f.out];exact c,d⟩;simp[aU];omega);. (have Q:((k:Y)!=(p:Y))=F:=Fk);have y:=Dy e D vB vL i k hi wr X;cases l:lY D i k with|false=>rw[l]at y;(have f:Hid<|qk D i p (k+1)=qk D i p k:=by show _=_;rw[m.out];simp[l]);clear n m l;go_wp2_with(go_at_call 43;apply aO y;rintro r w2⟨rfl,o⟩);go_roundw;exact⟨k+1,A,pR,by rw[f.out];exact Gx c o,bh d<|bn o d.size⟩;simp[aU];omega|true=>rw[l]at y;(have f:Hid<|qk D i p (k+1)=qk D i p k++[k]:=by show _=_;rw[m.out];simp[l,n]);clear n m l;go_wp2_with fail;apply aO y;rintro r w2⟨rfl,o⟩;have g:=Gx c o;have s:=bh d<|bn o d.size;have C:=s.size;clear c d y o X;go_wp2_with(at_builtin;apply aoB _ rfl _ _ 22 rfl w 3 i0 kQ 1 8 Tryz.underlying22 R P J M rfl E1 _ _ _ rfl (g.alloc _) w2 1 1 [k] rfl rfl ?c1 ?c2 ?c3 ?c4 ?c5);(case c1=>intro j ad H;match j,H with|0,H=>simp at H;subst H;simp[Addr.add]);(case c2=>intro ad T;simp at T;subst T;rfl);(case c3=>unfold eK;omega);(case c4=>omega);(case c5=>simp;omega);intro v' w3 t q _;have G:Below w w w3:=(fV s C _).grown q Fk λb hb=>(g.lt b hb).1;clear q g;go_wp2_with fail;go_roundw;exact⟨k+1,A,pR,by rw[f.out,fT];simpa[GI]using t,G⟩;simp[aU];omega
 . (have x:k=D.nb+1:=A);obtain⟨va,vc,rfl⟩:=xJ c;(have aa:¬(k:Y)<(D.nb:Y)+1:=A);(have hF:Hid<|dk wr w 3 1 (ah va (qk D i p<|D.nb+1) vc) (qk D i p<|D.nb+1)<|GI<|qk D i p<|D.nb+1:=by rw[x]at c;exact c);have K:Hid<|k=D.nb+1:=x;clear x c;go_wp2_with fail;go_ret;exact⟨va,vc,by rw[K.out];rfl,hF.out,d⟩
structure FI(w:W)(K p e:V)(D:jM)(vB vL:O)(up:V)(a:n6 aH)(cap:V)(l:L jy)(tk:L kU):U where
 lk:xR w K (p*10+1) e D vB vL p up a cap l
 tk:∃vT,aj w (K (p*10+5+4) none)=some vT/\z9 w vT tk
def FI.below{w w':W}{K p e:V}{D:jM}{vB vL:O}{up:V}{a:n6 aH}{cap:V}{l:L jy}{tk:L kU}(h:FI w K p e D vB vL up a cap l tk)(b:Below w w w'):FI w' K p e D vB vL up a cap l tk:=by let⟨c,f,d⟩:=h.tk;exact⟨h.lk.below b,c,by rwa[aQ b (p:=(K (p*10+5+4) N))<|cJ _ _ f],d.below b⟩
def j6.Dr{g:V->V}{w:W}{e:V}{c:jH}{vB vL:O}{K R:V}{f:V->O}{b:jL}(h:j6 v g w e c vB vL K R f b){p:V}(d:p<=c.D.nb)(l:∀x∈(b p).jf,x.jb<c.D.nl)(j:(b p).jf.length<=8):∃a cap,FI w K p e c vB vL (b p).up a cap (b p).jf (b p).ko:=by let⟨a,cap,i⟩:=h.I4 d l j;let⟨n,o,m,k⟩:=h.c9 d;exact⟨a,cap,i,_,m,k.SS⟩
def agW(D:jM)(p:V)(P:Part)(x:jy):sU D p P x=(qk D x.jb p<|D.nb+1).all (λq=>x.jv q&&P.ko.any (ru x.jb q)):=by
 rw[gC,ek];constructor;.intro h q c;simp[qk,fx,dX,aX,fy,beq_eq_false_iff_ne]at c;have:=rO h (k:=q) c.1;simp only[fB,DB,fy]at this;obtain(a|a)|a:=this;(.exact zW a c.2.1);(.rw[c.2.2]at a;cases a);.exact a
 .intro h;(have d:∀n,n<=D.nb+1->lU (λq=>q==p||!lY D x.jb q||(x.jv q&&lM P x.jb q)) n=F:=by intro n;induction n with|zero=>intro _;rfl|succ n f=>intro g;simp only[lU,f A,ig];by_cases b:n=p;(.simp[b]);.cases e:lY D x.jb n with|false=>simp|true=>have:=h n (by simp[qk,fx,dX];exact⟨A,by simp[b,e]⟩);simp only[gF,Bool.or_false];rw[fB];exact aJ this);exact d _ jK
def ahP{D:jM}{i p n q:V}(h:q∈qk D i p n):q<n:=by simp[qk,fx,dX]at h;exact h.1
def RZ(w:W)(x:jy)(a:O):Cx (ay w<|ao #[x.jb,x.kh,a,(x.jv 0),(x.jv 1),(x.jv 2),(x.jv 3)] 173) w 0 x a:=by have r:=lZ w [x.jb,x.kh,a,(x.jv 0),(x.jv 1),(x.jv 2),(x.jv 3)] 173;exact⟨r.el 0,r.el 1,r.el 2,r.el 3,r.el 4,r.el 5,r.el 6⟩
def afx(K p e:V)(D:jM)(jX:D.nb<=3)(vB vL:O)(up:V)(a:n6 aH)(cap:V)(l:L jy)(P:Part)(av:P.ko.length<=1000)(x:jy)(aL:x.jb<D.nl)(ka:n6 aH)(kn kc:V)(w:W)(h:FI w K p e D vB vL up a cap l P.ko):aN E 129 #[ae<|K (p*10) N,bJ #[x.jb,x.kh,ah ka kn kc,(x.jv 0),(x.jv 1),(x.jv 2),(x.jv 3)]] w λr w'=>r=aD (sU D p P x)/\Below w w w':=by
 have hX:Hid<|_=_:=agW D p P x;have G:Below w w<|ay w<|ao #[x.jb,x.kh,ah ka kn kc,(x.jv 0),(x.jv 1),(x.jv 2),(x.jv 3)] 173:=kI;have h1:=h.below G;have hB:=RZ w x<|ah ka kn kc;have aa:w<(ay w<|ao #[x.jb,x.kh,ah ka kn kc,(x.jv 0),(x.jv 1),(x.jv 2),(x.jv 3)] 173).heap.size:=F0
 go_enter Tryz.func129,Tryz.ntmps129;go_wp2_with fail;clear h;generalize al:w.heap.size=an at*;have T:Hid<|w=an:=al;clear al;generalize(ay w<|ao #[x.jb,x.kh,ah ka kn kc,(x.jv 0),(x.jv 1),(x.jv 2),(x.jv 3)] 173)=w1 at*;have d0:=h1.lk.c0;have d1:=h1.lk.c1;have i0:aj w1 an=u (ar au x.jb):=by have:=hB.c0;simpa using this
 have S:=aiF e D vB vL x.jb p aL jX w1.drew<|h1.lk.kn.below lD;go_cut[19,20,21]from 7(λs t a2 wc=>∃oa f,s=ah oa (qk D x.jb p<|D.nb+1) f/\t=((qk D x.jb p<|D.nb+1):V)/\a2=ar au 0/\dk wc w1 3 1 (ah oa (qk D x.jb p<|D.nb+1) f) (qk D x.jb p<|D.nb+1) (GI<|qk D x.jb p<|D.nb+1)/\Below w1 w1 wc);case first=>go_region_with(go_at_call 149;apply aO S;rintro r w2⟨oa,f,rfl,n,aw⟩);all_goals go_wp2_with fail;go_meet;exact⟨oa,f,rfl,rfl,rfl,n,bh lD aw⟩
 case rest=>clear S d0 d1 i0;obtain⟨oa,f,rfl,rfl,rfl,n,ad⟩:=hcut;have aB:=RU D x.jb p<|D.nb+1;have ac:Hid<|∀q∈qk D x.jb p (D.nb+1),q<D.nb+1:=λq J=>ahP J;generalize qk D x.jb p (D.nb+1)=o at*;have aC:=ad.size;go_wp2_with fail;go_loopw[21](λi wr=>∃k:V,k<=o/\i=k/\Hid ((o.take k).all (λq=>x.jv q&&P.ko.any (ru x.jb q))=F)/\Below wc wc wr)(λi _=>o-(aU i).toNat);exact⟨0,j9,rfl,rfl,jQ⟩;obtain⟨k,hk,rfl,m,C⟩:=hrel;have b:Below w1 w1 wr:=bh ad<|bn C aC;by_cases aG:k<o;(.obtain⟨q,J⟩:∃q,o[k]?=u q:=⟨_,dw aG⟩;have a1:=ac.out q<|cF J;(have aI:q<4:=A);have hr:=h1.below b;have M:=hB.kZ b aa;(have ys:aj wr (an (3+q) N)=u (aZ<|x.jv q):=by have:=M.jv aI;simpa using this);(have y0:aj wr an=u (ar au x.jb):=by have:=M.c0;simpa using this);(obtain⟨g,ge,aS,yq⟩:∃g,oa=u ⟨g,0,N⟩/\g<wc.heap.size/\aj wr ⟨g,k,N⟩=u (ar au q):=by rcases n.2 with⟨e1,e2⟩|⟨g,aV,a4,e1,e2,e3,e4⟩;(.omega);.injection e1 with e1;have hc:=n.cells (g:=g) (by rw[e1];rfl) k q (by simp[GI,J]);rw[qn,eV]at hc;have am:g<wc:=(dW.1 e3).1;exact⟨g,e1,am,by rw[aQ C (p:=(g k N)) am];exact hc⟩);subst ge;let⟨vT,t1,t2⟩:=hr.tk;have S:∀X,Below wr wr X->aN E 150 #[ae<|K (p*10+5) N,x.jb,q] X λr W'=>r=aD (P.ko.any<|ru x.jb q)/\Below X X W':=λX hW=>ain K (p*10+5) x.jb q vT P.ko av X (by rw[aQ hW (p:=(K (p*10+5+4) N))<|cJ _ _ t1];exact t1)<|t2.below hW;(have hN:Hid<|(x.jv q&&P.ko.any (ru x.jb q))=z->o.all (λq=>x.jv q&&P.ko.any (ru x.jb q))=z:=λhv=>by cases hz:o.all (λq=>x.jv q&&P.ko.any (ru x.jb q))with|false=>rfl|true=>have:=ek.1 hz q<|cF J;rw[hv]at this;cases this);(have hY:Hid<|(x.jv q&&P.ko.any (ru x.jb q))=F->(o.take<|k+1).all (λq=>x.jv q&&P.ko.any (ru x.jb q))=F:=λhv=>by rw[fq,J,iZ,m.out];simp only[iW,List.all_cons,List.all_nil,hv];rfl);(have aR:(k:Y)<(o:Y):=A);(have a3:(0:Y)<=(k:Y):=A);(have a0:(q:Y)<4:=A);(have a5:(0:Y)<=(q:Y):=A);clear hr M m J t1 t2;go_wp2_with fail;have f1:=cA y0;have f2:=cA ys;clear yq;cases j:x.jv q with|false=>rw[j]at f2;have R:Hid<|_=z:=hN.out (by rw[j];rfl);clear hN hY j ys y0;apply cY vI vI;(repeat(go_big_quiet_step(fail)));apply cZ;intro _ y;let⟨⟨H,d⟩,c⟩:=y;subst c;have B:=bG wr H d;generalize grow (redrawn wr H) d=w6 at*;go_wp2_with fail;go_ret;exact⟨by rw[hX.out,R.out];rfl,by rw[T.out];exact bh G<|bn (bh b<|bn B b.size) A⟩|true=>rw[j]at f2;cases v:P.ko.any (ru x.jb q)with|false=>have R:Hid<|_=z:=hN.out (by rw[v];simp);rw[v]at S;clear hN hY j ys y0 v;apply cY vI vI;(repeat(go_big_quiet_step((go_at_call 150;exact dI<|S _<|bG _ _ _))));apply cZ;intro _ y;let⟨⟨H,d⟩,c⟩:=y;subst c;have B:=bG wr H d;generalize grow (redrawn wr H) d=w6 at*;go_wp2_with fail;go_ret;exact⟨by rw[hX.out,R.out];rfl,by rw[T.out];exact bh G<|bn (bh b<|bn B b.size) A⟩|true=>have Q:Hid<|(o.take<|k+1).all (λq=>x.jv q&&P.ko.any (ru x.jb q))=F:=hY.out (by rw[j,v];rfl);rw[v]at S;clear hN hY j ys y0 v;apply cY vI vI;(repeat(go_big_quiet_step((go_at_call 150;exact dI<|S _<|bG _ _ _))));apply cZ;intro _ y;let⟨⟨H,d⟩,c⟩:=y;subst c;have B:=bG wr H d;generalize grow (redrawn wr H) d=w6 at*;go_wp2_with fail;go_roundw;exact⟨k+1,A,pR,Q,bh C<|bn B C.size⟩;simp[aU];omega);. (have Q:Hid<|o.all (λq=>x.jv q&&P.ko.any (ru x.jb q))=F:=by have:=m.out;rw[show k=o by omega,im]at this;exact this);(have aW:¬(k:Y)<(o:Y):=A);clear m;go_wp2_with fail;go_ret;exact⟨by rw[hX.out,Q.out];rfl,by rw[T.out];exact bh G<|bn b A⟩
end
section
open Go.RowKit
noncomputable def yh:aF:=Tryz.f109.body.getD dH
def ju:aF->aF|aE a _=>a|c=>c
def jm:aF->aF|aE _ b=>b|c=>c
def FG:aF->aF|cV _ c|dR c=>c|c=>c
noncomputable def r0:aF:=ju yh
noncomputable def r1:aF:=ju<|jm yh
noncomputable def r2:aF:=ju<|jm<|jm yh
noncomputable def t3:aF:=jm<|jm<|jm yh
noncomputable def r3:aF:=ju<|ju t3
noncomputable def J2:aF:=jm<|ju t3
noncomputable def lp:aF:=FG J2
noncomputable def lb:aF:=FG lp
noncomputable def r4:aF:=ju lb
noncomputable def Ua:aF:=ju<|jm<|jm lb
noncomputable def Ka:aF:=FG Ua
noncomputable def r5:aF:=ju Ka
noncomputable def r6:aF:=ju<|jm Ka
noncomputable def r7:aF:=jm<|jm Ka
noncomputable def r8:aF:=jm<|jm<|jm lb
noncomputable def t9:aF:=jm t3
noncomputable def r9:aF:=ju t9
noncomputable def oE:aF:=ju<|jm t9
def agj:yh=aE r0 (aE r1<|aE r2<|aE (aE r3<|cV 0<|dR lb)<|aE r9<|aE oE dS):=rfl
def Xf:lb=aE r4 (aE (dJ (bj 15) dH<|eH 0)<|aE (cV 1<|aE r5<|aE r6 r7) r8):=rfl
def s0(p rd:O):Z O:=#[p,rd,ai,ai,ai,ai,ai,ai,ai,ai,ai,ai,ai,ai,ai,ai,ai,ai,ai,ai,ai,ai,ai,ai]
def s1(p rd:O)(a:V):Z O:=#[p,rd,ae a,ai,jw,ai,ai,ai,ai,ai,ai,ai,ai,ai,ai,ai,ai,ai,ai,ai,ai,ai,ai,ai]
def ajp(pa:aH)(rd:O)(w:W):r0.wp E (λe a b=>e=bC/\a=⟨s1 (ae pa) rd w,[]⟩/\b=ay w (ao #[ae pa] 167)) ⟨s0 (ae pa) rd,[]⟩ w:=by simp[r0,yh,dU,cD,ju,s0,s1];go_wp2
def s2(p rd:O)(n a:V):Z O:=#[p,rd,ae a,ai,jw,ae<|u ⟨a+2,0,N⟩,ai,ai,ai,rd,n,ah (u ⟨a+1,0,N⟩) n n,ai,ai,ai,ai,ai,ai,ai,ai,ai,ai,ai,ai]
def ani:(Tryz.prog.info? 202).map (λi=>(i.zero,i.size,i.bytes))=u (u<|bJ #[z,kQ,kQ,kQ,kQ,jw],6,64):=vI
def aiA(n:V)(c:n<2147483647):∃M:Z O,M=6*n/\∀w:W,(Instr.makeSlice 198 (n:Y) (n:Y)).run E w=.ok (ah w n n) (ay w<|ao M 202):=by
 let⟨M,d,a⟩:=Dg 198 202 _ 6 64 Tryz.underlying198 ani n A (by unfold eK;omega) (λj=>(#[aZ z,ar au 0,ar au 0,ar au 0,ar au 0,ah N 0 0])[j%6]!) λj _=>rfl;let⟨b,e1,e2,_⟩:=a default;have e:(ay (default:W)<|ao M 202).heap[(default:W).heap.size]?=u (ao M 202):=by show((default:W).heap.push _)[_]?=_;simp
 grind
def afg(pa:aH)(ra:n6 aH)(n c b:V)(M:Z O)(g:∀w:W,(Instr.makeSlice 198 (n:Y) (n:Y)).run E w=.ok (ah w n n) (ay w<|ao M 202))(w:W)(f:w=b+1):r1.wp E (λe a d=>e=bC/\a=⟨s2 (ae pa) (ah ra n c) n b,[]⟩/\d=ay (ay w<|ao M 202) (ao #[ah (u ⟨b+1,0,N⟩) n n] 198)) ⟨s1 (ae pa) (ah ra n c) b,[]⟩ w:=by simp[r1,yh,dU,cD,ju,jm,s1,s2];go_wp2
def sT(p rd pb a b:O)(n i:V)(f:V->O):Z O:=#[p,rd,pb,f 3,f 4,a,b,f 7,f 8,f 9,f 10,f 11,rd,n,i,f 15,f 16,f 17,f 18,f 19,f 20,f 21,f 22,f 23]
def pE(f:V->O)(k:V)(v:O):V->O:=λj=>if j=k then v else f j
section
variable(p rd pb cv gv:O)(n i:V)(f:V->O)(w:W)
def Vh:r4.wp E (λe a b=>e=bC/\a=⟨sT p rd pb cv gv n i<|pE f 15<|decide<|i<n,[]⟩/\b=w) ⟨sT p rd pb cv gv n i f,[]⟩ w:=by
 have h:decide ((i)<(n))=decide (i<n):=F0
 simp[r4,lb,lp,J2,t3,yh,dU,cD,ju,jm,FG,sT,pE];go_wp2
def adQ(hi:i<2147483647):r8.wp E (λe a b=>e=bC/\a=⟨sT p rd pb cv gv n (i+1)<|pE f 21<|ar au<|(i:Y)+1,[]⟩/\b=w) ⟨sT p rd pb cv gv n i f,[]⟩ w:=by
 simp[r8,lb,lp,J2,t3,yh,dU,cD,ju,jm,FG,sT,pE];have c:wrap64 ((i)+1)=(i)+1:=by unfold wrap64;omega
 go_wp2
end
section
variable(p pb cv gv:O)(rb ro n c i:V)(f:V->O)(w:W)(jb:Y)(rdd:I)(kept:O)(b0 b1 b2 b3:I)
def alR(hi:i<n)(ka:n6 aH)(kn kc:V)(c0:aj w (rb (ro+i*7) N)=u (ar au jb))(c1:aj w (rb (ro+i*7+1) N)=u (aZ rdd))(c2:aj w (rb (ro+i*7+2) N)=u (ah ka kn kc))(c3:aj w (rb (ro+i*7+3) N)=u (aZ b0))(c4:aj w (rb (ro+i*7+4) N)=u (aZ b1))(c5:aj w (rb (ro+i*7+5) N)=u (aZ b2))(c6:aj w (rb (ro+i*7+6) N)=u (aZ b3)):r5.wp E (λe a b=>e=bC/\a=⟨sT p (ah (rb ro N) n c) pb cv gv n i<|pE (pE (pE (pE (pE f 16 i) 17<|ae<|rb (ro+i*7) N) 18<|bJ #[jb,rdd,ah ka kn kc,b0,b1,b2,b3]) 7<|ae w) 8<|ae<|u ⟨w.heap.size+1,0,N⟩,[]⟩/\b=ay (ay w<|ao #[i] 3) (ao #[jb,rdd,ah ka kn kc,b0,b1,b2,b3] 173)) ⟨sT p (ah (rb ro N) n c) pb cv gv n i f,[]⟩ w:=by
 have g:(i)<(n):=A
 have d:(0)<=(i):=A
 simp[r5,Ka,Ua,lb,lp,J2,t3,yh,dU,cD,ju,jm,FG,sT,pE];go_wp2
end
def adk(p b pb cv gv q l m j o d g:O)(ra:n6 aH)(n c:V)(w:W)(h:b=ah ra n c):r3.wp E (λe a r=>e=bC/\a=⟨sT p b pb cv gv n 0 λk=>if k=3 then q else if k=4 then l else if k=7 then m else if k=8 then j else if k=9 then o else if k=10 then d else if k=11 then g else ai,[]⟩/\r=w) ⟨#[p,b,pb,q,l,cv,gv,m,j,o,d,g,ai,ai,ai,ai,ai,ai,ai,ai,ai,ai,ai,ai],[]⟩ w:=by subst h;simp[r3,t3,yh,dU,cD,ju,jm,sT];go_wp2
def alV(p rd pb gv:O)(n i b:V)(f:V->O)(w:W)(ra:aH)(m k:V)(g:aj w b=u (ah ra m k)):oE.wp E (λe a d=>e=bC/\a.defers=[]/\a 4 ai=ah ra m k/\d=w) ⟨sT p rd pb (ae b) gv n i f,[]⟩ w:=by simp[oE,t9,t3,yh,dU,cD,ju,jm,sT];go_wp2
end
section
open Go.Conc Go.ConcN Go.RowKit Go.Conc.Lib Go.ConcR.Gen Go.ConcN.Gen Go.Rel
open Go.ConcR(KK wgBlock WgAt stA smA rd wr mk Payload DC0 ofEvent_cell)
structure zn(ok:jO):U where
 nW:Fits ok E
 nR:sw ok E
 nX:¬ok.nX
 Be:QZ ok
 n9:ok.n9
 gs:ok.gs=1
 mG:ok.mG=1000000
def GW{ok:jO}(h:ok.mG=1000000):D7.Fits ⟨λ_=>z,z,ok.gs,1000000⟩ ok:=⟨(λ_ h=>by cases h),(λh=>by cases h),rfl,h.symm⟩
def Ru(g:V):Go.Rel.pY E ⟨λ_=>z,z,g,1000000⟩ r0=F/\Go.Rel.pY E ⟨λ_=>z,z,g,1000000⟩ r1=F/\Go.Rel.pY E ⟨λ_=>z,z,g,1000000⟩ r2=F/\Go.Rel.pY E ⟨λ_=>z,z,g,1000000⟩ r3=F:=⟨vI,vI,vI,vI⟩
def L3(g:V):Go.Rel.pY E ⟨λ_=>z,z,g,1000000⟩ r4=F/\Go.Rel.pY E ⟨λ_=>z,z,g,1000000⟩ r5=F/\Go.Rel.pY E ⟨λ_=>z,z,g,1000000⟩ r8=F/\Go.Rel.pY E ⟨λ_=>z,z,g,1000000⟩ oE=F:=⟨vI,vI,vI,vI⟩
def wB(wh:W)(pa:aH)(n:V)(M:Z O):W:=ay (ay (ay wh<|ao #[ae pa] 167)<|ao M 202)<|ao #[ah (u ⟨wh.heap.size+1,0,N⟩) n n] 198
def pT{P:bD}{c:aF}{Q d:dP->Act->W->U}{a:Act}{w:W}(h:c.wp P Q a w)(f:∀e a w,Q e a w->d e a w):c.wp P d a w:=by intro b k i;let⟨e,m,l,j,g⟩:=h b k i;exact⟨e,m,l,f _ _ _ j,g⟩
section
variable{ok:jO}
def Vw(B0:zn ok){c:aF}(m:te ok E c){a a':Act}{wh wh':W}(h:∀b d,c.wp E (λe i w1=>e=bC/\i=a'/\w1=wh'.re b d) a<|wh.re b d){k:L az}{j:L ak}{S:L ak->W->U}(hk:Go.Rel.Reach ok E ((base 109).at a' k::j) wh' S):Go.Rel.Reach ok E ((base 109).at a (aq c::k)::j) wh S:=by have n:=BN (ids:=[]) (Q:=λe i w1=>e=bC/\i=a'/\∃b d,w1=wh'.re b d) B0.nW B0.nR m (λe a w b d g=>⟨g.1,g.2.1,by obtain⟨o,r,rfl⟩:=g.2.2;exact⟨b,d,rfl⟩⟩) (λe a w g=>by rw[g.1];trivial) λb d=>pT (h b d) λe a w g=>⟨g.1,g.2.1,b,d,g.2.2⟩;apply(n (base 109) k j ⟨_,hJ⟩ F0).jU;rintro q p⟨e,i,f,rfl,⟨rfl,rfl,b,d,rfl⟩,l⟩;cases l;exact hk.re b d
def X9(B0:zn ok)(pa:aH)(ra:n6 aH)(n c:V)(h:n<2147483647)(wh:W)(g:L ak):Go.Rel.Reach ok E (cG E 109 #[ae pa,ah ra n c] cU::g) wh λi wh'=>∃M:Z O,M=6*n/\(∃a d,wh'=(wB wh pa n M).re a d)/\i=(base 109).at ⟨s2 (ae pa) (ah ra n c) n wh,[]⟩ [aq r2,aq<|aE (aE r3<|cV 0<|dR lb)<|aE r9<|aE oE dS]::g:=by
 have C:=Ru ok.gs;have K:=GW B0.mG;let⟨M,f,b⟩:=aiA n h;have e:cG E 109 #[ae pa,ah ra n c] cU=(base 109).at ⟨s0 (ae pa)<|ah ra n c,[]⟩ [aq yh]:=by simp[cG,Frame.at,hJ,dU,base,yh,s0]
 rw[e,agj];refine Go.Rel.Reach.sI B0.nW B0.nR.mI (fr1:=(base 109).at ⟨s0 (ae pa)<|ah ra n c,[]⟩ [aq r0,aq _]) rfl (oj n7) ?_;apply Vw B0 (uz K C.1) (a':=⟨s1 (ae pa) (ah ra n c) wh,[]⟩) (wh':=ay wh<|ao #[ae pa] 167) (λa d=>ajp pa _<|wh.re a d);refine Go.Rel.Reach.sI B0.nW B0.nR.mI (fr1:=(base 109).at ⟨s1 (ae pa) (ah ra n c) wh,[]⟩ [aq r1,aq _]) rfl (oj n7) ?_;apply Vw B0 (uz K C.2.1) (a':=⟨s2 (ae pa) (ah ra n c) n wh,[]⟩) (wh':=wB wh pa n M) (λa d=>afg pa ra n c wh M b ((ay wh<|ao #[ae pa] 167).re a d)<|by show(wh.heap.push _).size=_;simp);refine Go.Rel.Reach.sI B0.nW B0.nR.mI (fr1:=(base 109).at ⟨s2 (ae pa) (ah ra n c) n wh,[]⟩ [aq r2,aq _]) rfl (oj n7) ?_;exact .vn ⟨M,f,⟨_,_,rfl⟩,rfl⟩
end
def ye(ok:jO)(Wg R n:V):jO:={ok with vK:=λk=>if k=0 then ae Wg else ah R n n}
section
variable{ok:jO}{Wg R n:V}
def Hf(B0:zn ok):AM ok<|ye ok Wg R n:=⟨λ_=>Iff.rfl,⟨B0.nX,B0.nX⟩,rfl,rfl,B0.Be⟩
def QS(B0:zn ok):AM ok ok:=⟨λ_=>Iff.rfl,⟨B0.nX,B0.nX⟩,rfl,rfl,B0.Be⟩
def Fa{P:bD}:∀{c:aF},te ok P c->te (ye ok Wg R n) P c|dH,_=>trivial|eH _,_=>trivial|dS,_=>trivial|fF _,_=>trivial|bP _ ops _,h=>λo d=>h o d|aE a b,h=>⟨Fa h.1,Fa h.2⟩|dJ c a b,h=>⟨h.1,Fa h.2.1,Fa h.2.2⟩|cV _ c,h=>Fa (c:=c) h|dR c,h=>Fa (c:=c) h
def ZQ(C:sw ok E):sw (ye ok Wg R n) E:=⟨C.mI,λf fn c b a d=>Fa<|C.code f fn c b a d⟩
def amv(a:Fits ok E):Fits (ye ok Wg R n) E:=⟨a.gs⟩
end
def oF(wh:W)(pa:aH):W:={wh with heap:=(((wh.heap.map Fo).push<|ao #[ae pa] 167 (0,2)).push<|ao #[] 202 (0,1)).push<|ao #[de 1000000 (1:V)] 198 (0,2)}
def zJ(kN:jG)(c pb C:V):jG:=λb a=>kN b a\/(b=c/\a=pb)\/(b=c+2/\a=C)
section
variable{wh:W}{pa:aH}
def AU:(oF wh pa)=wh.heap.size+3:=by simp[oF]
def EW{b:V}(h:b<wh):(oF wh pa).heap[b]?=(wh.heap[b]?).map Fo:=by simp only[oF];grind
def IA:(oF wh pa).heap[wh.heap.size]?=u (ao #[ae pa] 167 (0,2)):=by simp only[oF];grind
def akY:(oF wh pa).heap[wh.heap.size+1]?=u (ao #[] 202 (0,1)):=by simp only[oF];grind
def I5:(oF wh pa).heap[wh.heap.size+2]?=u (ao #[de 1000000 (1:V)] 198 (0,2)):=by simp only[oF];grind
def Je{b:V}(h:∃x t f,(oF wh pa).heap[b]?=u (ao x t f)):nI (oF wh pa) b:=by
 let⟨x,t,f,e⟩:=h;have c:b<wh.heap.size+3:=by rw[<-AU];exact(dW.1 e).1
 rcases Nat.lt_or_ge b wh with h|h;.rw[EW h]at e;let⟨o,i,a⟩:=gz.1 e;cases o with|cells y d g=>exact⟨y,d,_,by rw[EW h,i];rfl,gJ (Nat.le_max_left ..)<|fJ _⟩|_=>cases a
 .rcases(show b=wh\/b=wh.heap.size+1\/b=wh.heap.size+2 by omega)with rfl|rfl|rfl;(.exact⟨_,_,2,IA,F0⟩);(.exact⟨#[],202,1,akY,F0⟩);.exact⟨_,_,2,I5,F0⟩
end
def aiw{ok:jO}{ρ:jG}{o b:Obj}(h:qN ok ρ o b):qN ok ρ (Fo o) b:=by cases h with|@cells x m a t fr d g=>refine .cells a t ⟨λi f k=>⟨j9,?_⟩,λe=>by simp at e⟩;exact Nat.lt_succ_of_lt<|fl (g.Ot i f k).2<|Nat.le_max_right ..|map a c=>exact .map a c|number j l=>exact .number j l
section
variable{ok:jO}{kN ρ1:jG}{wh w w1:W}{pa:aH}{n Wg C R pb:V}{M:Z O}{τ:V->dF->V}{d:V}
def aii{b:V}(h:b<wh):((wB wh pa n M).re τ d).heap[b]?=wh.heap[b]?:=by show(((wh.heap.push _).push _).push _)[b]?=_;grind
def aci:((wB wh pa n M).re τ d).heap[wh.heap.size]?=u (ao #[ae pa] 167):=by show(((wh.heap.push _).push _).push _)[_]?=_;grind
def amj:((wB wh pa n M).re τ d).heap[wh.heap.size+1]?=u (ao M 202):=by show(((wh.heap.push _).push _).push _)[_]?=_;grind
def adq:((wB wh pa n M).re τ d).heap[wh.heap.size+2]?=u (ao #[ah (u ⟨wh.heap.size+1,0,N⟩) n n] 198):=by show(((wh.heap.push _).push _).push _)[_]?=_;grind
def BV{ok:jO}{ρ:jG}{a:aH}{b:O}(h:jC ok ρ (ae a) b):∃c,b=ae (u c)/\lT ρ a c:=by cases h with|ptr h=>grind
def Lc{ok:jO}{ρ:jG}{a:aH}{m k:V}{b:O}(h:jC ok ρ (ah a m k) b)(hs:a.spot=N:=by rfl):∃c,b=ah (u c) m k/\lT ρ a c:=by cases h with|slice h=>grind|dead a=>cases hs
def WV(B0:zn ok)(h:lF ok kN wh w)(f:lF ok ρ1 ((wB wh pa n M).re τ d) w1)(e:kN.le ρ1){b:V}(c:kN b v):∃o a,wh.heap[b]?=u o/\w1.heap[v]?=u a/\qN ok kN o a:=by let⟨o,a,e1,e2,e3⟩:=f.nU<|e _ _ c;let⟨l,i,g,k,j⟩:=h.nU c;rw[aii (h.lt c).1,g]at e1;cases e1;exact⟨_,_,g,e2,e3.sq (QS B0) e f.inj.fn j⟩
def UE(c:kN.le ρ1)(e:ρ1 wh pb)(a:ρ1 (wh.heap.size+2) C):(zJ kN wh pb C).le ρ1:=by
 rintro b f(h|⟨rfl,rfl⟩|⟨rfl,rfl⟩);.exact c _ _ h
 .exact e
 .exact a
def agU(B0:zn ok)(p:lF ok kN wh w)(f:lF ok ρ1 ((wB wh pa n M).re τ d) w1)(m:kN.le ρ1)(r:ρ1 wh pb)(D:ρ1 (wh.heap.size+2) C)(l:∃x,kN pa.block x)(k:w1.heap[C]?=u (ao #[ah R n n] 198)):lF (ye ok Wg R n) (zJ kN wh pb C) (oF wh pa) w1:=by
 have c:=UE m r D;have j:kN.le<|zJ kN wh pb C:=λb v h=>aA h;refine⟨⟨λa b=>f.inj.fn (c _ _ a)<|c _ _ b,λa b=>f.inj.inj (c _ _ a)<|c _ _ b,λa b=>f.inj.n9 (c _ _ a) b⟩,⟨?_,f.gs.2⟩,λx=>zW x B0.nX,?_,f.kD⟩;.rw[AU];have:=p.gs.1;show ok.gs<=_;omega
 .rintro b v(t|⟨rfl,rfl⟩|⟨rfl,rfl⟩);(.let⟨o,J,e1,e2,e3⟩:=WV B0 p f m t;exact⟨_,_,by rw[EW (p.lt t).1,e1];rfl,e2,aiw<|e3.qz (Hf B0) j⟩);(.let⟨o,J,e1,e2,e3⟩:=f.nU r;rw[aci]at e1;cases e1;cases e3 with|@cells _ y H _ _ P G=>obtain rfl:=G.pU rfl;refine⟨_,_,IA,e2,.cells ?_ _ ⟨λi f q=>zW q F0,λe=>by simp at e⟩⟩;let⟨y⟩:=y;cases H with|cons K hs=>cases hs;obtain⟨S,rfl,s⟩:=BV K;let⟨Q,g⟩:=l;refine .cons (.ptr ⟨aA ?_,s.2⟩) .nil;have:=f.inj.fn (m _ _ g) s.1;grind);.have B:qN (ye ok Wg R n) (zJ kN wh pb v) (ao #[de 1000000 (1:V)] 198 (0,2))<|ao #[ah R n n] 198:=.cells (.cons (jC.tag (ok:=ye ok Wg R n) 1 B0.mG.symm rfl n7) .nil) _ ⟨λi f q=>zW q F0,λe=>by simp at e⟩;exact⟨_,_,I5,k,B⟩
end
def mX:aF->Z aK|bP _ o _=>o|_=>#[]
noncomputable def o2:aK:=((mX r2)[0]?).getD default
def aeU:r2=bP 2 (mX r2) z:=rfl
def Ga:(mX r2)[0]?=u o2/\o2.op=.alloc 224/\o2.dst=u 6/\o2.guard=N/\(mX r2).size=1:=⟨rfl,rfl,rfl,rfl,rfl⟩
def ud:Obj:=ao #[ar dz 0,ar .u32 0] 224
def XI(e:dy->O)(w:W):(bE e o2).run E w=.ok (.value<|ae w) (ay w ud)/\(bE e o2).events E w #[]=#[]:=by
 constructor;.unfold bE;simp only[Ga.2.1];simp[go_sem,ud]
 .unfold bE;simp only[Ga.2.1];simp[go_sem]
def XZ(f:ak)(hk:f.kind≠eM)(T:Z O)(D:L fg)(i:L ak)(k:L az)(w:W):bQ E F AtRel (λ_ _ o=>o=#[]) (λg a=>∃d,g=G (f.at ⟨bI T 6<|ae w,D⟩ k) i/\a=(ay w ud).at d) 3 (G (f.at ⟨T,D⟩<|aq r2::k) i) w:=by rw[aeU];refine dL rfl λa c=>?_;obtain⟨d1,rfl⟩:=c;rw[iO];refine⟨rfl,dL rfl λn h=>?_⟩;obtain⟨d2,rfl⟩:=h;rw[Ga.2.2.2.2];have j:=XI (⟨T,D⟩:Act).eval<|(w.at d1).at d2;show(bZ E F (G (f.at ⟨T,D⟩<|ax (mX r2) (0::[])::k) i) _).goes _;rw[gY Ga.1 (by simp[cT,Ga.2.2.2.1]) hk j.1];unfold listed;rw[j.2,fP];refine⟨rfl,dL rfl λl b=>?_⟩;obtain⟨d3,rfl⟩:=b;rw[aM];refine⟨rfl,λm e=>?_⟩;obtain⟨d4,rfl⟩:=e;exact⟨d4,by rw[Ga.2.2.1];rfl,rfl⟩
def sP(p rd:O)(n a:V):Z O:=#[p,rd,ae a,ai,jw,ae<|u ⟨a+2,0,N⟩,de 1000000 (0:V),ai,ai,rd,n,cO,ai,ai,ai,ai,ai,ai,ai,ai,ai,ai,ai,ai]
def I0(kN:jG)(w:W)(a:V):U:=∃b,kN b a/\∃x t f,w.heap[a]?=u (ao x t f)
noncomputable def CW:aF:=aE (aE r3<|cV 0<|dR lb)<|aE r9<|aE oE dS
def Pb(T:Z O)(h:T.size=24):∃s B x r v q t w C y p n e d g i f m k a o j b c,T=#[s,B,x,r,v,q,t,w,C,y,p,n,e,d,g,i,f,m,k,a,o,j,b,c]:=by let⟨l⟩:=T;match l,h with|[s,B,x,r,v,q,t,w,C,y,p,n,e,d,g,i,f,m,k,a,o,j,b,c],_=>simp
section
variable{ok:jO}{kN ρ1:jG}{wh w w1:W}{pa:aH}{ra:n6 aH}{n c:V}{M:Z O}{τ:V->dF->V}{d:V}{le cs:L ak}{gs gs1:Z bK}{t t1:fw}{q q1:V->V}{Shun Shun1:Loc->U}
def anR{ok e:jO}{P:bD}{ρ ρ1:jG}(K:AM ok e)(k:ρ.le ρ1)(o:∀{a b f},ρ1 a b->ρ1 a f->b=f){l la:L ak}(j:Fs e P ρ1 l la):∀{lb:L ak},Fs ok P ρ l lb->Fs ok P ρ l la:=by induction j with|nil=>intro lb _;exact .nil|cons h m _ i=>intro lb p;cases p with|cons g r gs=>exact .cons {g with fn:=h.fn,BY:=h.BY,sj:=kH.sq K k o h.sj g.sj,rv:=h.rv,yp:=h.yp,zP:=h.zP} m<|i gs
def lI{ok:jO}{ρ:jG}{v e:O}{x f:L O}(h:kH ok ρ (v::x)<|e::f):jC ok ρ v e/\kH ok ρ x f:=by cases h with|cons a b=>exact⟨a,b⟩
def yj{ok:jO}{ρ:jG}{T b:Z O}(h:jW ok ρ T b){k:V}{v:O}(hk:T[k]?=u v):∃a,b[k]?=u a/\jC ok ρ v a:=by
 rcases h.get? k with⟨e,_⟩|⟨g,f,e1,e2,e3⟩;.grind
 grind
def alb(B0:zn ok)(an:wF ok E kN le wh gs w t q Shun)(Gr:Bl kN w ρ1 w1)(bf:∃x,kN pa.block x)(a8:∀a,ra=u a->∃x,kN a.block x)(bM:∃fe aG,Fs ok E kN (fe::cs) aG)(H:wF ok E ρ1 ((base 109).at ⟨s2 (ae pa) (ah ra n c) n wh,[]⟩ [aq r2,aq CW]::cs) ((wB wh pa n M).re τ d) gs1 w1 t1 q1 Shun1)(hM:M=6*n)(sl:n6<|V×V):∃(Wg C R pb:V)(s:Sn)(a0:n6 (V×V))(f:ak)(ba:L ak),(∃dd,runNT E dd (crowd gs1 w1 sl) t1=(.next<|crowd s.gs s.w a0,s.t))/\(∀aw RS,mC (ye ok Wg R n) E (Ar Wg C R n gs1 s.w s.w s.w (I0 kN s.w) Shun1 aw RS) 0 (zJ kN wh pb C) (oF wh pa) 0 qY s/\Go.Rel.Stat (Ar Wg C R n gs1 s.w s.w s.w (I0 kN s.w) Shun1 aw RS))/\s.gs[0]?=u (G f ba)/\qD (ye ok Wg R n) E (zJ kN wh pb C) ((base 109).at ⟨sP (ae pa) (ah ra n c) n wh,[]⟩ [aq CW]) f/\Plain f/\Fs ok E kN cs ba/\w<=pb/\w<=C/\w<=R/\w<=Wg/\w<=s.w.heap.size/\(∀b p,kN b p->∃o o',wh.heap[b]?=u o/\s.w.heap[p]?=u o'/\qN ok kN o o')/\kN.le (zJ kN wh pb C):=by let⟨la,a7,bT⟩:=H.g0;cases bT with|@cons _ T hf hp _ ba hs=>simp only[List.headD_cons,List.tail_cons]at a7;(have dc:T=T.at ⟨T.tmps,T.defers⟩ (aq r2::[aq CW]):=by have a2:=hf.BY;have a3:=hf.rv;have a4:=hf.yp;let⟨fn,cM,cQ,bq,cK,kind,round⟩:=T;simp only[base,Frame.at]at a2 a3 a4;subst a2 a3 a4;rfl);have hT:=hf.sj;have br:T.tmps.size=24:=hT.jB.symm;let⟨_,g2,co⟩:=yj hT (k:=2) rfl;let⟨_,g5,bX⟩:=yj hT (k:=5) rfl;let⟨_,aS,bi⟩:=yj hT (k:=11) rfl;obtain⟨⟨pb,_,_⟩,rfl,aC,rfl,rfl⟩:=BV co;obtain⟨⟨C,_,_⟩,rfl,hC,rfl,rfl⟩:=BV bX;obtain⟨⟨R,_,_⟩,rfl,hR,rfl,rfl⟩:=Lc bi;simp only at aC hC hR;have he:=an.vy;have S:=H.vy;have be:∀{b p},kN b p->b<wh:=λy=>(he.lt y).1;(have K:∀{b p},ρ1 b p->wh<=b->w<=p:=λ{b p}y aV=>(Gr.qw b p y).resolve_left λhx=>pC);have ck:=K aC jK;have fC:=K hC A;have fR:=K hR A;(have yH:ok.lS.tY.size<=w.heap.size:=by apply Nat.le_of_not_lt;intro al;have:=an.jr w al;grind);(obtain⟨M',cv,b8⟩:∃M':Z O,w1.heap[R]?=u (ao M' 202)/\M'=6*n:=by let⟨o,o',e1,e2,e3⟩:=S.nU hR;rw[amj]at e1;cases e1;cases e3 with|cells hx _ aL=>obtain rfl:=aL.pU rfl;exact⟨_,e2,by rw[<-hx.jB];exact hM⟩);(have bo:w1.heap[C]?=u (ao #[ah R n n] 198):=by let⟨o,o',e1,e2,e3⟩:=S.nU hC;rw[adq]at e1;cases e1;cases e3 with|@cells _ x' hx _ _ _ aL=>obtain rfl:=aL.pU rfl;let⟨x'⟩:=x';cases hx with|cons hv hs=>cases hs;obtain⟨⟨R',_,_⟩,rfl,ha,rfl,rfl⟩:=Lc hv;obtain rfl:=S.inj.fn hR ha;exact e2);have bm:=(S.lt hR).2;have bg:=(S.lt hC).2;(have ce:R≠C:=λe=>pC);have aW:=agU (Wg:=w1) B0 he S Gr.le aC hC bf bo;have aV:=UE (wh:=wh) Gr.le aC hC;(have cE:gs1[0]?=u (G (T.at ⟨T.tmps,T.defers⟩<|aq r2::[aq CW]) ba):=pC);obtain⟨Nn,bF,a',w',a0,t',q',a6,bb,cz,⟨J,rfl,rfl⟩,bc,ac⟩:=walk_beside (P:=E) (Shun:=Shun1) (B:=w1) (D:=λ_ _ es=>es=#[]) (λ_ _ es h e he=>pC) (3+sumTo gs1 q1) 3 gs1 _ w1 sl t1 q1 jK cE H.lv H.GM<|XZ T hf.zP T.tmps T.defers ba [aq CW] w1;have aR:((ay w1 ud).at J).heap=w1.heap.push ud:=rfl;(have Q:((ay w1 ud).at J)=w1.heap.size+1:=by rw[aR];simp);(have aa:∀p,p<w1.heap.size->((ay w1 ud).at J).heap[p]?=w1.heap[p]?:=λp y=>pC);(have ci:((ay w1 ud).at J).heap[w1.heap.size]?=u ud:=pC);have a9:=E8 aW (w':=(ay w1 ud).at J) A (λb p y=>aa p (aW.lt y).2) ⟨rfl,rfl⟩;(have aB:∀{b p:V},zJ kN wh pb C b p->(∃x t f,((ay w1 ud).at J).heap[p]?=u (ao x t f))->nI (oF wh pa) b:=by intro b p y⟨x,t,f,e⟩;let⟨o,o',e1,e2,e3⟩:=a9.nU y;rw[e]at e2;cases e2;cases e3 with|cells=>exact Je ⟨_,_,_,e1⟩);(have ca:∀{b p:V},zJ kN wh pb C b p->b≠wh.heap.size+1/\b<wh.heap.size+3:=by rintro b p(y|⟨rfl,_⟩|⟨rfl,_⟩);(.grind);(.omega);.omega);refine⟨w1,C,R,pb,⟨bF,(ay w1 ud).at J,t',λ_=>⟨λ_ _=>False,[],wh,0⟩,λ_=>⟨0,0,0⟩,λ_=>0,q',0,0⟩,a0,_,ba,⟨Nn,a6⟩,λaw RS=>⟨⟨?_,ci,?_⟩,?_⟩,cz,?_,⟨hp.qS,hp.rm⟩,?_,ck,fC,fR,Gr.jB,pC,?_,λb p h=>aA h⟩;(.refine⟨bb,λk g hk _ hg=>bc.old k g hk hg,λk hk=>bc.above k<|by rw[bb];exact hk,λi hi=>zW hi A,?_,?_,?_,?_,ac.hears,λi hi=>zW hi A,λi hi=>zW hi A,λi hi=>zW hi A,?_⟩;(.refine⟨a9,λx g hg=>aA<|an.n9 x g hg,λi hi=>zW hi A,λi hi=>zW hi A,λi hi=>zW hi A,λi hi=>zW hi A,λi hi=>zW hi A,λb p y al=>?_,λi hi=>zW hi A,λb p y=>?_,λi hi=>zW hi A,?_,?_,?_,λp av=>?_,λp av=>?_,jK,λi hi=>zW hi A⟩;(.rcases y with y|⟨rfl,rfl⟩|⟨rfl,rfl⟩;(.let⟨x,t,hi,e,_⟩:=an.yU b p y al;exact Je ⟨_,_,_,by rw[EW<|be y,e];rfl⟩);(.exact Je ⟨_,_,_,IA⟩);.exact Je ⟨_,_,_,I5⟩);(.have al:=(aW.lt y).2;refine⟨by show p≠w1;omega,λe=>?_,λe=>?_,λl hl=>?_⟩;(.have e:p=R:=e;subst e;exact(ca y).1<|S.inj.inj (aV _ _ y) hR);(.have e:p=C:=e;grind);.have:=H.Kj b p<|aV _ _ y;cases l with|cell a=>exact this.1 a hl|obj r=>have e:r=p:=hl;subst e;exact this.2|_=>exact hl.elim);(.show _<((ay w1 ud).at J).heap.size/\_<((ay w1 ud).at J).heap.size/\_<((ay w1 ud).at J).heap.size/\_/\_/\_;rw[Q];have:=Gr.jB;refine⟨by show w1.heap.size<_;omega,by show C<_;omega,by show R<_;omega,jK,by show ok.lS.tY.size<=w1.heap.size;omega,by show ok.lS.tY.size<=R;omega⟩);(.exact bu (aa _ bg) bo);(.exact⟨M',bu (aa _ bm) cv,b8⟩);(.have hk:=H.jr p av;refine bu (aa p ?_) hk;have:p<ok.lS.tY.size:=av;omega);.let⟨b,y,hx⟩:=av;have al:=(S.lt<|Gr.le _ _ y).2;refine⟨rfl,by show p≠w1;omega,λe=>?_,by show p<((ay w1 ud).at J);rw[Q];omega,λb2 bt=>aB bt hx⟩;have e:p=R:=e;subst e;have:=S.inj.inj (Gr.le _ _ y) hR;grind);(. (have cn:lJ (Ar w1 C R n gs1 ((ay w1 ud).at J) ((ay w1 ud).at J) ((ay w1 ud).at J) (I0 kN<|(ay w1 ud).at J) Shun1 aw RS) 0=λ_=>False:=by funext g;apply propext;unfold lJ;simp);rw[cn];refine Tl.P7 ac λi a ha⟨ad,e,y⟩=>?_;let⟨op,am,ct⟩:=touch_of ha;have:=WH (ac.seen op<|eX am) ct;rw[e]at this;have:ad.block<w1:=this;have y:ad.block=w1:=y;omega);(.exact(Kn.P7 ac).jh λg hg=>hg.elim);(.intro i hi;let⟨op,am,bB⟩:=gz.1 hi;have:=ac.seen op<|eX am;rw[bB]at this;exact zW (show w1<w1.heap.size from this) A);.intro op am;have:=MemAct.low_mono (fJ _)<|ac.seen op am;grind);(.have:=Ve (j:=0) (D:=λ_=>⟨0,0,0⟩) λi hi=>zW hi A;simpa[Vc,sumTo]using this);(.refine⟨by show R≠w1;omega,by show C≠w1;omega,ce,λi i' o a1 a2 a3 a4=>?_,λa ha ho=>?_,λa ha ho=>?_,λl hl=>?_,?_⟩;(.have a1:6*i<=o:=a1;have a2:o<6*i+6:=a2;have a3:6*i'<=o:=a3;have a4:o<6*i'+6:=a4;omega);(.have dv:a.block<w1:=H.kZ _ ho;have ds:a.block=w1:=ha;omega);(.have:=H.Kj _ _ hR;cases a with|cell ad=>exact this.1 ad ha ho|obj r=>have e:r=R:=ha;subst e;exact this.2 ho|_=>exact ha.elim);(.show l.low ((ay w1 ud).at J);rw[Q];exact Loc.low_mono (fJ _)<|H.kZ l hl);.exact(dW.1 a7).1);(.have jr:∀{v v':O},jC ok ρ1 v v'->(∃a5,jC ok kN v a5)->jC (ye ok w1 R n) (zJ kN wh pb C) v v':=λh⟨a5,hu⟩=>(h.sq (QS B0) Gr.le S.inj.fn hu).qz (Hf B0) λb p h=>aA h;have bd:(∃x,kN pa.block x)->∃a5,jC ok kN (ae pa) a5:=λ⟨x,hx⟩=>⟨ae<|u ⟨x,pa.off,pa.spot⟩,.ptr ⟨hx,rfl,rfl⟩⟩;(have X:(∀a,ra=u a->∃x,kN a.block x)->∃a5,jC ok kN (ah ra n c) a5:=by intro h;cases ra with|none=>exact⟨_,.qd n c⟩|some a=>let⟨x,hx⟩:=h a rfl;exact⟨ah (u ⟨x,a.off,a.spot⟩) n c,jC.slice (a:=a) (a':=⟨x,a.off,a.spot⟩) ⟨hx,rfl,rfl⟩ n c⟩);refine⟨hf.fn,rfl,by intro i hi;simp only[Frame.at,gM]at hi;subst hi;trivial,?_,rfl,rfl,?_,rfl,rfl,hf.zP⟩;rotate_left;(.rfl);show jW (ye ok w1 R n) (zJ kN wh pb C) (sP (ae pa) (ah ra n c) n wh) (bI T.tmps 6<|ae w1);let⟨v0,v1,v2,v3,v4,v5,v6,v7,v8,v9,dq,da,dl,dj,c8,cS,df,di,cW,cR,db,cX,dr,dh,eT⟩:=Pb T.tmps br;have bp:=hT;rw[eT]at bp g2 g5 aS;simp only[iK,List.getElem?_cons_succ,iM,fA]at g2 g5 aS;subst g2 g5 aS;rw[eT];have m:=bp;simp only[s2]at m;let⟨h0,m⟩:=lI m;let⟨S,m⟩:=lI m;let⟨h2,m⟩:=lI m;let⟨h3,m⟩:=lI m;let⟨h4,m⟩:=lI m;let⟨h5,m⟩:=lI m;let⟨h6,m⟩:=lI m;let⟨h7,m⟩:=lI m;let⟨h8,m⟩:=lI m;let⟨h9,m⟩:=lI m;let⟨b9,m⟩:=lI m;let⟨dm,m⟩:=lI m;let⟨cm,m⟩:=lI m;let⟨bR,m⟩:=lI m;let⟨cu,m⟩:=lI m;let⟨cB,m⟩:=lI m;let⟨bw,m⟩:=lI m;let⟨cl,m⟩:=lI m;let⟨cc,m⟩:=lI m;let⟨bx,m⟩:=lI m;let⟨cg,m⟩:=lI m;let⟨cb,m⟩:=lI m;let⟨bA,m⟩:=lI m;let⟨bv,m⟩:=lI m;simp only[sP,List.setIfInBounds_toArray];exact(.cons (jr h0<|bd bf)<|.cons (jr S<|X a8)<|.cons (.ptr ⟨aJ<|aA ⟨rfl,rfl⟩,rfl,rfl⟩)<|.cons (jr h3 ⟨_,.sg⟩)<|.cons (jr h4 ⟨_,.qd 0 0⟩)<|.cons (.ptr ⟨aJ<|aJ ⟨rfl,rfl⟩,rfl,rfl⟩)<|.cons (jC.tag (ok:=ye ok w1 R n) 0 B0.mG.symm rfl n7)<|.cons (jr h7 ⟨_,.sg⟩)<|.cons (jr h8 ⟨_,.sg⟩)<|.cons (jr h9<|X a8)<|.cons (jr b9 ⟨_,.int au n⟩)<|.cons (.mj n7)<|.cons (jr cm ⟨_,.sg⟩)<|.cons (jr bR ⟨_,.sg⟩)<|.cons (jr cu ⟨_,.sg⟩)<|.cons (jr cB ⟨_,.sg⟩)<|.cons (jr bw ⟨_,.sg⟩)<|.cons (jr cl ⟨_,.sg⟩)<|.cons (jr cc ⟨_,.sg⟩)<|.cons (jr bx ⟨_,.sg⟩)<|.cons (jr cg ⟨_,.sg⟩)<|.cons (jr cb ⟨_,.sg⟩)<|.cons (jr bA ⟨_,.sg⟩)<|.cons (jr bv ⟨_,.sg⟩) .nil));(.obtain⟨fe,aG,aI⟩:∃fe aG,Fs ok E kN (fe::cs) aG:=bM;cases aI with|cons _ _ bz=>exact anR (QS B0) Gr.le S.inj.fn hs bz);.intro b p y;let⟨o,o',e1,e2,e3⟩:=WV B0 he S Gr.le y;grind
end
end
end Go.Proofs.YtldeiiffabfmeaaGreatDoor
namespace Go.Rel
section
def AL(a:cr)(ops:Z aK)(n:V)(tail:L V):I:=decide (n<=ops)&&((dB n).all λi=>match ops[i]? with|u o=>o.after.toList.all λe=>!cd a e||(decide (e.on<n)&&decide (e.on<i))|N=>F)&&((dB<|ops-n).all λk=>(dB n).all λj=>Jj a ops n (n+k) j)&&(G9 a ops (ops-n) (du n F++du (ops-n) z)==u tail)
def Ce{f:cr}{ops:Z aK}{n:V}{tail:L V}(h:AL f ops n tail=F):Cut f ops n tail:=by
 simp only[AL,aX,DA,ek,dX,DB]at h;let⟨⟨⟨p,q⟩,l⟩,m⟩:=h;have b:∀(i:V)o,i<n->ops[i]?=u o->∀e∈o.after,cd f e=F->e.on<n/\e.on<i:=by intro i o hi c e a d;have:=q i hi;rw[c]at this;simp only[ek]at this;have:=this e (by simpa using a);simpa[d]using this
 refine⟨p,λi o hi c e a d=>(b i o hi c e a d).1,λk hk g j r=>?_,m,⟨id,λi o hi c e a d=>(b i o hi c e a d).2⟩⟩;have:=l (k-n) A j r;rwa[show n+(k-n)=k by omega]at this
end
end Go.Rel
namespace Go.Proofs.YtldeiiffabfmeaaGreatDoor
section
open Go.Conc Go.ConcN Go.RowKit Go.Conc.Lib Go.ConcR.Gen Go.ConcN.Gen Go.Rel
open Go.ConcR(KK wgBlock WgAt stA smA rd wr mk Payload DC0 ofEvent_cell)
def Ob:AL .any ti 25 [25,26]=F/\AL .text ti 25 [25,26]=F/\AL .gc ti 25 [25,26]=F:=⟨vI,vI,vI⟩
def aaZ(m:I):Eb m ti 25 [25,26]:=⟨λ_=>Ce Ob.1,λ_ _=>⟨Ce Ob.2.1,Ce Ob.2.2⟩⟩
def aiS:∀(i:V)o j a,i<25->ti[i]?=u o->o.guard=u (j,a)->j<25:=by
 have h:(ti.toList.all λo=>o.guard.isNone)=F:=vI
 intro i o j a _ b c;have:=ek.1 h o (by simpa using eX b);rw[c]at this;cases this
def No(b:jO)(n:V)(RS:V->Z O->W->U)(i:V)(a:Act)(w:W):U:=a.defers=[]/\a.tmps.size=31/\a.tmps[5]?=u (de b.mG (1:V))/\a.tmps[6]?=u (ar au i)/\∃x,a.tmps[29]?=u (bJ x)/\x.size=6/\(∀v∈x,v.oneCell'=F)/\i<n/\RS i x w
def H8(b:jO)(n:V)(RS:V->Z O->W->U)(i:V)(c j g h:O)(wh:W):U:=∀f d,(bP 1 (ti.extract 0 25) F).wp E (λe a w=>e=bC/\No b n RS i a w) ⟨zC cO c j g h,[]⟩<|wh.re f d
structure L4(okW:jO):U where
 nW:Fits okW E
 nR:sw okW E
 ops:∀(i:V)o,i<25->ti[i]?=some o->qh okW E o
def aiL{c:jO}(r:L4 c){n:V}{RS:V->Z O->W->U}(D:∀i x w G d,RS i x w->RS i x (w.re G d)){i:V}{o j m p:O}{wh:W}(h:H8 c n RS i o j m p wh)(e:∃(f:jG)(y:Z O)(C:W),jW c f (zC cO o j m p) y/\lF c f wh C/\tL c f):Go.Rel.Safe c E (W8 c n RS i) [EZ.at ⟨zC cO o j m p,[]⟩ [aq H5]] wh:=by let⟨f,y,C,K,X,P⟩:=e;have Q:qD c E f (EZ.at ⟨zC cO o j m p,[]⟩ [])<|EZ.at ⟨y,[]⟩ []:=⟨rfl,rfl,λ_ h=>(by cases h),K,rfl,rfl,rfl,rfl,rfl,show cU≠eM by decide⟩;rw[ano];have hs:=agh r.nW r.nR (id:=1) (b:=EZ) (k:=[]) (cs:=[]) (td:=[]) (R:=No c n RS i) (aaZ _) E1 aiS r.ops (λa w G d g=>⟨g.1,g.2.1,g.2.2.1,g.2.2.2.1,by let⟨x,q,t,v,s,B⟩:=g.2.2.2.2;exact⟨x,q,t,v,s,D _ _ _ _ _ B⟩⟩) h ⟨_,gW⟩ ⟨f,[_],C,.cons Q ⟨rfl,rfl⟩ .nil,X,P⟩;refine Go.Rel.Safe.jh ?_ hs;rintro l w⟨⟨T,df⟩,rfl,H,q,t,v,x,s,B,M,J,S⟩;simp only at H;subst H;exact⟨T,x,rfl,q,t,v,s,B,M,J,S⟩
end
end Go.Proofs.YtldeiiffabfmeaaGreatDoor
namespace Go.Rel
section
open Go.Conc Go.ConcN
open Go.ConcR(Payload)
variable[Payload]{ok:jO}{P:bD}{J:pP}{j:V}{ρ0:jG}{wh wh':W}{d0:V}{tag:CTag}
def mC.Cw{s:Sn}{a:V->dF->V}{d:V}(h:mC ok P J j ρ0 (wh.re a d) d0 tag s):mC ok P J j ρ0 wh d0 tag s:=by have m:=h.cy.ly;exact⟨{h.cy with ly:=⟨⟨m.oq.inj,m.oq.gs,m.oq.rn,m.oq.nU,m.oq.kD⟩,m.Bb,m.kV,m.n9,m.AX,m.BG,m.xZ,m.yU,m.uw,m.vV,m.xX,m.lt,m.xI,m.jT,m.jr,m.Dv,m.n1⟩},h.wg,h.rv⟩
structure uU(ok:jO)(P:bD)(J:pP)(j:V)(ρ0:jG)(wh:W)(d0:V)(tag:CTag)(ba:L ak)(fr:ak)(s:Sn)(f:ak):U where
 Cr:mC ok P J j ρ0 wh d0 tag s
 EU:s.gs[0]?=some (G f ba)
 kV:qD ok P ρ0 fr f
 xM:Plain f
def Uo{k:L ak}(r:we P J j)(G:Fits ok P)(B:qa ok P)(i:tag≠bN){fr:ak}{S:L ak->W->U}(hs:Safe ok P S [fr] wh){s:Sn}{f:ak}(h:uU ok P J j ρ0 wh d0 tag k fr s f)(hS:∀l w,S l w->∃a wh' p d,l=[a]/\w=World.re wh' p d/\S l wh')(sl:n6<|V×V):∃q n b y a wh',mY P s sl q n/\uU ok P J j b wh' d0 tag k a q y/\ρ0.le b/\S [a] wh':=by let⟨s1,c,e,l1,t,D,H,r1,c1,b1,k1,m,v⟩:=aaV r G B i k hs (X:=[]) sl h.Cr (by simpa using h.EU)<|.cons h.kV h.xM .nil;obtain⟨a,o,p,d,rfl,rfl,C⟩:=hS _ _ v;cases k1 with|cons g x gs=>cases gs;exact⟨s1,c,e,D,a,o,r1,⟨c1.Cw,by simpa using b1,g,x⟩,m,C⟩
def tT{o:L ak}(y:we P J j)(t:Fits ok P)(B:qa ok P)(g:tag≠bN){fr fr1:ak}{s:Sn}{f:ak}(h:uU ok P J j ρ0 wh d0 tag o fr s f)(r:jV P [fr]=pure [fr1])(hd:wH ok P [fr])(sl:n6<|V×V):∃q k a D,mY P s sl q k/\uU ok P J j a wh d0 tag o fr1 q D/\ρ0.le a:=by
 have hs:Safe ok P (λl w=>l=[fr1]/\∃b d,w=wh.re b d) [fr] wh:=by refine .step hd (λb d=>⟨[fr1],wh.re b d,#[],by rw[r];rfl⟩) λb d K M H p=>?_;rw[r]at p;cases p;exact .stop ⟨rfl,b,d,rfl⟩
 let⟨s1,n,i,G,v,x,r1,c,m,e1,b,d,e2⟩:=Uo y t B g hs h (λl w⟨e,b,d,C⟩=>⟨fr1,wh,b,d,e,C,e,wh.tape,wh.drawn,rfl⟩) sl;cases e1;subst e2;exact⟨s1,n,i,G,r1,⟨c.Cr.Cw,c.EU,c.kV,c.xM⟩,m⟩
def Ho{H:L ak}(ac:we P J j)(G:Fits ok P)(C:sw ok P)(v:tag≠bN){c:aF}(hc:te ok P c){b:ak}{a:Act}{k:L az}{X:Act->U}(R:∃fn,P.funcs[b.fn]?=u fn)(hw:∀g d,c.wp P (λe t w1=>e=bC/\X t/\w1=wh'.re g d) a<|wh.re g d){s:Sn}{f:ak}(h:uU ok P J j ρ0 wh d0 tag H (b.at a<|aq c::k) s f)(sl:n6<|V×V):∃K y m f' i,mY P s sl K y/\uU ok P J j m wh' d0 tag H (b.at i k) K f'/\ρ0.le m/\X i:=by
 have o:yc ok P (b.at a (aq c::k)::[]) wh:=⟨ρ0,[f],s.w,.cons h.kV h.xM .nil,h.Cr.cy.ly.oq,h.Cr.cy.ly.Bb⟩;have hs:=ada (ids:=[]) (Q:=λe t w1=>e=bC/\X t/\∃g d,w1=wh'.re g d) G C hc (λe a w g d p=>⟨p.1,p.2.1,by obtain⟨aa,d',rfl⟩:=p.2.2;exact⟨g,d,rfl⟩⟩) (λe a w p=>by rw[p.1];trivial) (λg d=>by intro b k cs;let⟨e,i,w',n,h2⟩:=hw g d b k cs;exact⟨e,i,w',⟨n.1,n.2.1,g,d,n.2.2⟩,h2⟩) R F0 o;have B:Safe ok P (λl w=>∃i,l=[b.at i k]/\X i/\∃g d,w=wh'.re g d) [b.at a<|aq c::k] wh:=by refine Safe.jh ?_ hs;rintro l w⟨e,i,f,rfl,⟨rfl,q,g,d,rfl⟩,hx⟩;cases hx;exact⟨i,rfl,q,g,d,rfl⟩
 let⟨s1,D,r,S,T,M,r1,n,x,i,e1,q,g,d,e2⟩:=Uo ac G C.mI v B h (λl w⟨i,e,q,g,d,e'⟩=>⟨b.at i k,wh',g,d,e,e',i,e,q,wh'.tape,wh'.drawn,rfl⟩) sl;cases e1;subst e2;exact⟨s1,D,r,S,i,r1,⟨n.Cr.Cw,n.EU,n.kV,n.xM⟩,x,q⟩
end
end Go.Rel
namespace Go.Proofs.YtldeiiffabfmeaaGreatDoor
section
open Go.Conc Go.ConcN Go.RowKit Go.Conc.Lib Go.ConcR.Gen Go.ConcN.Gen Go.Rel
open Go.ConcR(KK wgBlock WgAt stA smA rd wr mk Payload DC0 ofEvent_cell)
noncomputable def Mo:aF:=aE r9<|aE oE dS
noncomputable def KL:L az:=[eG lb,dG 0,aq Mo]
noncomputable def K6:L az:=aq r7::dG 1::aq r8::KL
def agA:r7=bP 7 (mX r7) z:=rfl
structure vH where
 jb:Y
 kh:I
 ka:n6 aH
 kn:V
 kc:V
 b0:I
 b1:I
 b2:I
 b3:I
def vH.ou(e:vH):Z O:=#[e.jb,e.kh,ah e.ka e.kn e.kc,e.b0,e.b1,e.b2,e.b3]
def D5(w:W)(rb o:V)(e:vH):U:=w.cell? (rb o N)=u (ar au e.jb)/\aj w (rb (o+1) N)=u (aZ e.kh)/\aj w (rb (o+2) N)=u (ah e.ka e.kn e.kc)/\aj w (rb (o+3) N)=u (aZ e.b0)/\aj w (rb (o+4) N)=u (aZ e.b1)/\aj w (rb (o+5) N)=u (aZ e.b2)/\aj w (rb (o+6) N)=u (aZ e.b3)
def om(w:W)(i:V)(e:vH):W:=ay (ay w<|ao #[i] 3)<|ao e.ou 173
def fR(f:V->O)(rb ro i a:V)(e:vH):V->O:=pE (pE (pE (pE (pE (pE f 15 F) 16 i) 17<|ae<|rb (ro+i*7) N) 18<|bJ e.ou) 7<|ae a) 8<|ae<|u ⟨a+1,0,N⟩
section
variable{ok:jO}{J:pP}{j:V}{ρ0:jG}{wh:W}{ba:L ak}{s:Sn}{f:ak}{p pb cv gv:O}{rb ro n c i:V}{fv:V->O}
def adR(g:we E J j)(k:Fits ok E)(C:sw ok E)(ht:ok.mG=1000000){b:vH}(hi:i<n)(o:D5 wh rb (ro+i*7) b)(h:uU ok E J j ρ0 wh 0 qY ba ((base 109).at ⟨sT p (ah (rb ro N) n c) pb cv gv n i fv,[]⟩<|aq lb::KL) s f)(sl:n6<|V×V):∃s' al l f',mY E s sl s' al/\uU ok E J j l (om wh i b) 0 qY ba ((base 109).at ⟨sT p (ah (rb ro N) n c) pb cv gv n i<|fR fv rb ro i wh b,[]⟩<|ax (mX r6) [0]::K6) s' f'/\ρ0.le l:=by
 have ne:qY≠bN:=F0
 have B:=C.mI;have hb:∃fn,Tryz.prog.funcs[(base 109).fn]?=u fn:=⟨_,hJ⟩;have CB:=L3 ok.gs;have K:=GW ht;let⟨e0,e1,e2,e3,e4,e5,e6⟩:=o;rw[Xf]at h;let⟨s1,R,aC,f1,q1,h1,l1⟩:=tT g k B ne h rfl (oj n7) sl;let⟨s2,T,aG,f2,a2,q2,h2,l2,x2⟩:=Ho (X:=λa=>a=⟨sT p (ah (rb ro N) n c) pb cv gv n i<|pE fv 15 F,[]⟩) (wh':=wh) g k C ne (uz K CB.1) hb (λv d=>pT (Vh p _ pb cv gv n i fv<|wh.re v d) λe a w m=>⟨m.1,pC,m.2.2⟩) h1 R;subst x2;let⟨s3,Q,aW,f3,q3,h3,l3⟩:=tT g k B ne h2 (fr1:=(base 109).at ⟨sT p (ah (rb ro N) n c) pb cv gv n i<|pE fv 15 F,[]⟩<|aq (dJ (bj 15) dH<|eH 0)::aq (aE (cV 1<|aE r5<|aE r6 r7) r8)::KL) rfl (oj n7) T;let⟨s4,am,aL,f4,q4,h4,l4⟩:=tT g k B ne h3 (fr1:=(base 109).at ⟨sT p (ah (rb ro N) n c) pb cv gv n i<|pE fv 15 F,[]⟩<|aq dH::aq (aE (cV 1<|aE r5<|aE r6 r7) r8)::KL) rfl (oj n7) Q;let⟨s5,x,av,f5,q5,h5,l5⟩:=tT g k B ne h4 (fr1:=(base 109).at ⟨sT p (ah (rb ro N) n c) pb cv gv n i<|pE fv 15 F,[]⟩<|aq (aE (cV 1<|aE r5<|aE r6 r7) r8)::KL) rfl (oj n7) am;let⟨s6,ad,aV,f6,q6,h6,l6⟩:=tT g k B ne h5 (fr1:=(base 109).at ⟨sT p (ah (rb ro N) n c) pb cv gv n i<|pE fv 15 F,[]⟩<|aq (cV 1<|aE r5<|aE r6 r7)::aq r8::KL) rfl (oj n7) x;let⟨s7,S,aB,f7,q7,h7,l7⟩:=tT g k B ne h6 (fr1:=(base 109).at ⟨sT p (ah (rb ro N) n c) pb cv gv n i<|pE fv 15 F,[]⟩<|aq (aE r5<|aE r6 r7)::dG 1::aq r8::KL) rfl (oj n7) ad;let⟨s8,aa,aR,f8,q8,h8,l8⟩:=tT g k B ne h7 rfl (oj n7) S;let⟨s9,D,aw,f9,a9,q9,h9,l9,x9⟩:=Ho (X:=λa=>a=⟨sT p (ah (rb ro N) n c) pb cv gv n i<|fR fv rb ro i wh b,[]⟩) (wh':=om wh i b) g k C ne (uz K CB.2.1) hb (λv d=>pT (alR p pb cv gv rb ro n c i (pE fv 15 F) (wh.re v d) b.jb b.kh b.b0 b.b1 b.b2 b.b3 hi b.ka b.kn b.kc e0 e1 e2 e3 e4 e5 e6) λe a w m=>⟨m.1,m.2.1,m.2.2⟩) h8 aa;subst x9;let⟨aI,r,an,aS,ac,P,Pk⟩:=tT g k B ne h9 (fr1:=(base 109).at ⟨sT p (ah (rb ro N) n c) pb cv gv n i<|fR fv rb ro i wh b,[]⟩<|aq r6::aq r7::dG 1::aq r8::KL) rfl (oj n7) D;let⟨H,q,t,f11,y,G,M⟩:=tT g k B ne P rfl (oj n7) r;exact⟨H,q,t,f11,(((q1.jA q2).jA<|q3.jA q4).jA<|(q5.jA q6).jA<|q7.jA q8).jA<|(q9.jA ac).jA y,G,(((l1.jA l2).jA<|l3.jA l4).jA<|(l5.jA l6).jA<|l7.jA l8).jA<|(l9.jA Pk).jA M⟩
end
noncomputable def o6:aK:=((mX r6)[0]?).getD default
def IY:(mX r6)[0]?=u o6/\o6.op=.call {callee:=.value<|.func 130,args:=#[bj 6,dM<|ar au 1],argTypes:=#[224,3]}/\o6.dst=u 19/\o6.guard=N:=⟨rfl,rfl,rfl,rfl⟩
noncomputable def o9:aK:=((mX r9)[0]?).getD default
def Iq:(mX r9)[0]?=u o9/\o9.op=.call {callee:=.value<|.func 136,args:=#[bj 6],argTypes:=#[224]}/\o9.dst=u 22/\o9.guard=N/\(mX r9).size=1:=⟨rfl,rfl,rfl,rfl,rfl⟩
noncomputable def Eg:aK:=((mX r7)[0]?).getD default
noncomputable def FP:aK:=((mX r7)[1]?).getD default
def Iu:(mX r7)[0]?=u Eg/\Eg.op=.makeFunc (.func 131) #[] #[bj 6,bj 2,bj 8,bj 5,bj 7]/\Eg.dst=u 20/\Eg.guard=N:=⟨rfl,rfl,rfl,rfl⟩
def FD:(mX r7)[1]?=u FP/\FP.op=.go {callee:=.value<|bj 20,args:=#[],argTypes:=#[]}/\FP.dst=N/\FP.guard=N/\(mX r7).size=2:=⟨rfl,rfl,rfl,rfl,rfl⟩
section
variable{Wg:V}{fb:ak}{T:Z O}{D:L fg}{ba:L ak}{K:L az}
def XT(hk:fb.kind≠eM)(d:T[6]?=u (ae Wg))(w:W)(hF:cN 224 Wg w):Vm E 224 Wg (λg _=>g=G (fb.at ⟨bI T 19<|dg #[],D⟩<|ax (mX r6) []::K) ba) (G (fb.at ⟨T,D⟩<|ax (mX r6) [0]::K) ba) w:=by
 have e:(#[bj 6,dM<|ar au 1]).map (⟨T,D⟩:Act).eval=#[ae Wg,ar au 1]:=by simp[bU,bO,d]
 refine⟨13,dL rfl λa b=>gT IY.1 (by simp[cT,IY.2.2.2]) hk IY.2.1 gU (nm_add Bo) rfl ⟨⟨rfl,rfl⟩,?_⟩⟩;rw[e,<-enter_at _ gU rfl];refine add1 (mT:=0) K5 (λw _=>?_) a<|b hF;exactλc _=>by rw[IY.1];show G (fb.at ((⟨T,D⟩:Act).put o6.dst _) _) _=_;rw[IY.2.2.1];rfl
def aik(hk:fb.kind≠eM)(e:T[6]?=u (ae Wg))(w:W)(hF:cN 224 Wg w):oY E 224 Wg (uR E dA<|oY E 224 Wg<|AA Bo Wg (fb.at ⟨T,D⟩<|ax (mX r9) [0]::K) ba) (G (fb.at ⟨T,D⟩<|ax (mX r9) [0]::K) ba) w:=by
 have d:(#[bj 6]).map (⟨T,D⟩:Act).eval=#[ae Wg]:=by simp[bU,bO,e]
 obtain⟨m,c⟩:∃m,∀a,cN 224 Wg a->bQ E F (RA 224 Wg) DC0 (uR E dA<|oY E 224 Wg<|AA Bo Wg (fb.at ⟨T,D⟩<|ax (mX r9) [0]::K) ba) m (G (cG E 136 #[ae Wg] cU)<|fb.at ⟨T,D⟩ (ax (mX r9) (0::[])::K)::ba) a:=⟨10,λa h=>anB K5 a h⟩;refine⟨m+1,dL rfl λa b=>gT Iq.1 (by simp[cT,Iq.2.2.2.1]) hk Iq.2.1 gV (nm_wait Bo) rfl ⟨⟨rfl,rfl⟩,?_⟩⟩;rw[d,<-enter_at _ gV rfl];exact c a<|b hF
def ahK(g:bK)(w:W)(h:AA Bo Wg (fb.at ⟨T,D⟩<|ax (mX r9) (0::[])::K) ba g w):oY E 224 Wg (JY E 224 Wg (AA Bo Wg (fb.at ⟨T,D⟩<|ax (mX r9) (0::[])::K) ba) λg _=>g=G (fb.at ⟨bI T 22<|dg #[],D⟩<|ax (mX r9) []::K) ba) g w:=aeO (mT:=0) K5 (λw _ a _=>by rw[Iq.1];show G (fb.at ((⟨T,D⟩:Act).put o9.dst _) _) _=_;rw[Iq.2.2.1];rfl) g w h
def C3(d c a b e:O):O:=dK (.func 131) #[] #[d,c,a,b,e]
def akO{e i g b f:O}(c:T[6]?=u e)(h:T[2]?=u i)(d:T[8]?=u g)(a:T[5]?=u b)(j:T[7]?=u f)(w:W):(bE (⟨T,D⟩:Act).eval Eg).run E w=.ok (.value<|C3 e i g b f) w/\(bE (⟨T,D⟩:Act).eval Eg).events E w #[]=#[]:=by
 have e6:(⟨T,D⟩:Act).eval (bj 6)=e:=by simp[bU,bO,c]
 have e2:(⟨T,D⟩:Act).eval (bj 2)=i:=by simp[bU,bO,h]
 have k:(⟨T,D⟩:Act).eval (bj 8)=g:=by simp[bU,bO,d]
 have e5:(⟨T,D⟩:Act).eval (bj 5)=b:=by simp[bU,bO,a]
 have l:(⟨T,D⟩:Act).eval (bj 7)=f:=by simp[bU,bO,j]
 constructor;.unfold bE;simp only[Iu.2.1];simp[go_sem,c,h,d,a,j,C3]
 .unfold bE;simp only[Iu.2.1];simp[go_sem,c,h,d,a,j]
def ajS(hk:fb.kind≠eM){f d h e j:O}(l:T[6]?=u f)(p:T[2]?=u d)(n:T[8]?=u h)(o:T[5]?=u e)(m:T[7]?=u j)(w:W):oY E 224 Wg (λg _=>g=G (fb.at ⟨bI T 20<|C3 f d h e j,D⟩<|ax (mX r7) [1]::K) ba) (G (fb.at ⟨T,D⟩<|ax (mX r6) []::aq r7::K) ba) w:=by refine⟨3,?_⟩;rw[agA];refine dL rfl λb _=>?_;rw[aM];refine⟨⟨rfl,rfl⟩,dL rfl λk _=>?_⟩;rw[iO];refine⟨⟨rfl,rfl⟩,dL rfl λa _=>?_⟩;have c:=akO (D:=D) l p n o m a;rw[FD.2.2.2.2];show(bZ E F (G (fb.at ⟨T,D⟩<|ax (mX r7) (0::[1])::K) ba) _).goes _;rw[gY Iu.1 (by simp[cT,Iu.2.2.2]) hk c.1];unfold listed;rw[c.2,fP];refine⟨⟨rfl,rfl⟩,λi _=>?_⟩;show G (fb.at ((⟨T,D⟩:Act).put Eg.dst _) _) _=_;rw[Iu.2.2.1];rfl
def afQ(hk:fb.kind≠eM){d b e c f:O}(a:T[20]?=u (C3 d b e c f))(w:W):bZ E F (G (fb.at ⟨T,D⟩<|ax (mX r7) [1]::K) ba) w=.spawn (G (fb.at ⟨T,D⟩<|ax (mX r7) []::K) ba) (born E<|Em d b e c f) w #[]:=by
 have g:(⟨T,D⟩:Act).eval (bj 20)=C3 d b e c f:=by simp[bU,bO,a]
 have h:(bE (⟨T,D⟩:Act).eval FP).run E w=.ok (.spawn<|Em d b e c f) w:=by unfold bE;simp only[FD.2.1];simp[go_sem,resolve,a,C3,Em]
 have i:(bE (⟨T,D⟩:Act).eval FP).events E w #[]=#[]:=by unfold bE;simp only[FD.2.1];simp[go_sem,resolve,a,C3]
 rw[stepG_spawn FD.1 (by simp[cT,FD.2.2.2.1]) hk h rfl];unfold listed;rw[i,fP,FD.2.2.1];rfl
end
end
end Go.Proofs.YtldeiiffabfmeaaGreatDoor
